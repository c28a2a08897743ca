/-
  slices.Delete (of one), slices.Clone on elements of another kind.
-/
import Derived.Test.YtcnjgjgppbakdaaRtxb
namespace Go.Proofs.Ytcnjgjgppbakdaa
set_option linter.unusedVariables false
open Go.RowKit

/-- What Delete leaves. -/
def DelPost_r (w : World) (B g c : Nat) (l : List It) (i : Nat) (e : Ending) (w' : World) : Prop :=
  e = .returned (.slice (some ⟨g, 0, none⟩) (l.length - 1) c) ∧ OwnK encIt w' B 49 (.slice (some ⟨g, 0, none⟩) (l.length - 1) c) (l.eraseIdx i) ∧ Fo (fun k => k = g) w w'

set_option maxHeartbeats 4000000 in
set_option maxRecDepth 100000 in
theorem rdelete_any (g m c : Nat) (l : List It) (i : Nat) (w : World) (B : Nat) (hn : l.length = m + 1) (h : OwnK encIt w B 49 (.slice (some ⟨g, 0, none⟩) (m + 1) c) l) (hi : i ≤ m) (hl : m ≤ 1000) :
    Calls Try.prog 29 #[.slice (some ⟨g, 0, none⟩) (m + 1) c, .int .i64 i, .int .i64 (i + 1)] w (DelPost_r w B g c l i) := by
  obtain ⟨i0, hi0, hz0, hz1, hz2⟩ := info_parts Try.infoCu_r
  obtain ⟨R, hR, hBg, -, hlc, hcm, hRl, hRt⟩ := h.row
  have hrl3 : R.length = c * 9 := hRl
  have hcell : ∀ j u, (kcs encIt l)[j]? = some u → w.cell? ⟨g, j, none⟩ = some u := fun j u hu => by
    have := World.ownsRow.cells h (g := g) rfl j u hu
    simpa [Addr.add_lit] using this
  obtain ⟨LD, hLD⟩ : ∃ LD, LD = kcs encIt (l.drop (i + 1)) := ⟨_, rfl⟩
  have LDL : RowKit.Hid (LD.length = (m - i) * 9) := Lib.hid (by rw [hLD, kcs_length, List.length_drop, hn, show m + 1 - (i + 1) = m - i by omega]; rfl)
  have LDC : RowKit.Hid (∀ j u, LD[j]? = some u → w.cell? ⟨g, (i + 1) * 9 + j, none⟩ = some u) := Lib.hid (fun j u hj => by
    rw [hLD, kcs_drop encIt l (i + 1) (by omega), List.getElem?_drop] at hj
    exact hcell _ u hj)
  have LD1 : RowKit.Hid (∀ u ∈ LD, u.oneCell' = true) := Lib.hid (by rw [hLD]; exact kcs_one encIt _)
  have F1 : RowKit.Hid (i * 9 + (m - i) * 9 + 9 ≤ R.length ∧ m * 9 + 9 ≤ R.length) := Lib.hid (by rw [hrl3]; omega)
  have fin : ∀ (w3 : World) (R3 : List Value), w3.heap[g]? = some (.cells R3.toArray 49 (0, 0)) → R3.length = R.length → R3.take (m * 9) = (splice R (i * 9) LD).take (m * 9) → Fo (fun k => k = g) w w3 → DelPost_r w B g c l i (.returned (.slice (some ⟨g, 0, none⟩) m c)) w3 := by
    intro w3 R3 h3 hl3 ht3 hf3
    have e1 : l.length - 1 = m := by omega
    have e2 : (l.eraseIdx i).length = m := by rw [List.length_eraseIdx, if_pos (by omega)]; omega
    refine ⟨by rw [e1], ?_, hf3⟩
    have hh := ownK_row (E := encIt) (l := l.eraseIdx i) (B := B) (cap := c) h3 hBg (by rw [e2]; omega) hcm (by rw [hl3]; exact hRl) (by
      rw [e2, show m * encIt.k = m * 9 from rfl, ht3, hLD]
      have := del_shift (E := encIt) (cur := R) (l := l) (i := i) (by omega) (by rw [hRl]; exact Nat.mul_le_mul_right _ hlc) hRt
      rw [e1] at this
      exact this)
    rw [e2] at hh
    rw [e1]
    exact hh
  have FIN := Lib.hid fin
  have RL := Lib.hid hrl3; have HR := Lib.hid hR
  have hlc2 : m + 1 ≤ c := by omega
  have hcm63 : c ≤ 9223372036854775807 := by unfold maxLen at hcm; omega
  have hci : ¬ (c = i) := by omega
  have hic : i ≤ c := by omega
  have hcm1 : ¬ (c = m) := by omega
  have hx1 : ((i : Int) == (i : Int) + 1) = false := by rw [beq_eq_false_iff_ne]; omega
  have hx2 : (i : Int) ≤ (m : Int) := by omega
  have hx3 : (0 : Int) ≤ (i : Int) + 1 := by omega
  have hx4 : (i : Int) + 1 ≤ (m : Int) + 1 := by omega
  have htn : ((i : Int) + 1).toNat = i + 1 := by omega
  have hx5 : ¬ (m + 1 = i) := by omega
  have hx6 : (m : Int) + 1 ≤ (c : Int) := by omega
  clear h hRl hrl3 hRt hcell hn hLD hR hBg hcm hlc fin
  have after : ∀ (w3 : World), w3.heap[g]? = some (.cells (splice R (i * 9) LD).toArray 49 (0, 0)) → Fo (fun k => k = g) w w3 →
      ∃ w4, (∀ ty, (Builtin.clear_ #[45] ty #[.slice (some ⟨g, m * 9, none⟩) 1 (c - m)]).run Try.prog w3 = .ok (.tuple #[]) w4) ∧ DelPost_r w B g c l i (.returned (.slice (some ⟨g, 0, none⟩) m c)) w4 := by
    intro w3 h3 hf3
    have hl3 : (splice R (i * 9) LD).length = R.length := length_splice _ _ _ (by rw [LDL.out]; have := F1.out.1; omega)
    obtain ⟨w4, hr, ⟨R4, h4, hl4, ht4⟩, hf4⟩ := run_clear_k (P := Try.prog) w3 45 49 _ Try.underlying45 (fun w => Try.zeroValue49 w) (by
      intro v hv
      simp [Value.cells] at hv
      (repeat' (rcases hv with rfl | hv)) <;> first | rfl | (subst hv; rfl)) (by decide) (n := 1) (c := c - m) (o := m * 9) (by decide) h3 (by rw [hl3]; exact F1.out.2)
    exact ⟨w4, hr, FIN.out w4 R4 h4 (by rw [hl4, hl3]) ht4 (hf3.trans hf4)⟩
  have AFT := Lib.hid after
  clear after
  by_cases hc1 : c = i + 1
  · subst hc1
    obtain rfl : m = i := by omega
    have hLD0 : LD = [] := List.eq_nil_of_length_eq_zero (by rw [LDL.out]; omega)
    have HL0 := Lib.hid hLD0
    have F2 : RowKit.Hid (m * 9 ≤ R.length) := Lib.hid (by have := F1.out.2; omega)
    clear hLD0
    have hx7 : (m : Int) ≤ (m : Int) + 1 := by omega
    go_enter Try.func29, Try.ntmps29
    go_wp2
    go_region_law (refine step_append_k rfl (.tmp 22) (.tmp 25) 45 45 rfl 49 i0 9 Try.underlying45 hi0 hz1 g m (m + 1) (by simp [Act.eval, Act.put]) (.slice (some ⟨g, 0, none⟩) 0 0) 0 [] (by simp [Act.eval, Act.put]) (Src.ofSlice _ Try.underlying45 ⟨g, 0, none⟩ 0 0 [] (by simp) (by simp) (by simp)) (by omega) R HR.out (by simpa using F2.out) ?_; rw [show m + 0 = m by omega]; intro w3 HG3 HF3)
    obtain ⟨w4, hr4, post4⟩ := AFT.out w3 (by rw [HL0.out]; exact HG3.out) ((Fo.refl _ w).drew.trans HF3.out)
    rw [show m + 1 - m = 1 by omega] at hr4
    have P4 := Lib.hid post4; have HR4 := Lib.hid hr4
    clear post4 hr4
    go_wp2_with (refine wpList_clear_run _ rfl (.tmp 31) 45 rfl _ rfl w4 (HR4.out _) ?_)
    go_ret
    exact P4.out
  · go_enter Try.func29, Try.ntmps29
    go_wp2
    go_region_law (refine step_append_k rfl (.tmp 22) (.tmp 25) 45 45 rfl 49 i0 9 Try.underlying45 hi0 hz1 g i c (by simp [Act.eval, Act.put]) (.slice (some ⟨g, (i + 1) * 9, none⟩) (m - i) (c - (i + 1))) (m - i) LD (by simp [Act.eval, Act.put]) (Src.ofSlice _ Try.underlying45 ⟨g, (i + 1) * 9, none⟩ (m - i) (c - (i + 1)) LD LDL.out (fun j u hj => by rw [Addr.add_lit]; exact LDC.out j u hj) LD1.out) (by omega) R HR.out (by rw [LDL.out]; have := F1.out.1; omega) ?_; rw [show i + (m - i) = m by omega]; intro w3 HG3 HF3)
    obtain ⟨w4, hr4, post4⟩ := AFT.out w3 HG3.out ((Fo.refl _ w).drew.trans HF3.out)
    have P4 := Lib.hid post4; have HR4 := Lib.hid hr4
    clear post4 hr4
    go_wp2_with (refine wpList_clear_run _ rfl (.tmp 31) 45 rfl _ rfl w4 (HR4.out _) ?_)
    go_ret
    exact P4.out

/-- What Delete leaves, of a range. -/
def DelsPost_r (w : World) (B g c : Nat) (l : List It) (i j : Nat) (e : Ending) (w' : World) : Prop :=
  e = .returned (.slice (some ⟨g, 0, none⟩) (i + (l.length - j)) c) ∧ OwnK encIt w' B 49 (.slice (some ⟨g, 0, none⟩) (i + (l.length - j)) c) (l.take i ++ l.drop j) ∧ Fo (fun k => k = g) w w'

set_option maxHeartbeats 4000000 in
set_option maxRecDepth 100000 in
theorem rdeletes_any (g n c : Nat) (l : List It) (i j : Nat) (w : World) (B : Nat) (hn : l.length = n) (h : OwnK encIt w B 49 (.slice (some ⟨g, 0, none⟩) n c) l) (hij : i < j) (hj : j ≤ n) (hl : n ≤ 1000) :
    Calls Try.prog 29 #[.slice (some ⟨g, 0, none⟩) n c, .int .i64 i, .int .i64 j] w (DelsPost_r w B g c l i j) := by
  obtain ⟨i0, hi0, hz0, hz1, hz2⟩ := info_parts Try.infoCu_r
  obtain ⟨R, hR, hBg, -, hlc, hcm, hRl, hRt⟩ := h.row
  have hrl3 : R.length = c * 9 := hRl
  have hcell : ∀ j u, (kcs encIt l)[j]? = some u → w.cell? ⟨g, j, none⟩ = some u := fun j u hu => by
    have := World.ownsRow.cells h (g := g) rfl j u hu
    simpa [Addr.add_lit] using this
  obtain ⟨LD, hLD⟩ : ∃ LD, LD = kcs encIt (l.drop j) := ⟨_, rfl⟩
  have LDL : RowKit.Hid (LD.length = (n - j) * 9) := Lib.hid (by rw [hLD, kcs_length, List.length_drop, hn]; rfl)
  have LDC : RowKit.Hid (∀ t u, LD[t]? = some u → w.cell? ⟨g, j * 9 + t, none⟩ = some u) := Lib.hid (fun t u ht => by
    rw [hLD, kcs_drop encIt l j (by omega), List.getElem?_drop] at ht
    exact hcell _ u ht)
  have LD1 : RowKit.Hid (∀ u ∈ LD, u.oneCell' = true) := Lib.hid (by rw [hLD]; exact kcs_one encIt _)
  obtain ⟨m, hm⟩ : ∃ m, m = i + (n - j) := ⟨_, rfl⟩
  have F1 : RowKit.Hid (i * 9 + (n - j) * 9 ≤ R.length ∧ m * 9 + (n - m) * 9 ≤ R.length ∧ i * 9 + (n - j) * 9 = m * 9) := Lib.hid (by rw [hrl3]; omega)
  have fin : ∀ (w3 : World) (R3 : List Value), w3.heap[g]? = some (.cells R3.toArray 49 (0, 0)) → R3.length = R.length → R3.take (m * 9) = (splice R (i * 9) LD).take (m * 9) → Fo (fun k => k = g) w w3 → DelsPost_r w B g c l i j (.returned (.slice (some ⟨g, 0, none⟩) m c)) w3 := by
    intro w3 R3 h3 hl3 ht3 hf3
    have e1 : i + (l.length - j) = m := by omega
    have e2 : (l.take i ++ l.drop j).length = m := by rw [List.length_append, List.length_take, List.length_drop]; omega
    refine ⟨by rw [e1], ?_, hf3⟩
    have hh := ownK_row (E := encIt) (l := l.take i ++ l.drop j) (B := B) (cap := c) h3 hBg (by rw [e2]; omega) hcm (by rw [hl3]; exact hRl) (by
      rw [e2, show m * encIt.k = m * 9 from rfl, ht3, hLD]
      have := del_range (E := encIt) (cur := R) (l := l) (i := i) (j := j) (by omega) (by omega) (by rw [hRl]; exact Nat.mul_le_mul_right _ hlc) hRt
      rw [e1] at this
      exact this)
    rw [e2] at hh
    rw [e1]
    exact hh
  have FIN := Lib.hid fin
  have RL := Lib.hid hrl3; have HR := Lib.hid hR
  have hlc2 : n ≤ c := by omega
  have hcm63 : c ≤ 9223372036854775807 := by unfold maxLen at hcm; omega
  have hci : ¬ (c = i) := by omega
  have hic : i ≤ c := by omega
  have hcm1 : ¬ (c = m) := by omega
  have hx1 : ((i : Int) == (j : Int)) = false := by rw [beq_eq_false_iff_ne]; omega
  have hx2 : (i : Int) ≤ (j : Int) := by omega
  have hx4 : (j : Int) ≤ (n : Int) := by omega
  have hx5 : ¬ (n = i) := by omega
  have hx6 : (n : Int) ≤ (c : Int) := by omega
  have hx8 : (m : Int) ≤ (n : Int) := by omega
  have hx9 : m ≤ n := by omega
  have hxa : j ≤ n := hj
  have hxb : i ≤ j := by omega
  clear h hRl hrl3 hRt hcell hn hLD hR hBg hcm hlc fin
  have after : ∀ (w3 : World), w3.heap[g]? = some (.cells (splice R (i * 9) LD).toArray 49 (0, 0)) → Fo (fun k => k = g) w w3 →
      ∃ w4, (∀ ty, (Builtin.clear_ #[45] ty #[.slice (some ⟨g, m * 9, none⟩) (n - m) (c - m)]).run Try.prog w3 = .ok (.tuple #[]) w4) ∧ DelsPost_r w B g c l i j (.returned (.slice (some ⟨g, 0, none⟩) m c)) w4 := by
    intro w3 h3 hf3
    have hl3 : (splice R (i * 9) LD).length = R.length := length_splice _ _ _ (by rw [LDL.out]; exact F1.out.1)
    obtain ⟨w4, hr, ⟨R4, h4, hl4, ht4⟩, hf4⟩ := run_clear_k (P := Try.prog) w3 45 49 _ Try.underlying45 (fun w => Try.zeroValue49 w) (by
      intro v hv
      simp [Value.cells] at hv
      (repeat' (rcases hv with rfl | hv)) <;> first | rfl | (subst hv; rfl)) (by decide) (n := n - m) (c := c - m) (o := m * 9) (by omega) h3 (by rw [hl3]; exact F1.out.2.1)
    exact ⟨w4, hr, FIN.out w4 R4 h4 (by rw [hl4, hl3]) ht4 (hf3.trans hf4)⟩
  have AFT := Lib.hid after
  have HM := Lib.hid hm.symm
  clear after hm
  by_cases hc1 : c = j
  · subst hc1
    obtain rfl : n = c := by omega
    have hLD0 : LD = [] := List.eq_nil_of_length_eq_zero (by rw [LDL.out]; omega)
    have HL0 := Lib.hid hLD0
    have HM1 : Hid (m = i) := Lib.hid (by have := HM.out; omega)
    have F2 : RowKit.Hid (i * 9 ≤ R.length) := Lib.hid (by have := F1.out.1; omega)
    clear hLD0
    go_enter Try.func29, Try.ntmps29
    go_wp2
    go_region_law (refine step_append_k rfl (.tmp 22) (.tmp 25) 45 45 rfl 49 i0 9 Try.underlying45 hi0 hz1 g i n (by simp [Act.eval, Act.put]) (.slice (some ⟨g, 0, none⟩) 0 0) 0 [] (by simp [Act.eval, Act.put]) (Src.ofSlice _ Try.underlying45 ⟨g, 0, none⟩ 0 0 [] (by simp) (by simp) (by simp)) (by omega) R HR.out (by simpa using F2.out) ?_; rw [show i + 0 = m by rw [HM1.out]; omega]; intro w3 HG3 HF3)
    obtain ⟨w4, hr4, post4⟩ := AFT.out w3 (by rw [HL0.out]; exact HG3.out) ((Fo.refl _ w).drew.trans HF3.out)
    have P4 := Lib.hid post4; have HR4 := Lib.hid hr4
    clear post4 hr4
    go_wp2_with (refine wpList_clear_run _ rfl (.tmp 31) 45 rfl _ rfl w4 (HR4.out _) ?_)
    go_ret
    exact P4.out
  · go_enter Try.func29, Try.ntmps29
    go_wp2
    go_region_law (refine step_append_k rfl (.tmp 22) (.tmp 25) 45 45 rfl 49 i0 9 Try.underlying45 hi0 hz1 g i c (by simp [Act.eval, Act.put]) (.slice (some ⟨g, j * 9, none⟩) (n - j) (c - j)) (n - j) LD (by simp [Act.eval, Act.put]) (Src.ofSlice _ Try.underlying45 ⟨g, j * 9, none⟩ (n - j) (c - j) LD LDL.out (fun t u ht => by rw [Addr.add_lit]; exact LDC.out t u ht) LD1.out) (by omega) R HR.out (by rw [LDL.out]; exact F1.out.1) ?_; rw [HM.out]; intro w3 HG3 HF3)
    obtain ⟨w4, hr4, post4⟩ := AFT.out w3 HG3.out ((Fo.refl _ w).drew.trans HF3.out)
    have P4 := Lib.hid post4; have HR4 := Lib.hid hr4
    clear post4 hr4
    go_wp2_with (refine wpList_clear_run _ rfl (.tmp 31) 45 rfl _ rfl w4 (HR4.out _) ?_)
    go_ret
    exact P4.out

set_option maxHeartbeats 1000000 in
set_option maxRecDepth 100000 in
theorem rclone_any (v : Value) (m : List It) (w : World) (h : RdK encIt w v m) (hl : m.length ≤ 1000) :
    Calls Try.prog 32 #[v] w fun e w' => ∃ v', e = .returned v' ∧ OwnK encIt w' w.heap.size 49 v' m ∧ Kept w w' [] := by
  obtain ⟨i0, hi, hz0, hz1, hz2⟩ := info_parts Try.infoCu_r
  obtain ⟨a, c, rfl, hc, ha, hcell⟩ := id h
  have H := Lib.hid h; clear h hcell
  have q22 : ∀ (w : World) (a : Option Addr) (n c n' c' : Nat), (binOp .eql 45 (.slice a n c) (.slice none n' c')).run Try.prog w = .ok (.bool a.isNone) w := fun w a n c n' c' => Lib.run_eql_slice_nil w _ _ a n c n' c' Try.underlying45
  cases a with
  | none =>
    obtain rfl := ha rfl
    obtain rfl : m = [] := List.eq_nil_of_length_eq_zero (by omega)
    clear ha
    go_enter Try.func32, Try.ntmps32
    go_wp2
    go_ret
    exact ⟨_, rfl, OwnK.nil _ _ _, Kept.refl _ _⟩
  | some x =>
    clear ha
    go_enter Try.func32, Try.ntmps32
    go_wp2_with (at_builtin; refine wpList_append_src _ rfl (.tmp 5) (.tmp 6) 45 45 rfl w.heap.size 49 i0 _ 9 88 Try.underlying45 hi hz0 hz1 hz2 rfl (.slice (some ⟨w.heap.size, 0, none⟩) 0 0) 0 [] rfl ?hown (.slice (some x) m.length c) m.length (kcs encIt m) rfl ?src ?b1 ?b2 ?base ?next)
    case hown => exact World.ownsRow_made w #[] 0 (Nat.le_refl _) (Nat.zero_le _) (by simp)
    case src => exact (H.out.keep ((Kept.refl w []).alloc _)).src Try.underlying45
    case b1 => unfold maxLen; omega
    case b2 => omega
    case base => simp
    case next =>
      intro v2 w2 hown hgrow _ _
      have ho : OwnK encIt w2 w.heap.size 49 v2 m := by unfold OwnK; show w2.ownsRow _ _ 9 _ _ _; simpa using hown
      have hk : Kept w w2 [] := ((Kept.refl w []).alloc _).grown hgrow (fun k hk => .inr (by simp [Value.ownBlock] at hk; omega))
      have Ho := Lib.hid ho; have Hk := Lib.hid hk
      clear ho hk hown hgrow
      go_wp2
      go_ret
      exact ⟨_, rfl, Ho.out, Hk.out⟩

end Go.Proofs.Ytcnjgjgppbakdaa
