/-
  slices.Delete (of one), slices.Clone on consumers.
-/
import Derived.Test.YtnoiomaoignndaaCuj
namespace Go.Proofs.Ytnoiomaoignndaa
set_option linter.unusedVariables false
open Go.RowKit

theorem wpList_clear_run {P : Program} (w : World) {ops : Array Oper} {rest : List Oper} {o : Oper} {a : Act} {Q : Exit → Act → World → Prop} (hgd : o.guard = none) (x : Operand) (t : TypeId)
    (ho : o.op = .call { callee := .builtin .clear, args := #[x], argTypes := #[t] }) (vx : Value) (hx : a.eval x = vx) (w' : World) (hr : (Builtin.clear_ #[t] o.type #[vx]).run P w = .ok (.tuple #[]) w')
    (h : wpList P ops Q rest (a.put o.dst (.tuple #[])) w') : wpList P ops Q (o :: rest) a w := by
  refine wpList_plain hgd fun K hK => ?_
  unfold Oper.wp execOp
  simp only [ho, resolve, invoke, builtin, Sem.run_bind, Sem.run_pure, Result.andThen_ok, List.map_toArray, List.map_cons, List.map_nil, hx, hr]
  exact hK _ _ h

/-- What Delete leaves. -/
def DelPost (w : World) (B g c : Nat) (l : List Cu) (i : Nat) (e : Ending) (w' : World) : Prop :=
  e = .returned (.slice (some ⟨g, 0, none⟩) (l.length - 1) c) ∧ OwnK encCu w' B 39 (.slice (some ⟨g, 0, none⟩) (l.length - 1) c) (l.eraseIdx i) ∧ Fo (fun k => k = g) w w'

set_option maxHeartbeats 4000000 in
set_option maxRecDepth 100000 in
theorem cdelete_any (g m c : Nat) (l : List Cu) (i : Nat) (w : World) (B : Nat) (hn : l.length = m + 1) (h : OwnK encCu w B 39 (.slice (some ⟨g, 0, none⟩) (m + 1) c) l) (hi : i ≤ m) (hl : m ≤ 1000) :
    Calls Try.prog 28 #[.slice (some ⟨g, 0, none⟩) (m + 1) c, .int .i64 i, .int .i64 (i + 1)] w (DelPost w B g c l i) := by
  obtain ⟨i0, hi0, hz0, hz1, hz2⟩ := info_parts Try.infoCu
  obtain ⟨R, hR, hBg, -, hlc, hcm, hRl, hRt⟩ := h.row
  have hrl3 : R.length = c * 3 := hRl
  have hcell : ∀ j u, (kcs encCu l)[j]? = some u → w.cell? ⟨g, j, none⟩ = some u := fun j u hu => by
    have := World.ownsRow.cells h (g := g) rfl j u hu
    simpa [Addr.add_lit] using this
  obtain ⟨LD, hLD⟩ : ∃ LD, LD = kcs encCu (l.drop (i + 1)) := ⟨_, rfl⟩
  have LDL : RowKit.Hid (LD.length = (m - i) * 3) := Lib.hid (by rw [hLD, kcs_length, List.length_drop, hn, show m + 1 - (i + 1) = m - i by omega]; rfl)
  have LDC : RowKit.Hid (∀ j u, LD[j]? = some u → w.cell? ⟨g, (i + 1) * 3 + j, none⟩ = some u) := Lib.hid (fun j u hj => by
    rw [hLD, kcs_drop encCu l (i + 1) (by omega), List.getElem?_drop] at hj
    exact hcell _ u hj)
  have LD1 : RowKit.Hid (∀ u ∈ LD, u.oneCell' = true) := Lib.hid (by rw [hLD]; exact kcs_one encCu _)
  have F1 : RowKit.Hid (i * 3 + (m - i) * 3 + 3 ≤ R.length ∧ m * 3 + 3 ≤ R.length) := Lib.hid (by rw [hrl3]; omega)
  have fin : ∀ (w3 : World) (R3 : List Value), w3.heap[g]? = some (.cells R3.toArray 39 (0, 0)) → R3.length = R.length → R3.take (m * 3) = (splice R (i * 3) LD).take (m * 3) → Fo (fun k => k = g) w w3 → DelPost w B g c l i (.returned (.slice (some ⟨g, 0, none⟩) m c)) w3 := by
    intro w3 R3 h3 hl3 ht3 hf3
    have e1 : l.length - 1 = m := by omega
    have e2 : (l.eraseIdx i).length = m := by rw [List.length_eraseIdx, if_pos (by omega)]; omega
    refine ⟨by rw [e1], ?_, hf3⟩
    have hh := ownK_row (E := encCu) (l := l.eraseIdx i) (B := B) (cap := c) h3 hBg (by rw [e2]; omega) hcm (by rw [hl3]; exact hRl) (by
      rw [e2, show m * encCu.k = m * 3 from rfl, ht3, hLD]
      have := del_shift (E := encCu) (cur := R) (l := l) (i := i) (by omega) (by rw [hRl]; exact Nat.mul_le_mul_right _ hlc) hRt
      rw [e1] at this
      exact this)
    rw [e2] at hh
    rw [e1]
    exact hh
  have FIN := Lib.hid fin
  have RL := Lib.hid hrl3; have HR := Lib.hid hR
  have hlc2 : m + 1 ≤ c := by omega
  have hcm63 : c ≤ 9223372036854775807 := by unfold maxLen at hcm; omega
  have hci : ¬ (c = i) := by omega
  have hic : i ≤ c := by omega
  have hcm1 : ¬ (c = m) := by omega
  have hx1 : ((i : Int) == (i : Int) + 1) = false := by rw [beq_eq_false_iff_ne]; omega
  have hx2 : (i : Int) ≤ (m : Int) := by omega
  have hx3 : (0 : Int) ≤ (i : Int) + 1 := by omega
  have hx4 : (i : Int) + 1 ≤ (m : Int) + 1 := by omega
  have htn : ((i : Int) + 1).toNat = i + 1 := by omega
  have hx5 : ¬ (m + 1 = i) := by omega
  have hx6 : (m : Int) + 1 ≤ (c : Int) := by omega
  clear h hRl hrl3 hRt hcell hn hLD hR hBg hcm hlc fin
  have after : ∀ (w3 : World), w3.heap[g]? = some (.cells (splice R (i * 3) LD).toArray 39 (0, 0)) → Fo (fun k => k = g) w w3 →
      ∃ w4, (∀ ty, (Builtin.clear_ #[46] ty #[.slice (some ⟨g, m * 3, none⟩) 1 (c - m)]).run Try.prog w3 = .ok (.tuple #[]) w4) ∧ DelPost w B g c l i (.returned (.slice (some ⟨g, 0, none⟩) m c)) w4 := by
    intro w3 h3 hf3
    have hl3 : (splice R (i * 3) LD).length = R.length := length_splice _ _ _ (by rw [LDL.out]; have := F1.out.1; omega)
    obtain ⟨w4, hr, ⟨R4, h4, hl4, ht4⟩, hf4⟩ := run_clear_k (P := Try.prog) w3 46 39 _ Try.underlying46 (fun w => Try.zeroValue39 w) (by
      intro v hv
      simp [Value.cells] at hv
      rcases hv with rfl | rfl <;> rfl) (by decide) (n := 1) (c := c - m) (o := m * 3) (by decide) h3 (by rw [hl3]; exact F1.out.2)
    exact ⟨w4, hr, FIN.out w4 R4 h4 (by rw [hl4, hl3]) ht4 (hf3.trans hf4)⟩
  have AFT := Lib.hid after
  clear after
  by_cases hc1 : c = i + 1
  · subst hc1
    obtain rfl : m = i := by omega
    have hLD0 : LD = [] := List.eq_nil_of_length_eq_zero (by rw [LDL.out]; omega)
    have HL0 := Lib.hid hLD0
    have F2 : RowKit.Hid (m * 3 ≤ R.length) := Lib.hid (by have := F1.out.2; omega)
    clear hLD0
    have hx7 : (m : Int) ≤ (m : Int) + 1 := by omega
    go_enter Try.func28, Try.ntmps28
    go_wp2
    go_region_law (refine step_append_k rfl (.tmp 22) (.tmp 25) 46 46 rfl 39 i0 3 Try.underlying46 hi0 hz1 g m (m + 1) (by simp [Act.eval, Act.put]) (.slice (some ⟨g, 0, none⟩) 0 0) 0 [] (by simp [Act.eval, Act.put]) (Src.ofSlice _ Try.underlying46 ⟨g, 0, none⟩ 0 0 [] (by simp) (by simp) (by simp)) (by omega) R HR.out (by simpa using F2.out) ?_; rw [show m + 0 = m by omega]; intro w3 HG3 HF3)
    obtain ⟨w4, hr4, post4⟩ := AFT.out w3 (by rw [HL0.out]; exact HG3.out) ((Fo.refl _ w).drew.trans HF3.out)
    rw [show m + 1 - m = 1 by omega] at hr4
    have P4 := Lib.hid post4; have HR4 := Lib.hid hr4
    clear post4 hr4
    go_wp2_with (refine wpList_clear_run _ rfl (.tmp 31) 46 rfl _ rfl w4 (HR4.out _) ?_)
    go_ret
    exact P4.out
  · go_enter Try.func28, Try.ntmps28
    go_wp2
    go_region_law (refine step_append_k rfl (.tmp 22) (.tmp 25) 46 46 rfl 39 i0 3 Try.underlying46 hi0 hz1 g i c (by simp [Act.eval, Act.put]) (.slice (some ⟨g, (i + 1) * 3, none⟩) (m - i) (c - (i + 1))) (m - i) LD (by simp [Act.eval, Act.put]) (Src.ofSlice _ Try.underlying46 ⟨g, (i + 1) * 3, none⟩ (m - i) (c - (i + 1)) LD LDL.out (fun j u hj => by rw [Addr.add_lit]; exact LDC.out j u hj) LD1.out) (by omega) R HR.out (by rw [LDL.out]; have := F1.out.1; omega) ?_; rw [show i + (m - i) = m by omega]; intro w3 HG3 HF3)
    obtain ⟨w4, hr4, post4⟩ := AFT.out w3 HG3.out ((Fo.refl _ w).drew.trans HF3.out)
    have P4 := Lib.hid post4; have HR4 := Lib.hid hr4
    clear post4 hr4
    go_wp2_with (refine wpList_clear_run _ rfl (.tmp 31) 46 rfl _ rfl w4 (HR4.out _) ?_)
    go_ret
    exact P4.out

set_option maxHeartbeats 1000000 in
set_option maxRecDepth 100000 in
theorem cclone_any (v : Value) (m : List Cu) (w : World) (h : RdK encCu w v m) (hl : m.length ≤ 1000) :
    Calls Try.prog 30 #[v] w fun e w' => ∃ v', e = .returned v' ∧ OwnK encCu w' w.heap.size 39 v' m ∧ Kept w w' [] := by
  obtain ⟨i0, hi, hz0, hz1, hz2⟩ := info_parts Try.infoCu
  obtain ⟨a, c, rfl, hc, ha, hcell⟩ := id h
  have H := Lib.hid h; clear h hcell
  have q22 : ∀ (w : World) (a : Option Addr) (n c n' c' : Nat), (binOp .eql 46 (.slice a n c) (.slice none n' c')).run Try.prog w = .ok (.bool a.isNone) w := fun w a n c n' c' => Lib.run_eql_slice_nil w _ _ a n c n' c' Try.underlying46
  cases a with
  | none =>
    obtain rfl := ha rfl
    obtain rfl : m = [] := List.eq_nil_of_length_eq_zero (by omega)
    clear ha
    go_enter Try.func30, Try.ntmps30
    go_wp2
    go_ret
    exact ⟨_, rfl, OwnK.nil _ _ _, Kept.refl _ _⟩
  | some x =>
    clear ha
    go_enter Try.func30, Try.ntmps30
    go_wp2_with (at_builtin; refine wpList_append_src _ rfl (.tmp 5) (.tmp 6) 46 46 rfl w.heap.size 39 i0 _ 3 32 Try.underlying46 hi hz0 hz1 hz2 rfl (.slice (some ⟨w.heap.size, 0, none⟩) 0 0) 0 [] rfl ?hown (.slice (some x) m.length c) m.length (kcs encCu m) rfl ?src ?b1 ?b2 ?base ?next)
    case hown => exact World.ownsRow_made w #[] 0 (Nat.le_refl _) (Nat.zero_le _) (by simp)
    case src => exact (H.out.keep ((Kept.refl w []).alloc _)).src Try.underlying46
    case b1 => unfold maxLen; omega
    case b2 => omega
    case base => simp
    case next =>
      intro v2 w2 hown hgrow _ _
      have ho : OwnK encCu w2 w.heap.size 39 v2 m := by unfold OwnK; show w2.ownsRow _ _ 3 _ _ _; simpa using hown
      have hk : Kept w w2 [] := ((Kept.refl w []).alloc _).grown hgrow (fun k hk => .inr (by simp [Value.ownBlock] at hk; omega))
      have Ho := Lib.hid ho; have Hk := Lib.hid hk
      clear ho hk hown hgrow
      go_wp2
      go_ret
      exact ⟨_, rfl, Ho.out, Hk.out⟩

end Go.Proofs.Ytnoiomaoignndaa
