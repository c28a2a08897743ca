/-
  Rtxc, Rtd in one text.
-/
import Derived.Test.YticiofkiffgclaaGreatNr11
import Derived.Test.YticiofkiffgclaaGreatRows
import Derived.Test.YticiofkiffgclaaGreatNr5
import Derived.Test.YticiofkiffgclaaGreatNr6
import Derived.LoopTactic
import Derived.Lib.SliceRun
import Derived.Shelf.Abstract
import Derived.Deep.QuietTactic
import Derived.BigQuiet
import Derived.RegionTactic
namespace Go.Proofs.YticiofkiffgclaaGreat
set_option linter.unusedVariables false
open Go.RowKit

def DelsPost_r (w : World) (B g c : Nat) (l : List It) (i j : Nat) (e : Ending) (w' : World) : Prop :=
  e = .returned (.slice (some ⟨g, 0, none⟩) (i + (l.length - j)) c) ∧ OwnK encIt w' B 173 (.slice (some ⟨g, 0, none⟩) (i + (l.length - j)) c) (l.take i ++ l.drop j) ∧ Fo (fun k => k = g) w w'

set_option maxHeartbeats 4000000 in
set_option maxRecDepth 100000 in
theorem rdeletes_any (g n c : Nat) (l : List It) (i j : Nat) (w : World) (B : Nat) (hn : l.length = n) (h : OwnK encIt w B 173 (.slice (some ⟨g, 0, none⟩) n c) l) (hij : i < j) (hj : j ≤ n) (hl : n ≤ 1000) :
    Calls Tryz.prog 159 #[.slice (some ⟨g, 0, none⟩) n c, .int .i64 i, .int .i64 j] w (DelsPost_r w B g c l i j) := by
  obtain ⟨i0, hi0, hz0, hz1, hz2⟩ := info_parts Tryz.infoCu_r
  obtain ⟨R, hR, hBg, -, hlc, hcm, hRl, hRt⟩ := h.row
  have hrl3 : R.length = c * 9 := hRl
  have hcell : ∀ j u, (kcs encIt l)[j]? = some u → w.cell? ⟨g, j, none⟩ = some u := fun j u hu => by
    have := World.ownsRow.cells h (g := g) rfl j u hu
    simpa [Addr.add_lit] using this
  obtain ⟨LD, hLD⟩ : ∃ LD, LD = kcs encIt (l.drop j) := ⟨_, rfl⟩
  have LDL : RowKit.Hid (LD.length = (n - j) * 9) := Lib.hid (by rw [hLD, kcs_length, List.length_drop, hn]; rfl)
  have LDC : RowKit.Hid (∀ t u, LD[t]? = some u → w.cell? ⟨g, j * 9 + t, none⟩ = some u) := Lib.hid (fun t u ht => by
    rw [hLD, kcs_drop encIt l j (by omega), List.getElem?_drop] at ht
    exact hcell _ u ht)
  have LD1 : RowKit.Hid (∀ u ∈ LD, u.oneCell' = true) := Lib.hid (by rw [hLD]; exact kcs_one encIt _)
  obtain ⟨m, hm⟩ : ∃ m, m = i + (n - j) := ⟨_, rfl⟩
  have F1 : RowKit.Hid (i * 9 + (n - j) * 9 ≤ R.length ∧ m * 9 + (n - m) * 9 ≤ R.length ∧ i * 9 + (n - j) * 9 = m * 9) := Lib.hid (by rw [hrl3]; omega)
  have fin : ∀ (w3 : World) (R3 : List Value), w3.heap[g]? = some (.cells R3.toArray 173 (0, 0)) → R3.length = R.length → R3.take (m * 9) = (splice R (i * 9) LD).take (m * 9) → Fo (fun k => k = g) w w3 → DelsPost_r w B g c l i j (.returned (.slice (some ⟨g, 0, none⟩) m c)) w3 := by
    intro w3 R3 h3 hl3 ht3 hf3
    have e1 : i + (l.length - j) = m := by omega
    have e2 : (l.take i ++ l.drop j).length = m := by rw [List.length_append, List.length_take, List.length_drop]; omega
    refine ⟨by rw [e1], ?_, hf3⟩
    have hh := ownK_row (E := encIt) (l := l.take i ++ l.drop j) (B := B) (cap := c) h3 hBg (by rw [e2]; omega) hcm (by rw [hl3]; exact hRl) (by
      rw [e2, show m * encIt.k = m * 9 from rfl, ht3, hLD]
      have := del_range (E := encIt) (cur := R) (l := l) (i := i) (j := j) (by omega) (by omega) (by rw [hRl]; exact Nat.mul_le_mul_right _ hlc) hRt
      rw [e1] at this
      exact this)
    rw [e2] at hh
    rw [e1]
    exact hh
  have FIN := Lib.hid fin
  have RL := Lib.hid hrl3; have HR := Lib.hid hR
  have hlc2 : n ≤ c := by omega
  have hcm63 : c ≤ 9223372036854775807 := by unfold maxLen at hcm; omega
  have hci : ¬ (c = i) := by omega
  have hic : i ≤ c := by omega
  have hcm1 : ¬ (c = m) := by omega
  have hx1 : ((i : Int) == (j : Int)) = false := by rw [beq_eq_false_iff_ne]; omega
  have hx2 : (i : Int) ≤ (j : Int) := by omega
  have hx4 : (j : Int) ≤ (n : Int) := by omega
  have hx5 : ¬ (n = i) := by omega
  have hx6 : (n : Int) ≤ (c : Int) := by omega
  have hx8 : (m : Int) ≤ (n : Int) := by omega
  have hx9 : m ≤ n := by omega
  have hxa : j ≤ n := hj
  have hxb : i ≤ j := by omega
  clear h hRl hrl3 hRt hcell hn hLD hR hBg hcm hlc fin
  have after : ∀ (w3 : World), w3.heap[g]? = some (.cells (splice R (i * 9) LD).toArray 173 (0, 0)) → Fo (fun k => k = g) w w3 →
      ∃ w4, (∀ ty, (Builtin.clear_ #[115] ty #[.slice (some ⟨g, m * 9, none⟩) (n - m) (c - m)]).run Tryz.prog w3 = .ok (.tuple #[]) w4) ∧ DelsPost_r w B g c l i j (.returned (.slice (some ⟨g, 0, none⟩) m c)) w4 := by
    intro w3 h3 hf3
    have hl3 : (splice R (i * 9) LD).length = R.length := length_splice _ _ _ (by rw [LDL.out]; exact F1.out.1)
    obtain ⟨w4, hr, ⟨R4, h4, hl4, ht4⟩, hf4⟩ := run_clear_k (P := Tryz.prog) w3 115 173 _ Tryz.underlying115 (fun w => Tryz.zeroValue173 w) (by
      intro v hv
      simp [Value.cells] at hv
      (repeat' (rcases hv with rfl | hv)) <;> first | rfl | (subst hv; rfl)) (by decide) (n := n - m) (c := c - m) (o := m * 9) (by omega) h3 (by rw [hl3]; exact F1.out.2.1)
    exact ⟨w4, hr, FIN.out w4 R4 h4 (by rw [hl4, hl3]) ht4 (hf3.trans hf4)⟩
  have AFT := Lib.hid after
  have HM := Lib.hid hm.symm
  clear after hm
  by_cases hc1 : c = j
  · subst hc1
    obtain rfl : n = c := by omega
    have hLD0 : LD = [] := List.eq_nil_of_length_eq_zero (by rw [LDL.out]; omega)
    have HL0 := Lib.hid hLD0
    have HM1 : Hid (m = i) := Lib.hid (by have := HM.out; omega)
    have F2 : RowKit.Hid (i * 9 ≤ R.length) := Lib.hid (by have := F1.out.1; omega)
    clear hLD0
    go_enter Tryz.func159, Tryz.ntmps159
    go_wp2
    go_region_law (refine step_append_k rfl (.tmp 22) (.tmp 25) 115 115 rfl 173 i0 9 Tryz.underlying115 hi0 hz1 g i n (by simp [Act.eval, Act.put]) (.slice (some ⟨g, 0, none⟩) 0 0) 0 [] (by simp [Act.eval, Act.put]) (Src.ofSlice _ Tryz.underlying115 ⟨g, 0, none⟩ 0 0 [] (by simp) (by simp) (by simp)) (by omega) R HR.out (by simpa using F2.out) ?_; rw [show i + 0 = m by rw [HM1.out]; omega]; intro w3 HG3 HF3)
    obtain ⟨w4, hr4, post4⟩ := AFT.out w3 (by rw [HL0.out]; exact HG3.out) ((Fo.refl _ w).drew.trans HF3.out)
    have P4 := Lib.hid post4; have HR4 := Lib.hid hr4
    clear post4 hr4
    go_wp2_with (refine wpList_clear_run _ rfl (.tmp 31) 115 rfl _ rfl w4 (HR4.out _) ?_)
    go_ret
    exact P4.out
  · go_enter Tryz.func159, Tryz.ntmps159
    go_wp2
    go_region_law (refine step_append_k rfl (.tmp 22) (.tmp 25) 115 115 rfl 173 i0 9 Tryz.underlying115 hi0 hz1 g i c (by simp [Act.eval, Act.put]) (.slice (some ⟨g, j * 9, none⟩) (n - j) (c - j)) (n - j) LD (by simp [Act.eval, Act.put]) (Src.ofSlice _ Tryz.underlying115 ⟨g, j * 9, none⟩ (n - j) (c - j) LD LDL.out (fun t u ht => by rw [Addr.add_lit]; exact LDC.out t u ht) LD1.out) (by omega) R HR.out (by rw [LDL.out]; exact F1.out.1) ?_; rw [HM.out]; intro w3 HG3 HF3)
    obtain ⟨w4, hr4, post4⟩ := AFT.out w3 HG3.out ((Fo.refl _ w).drew.trans HF3.out)
    have P4 := Lib.hid post4; have HR4 := Lib.hid hr4
    clear post4 hr4
    go_wp2_with (refine wpList_clear_run _ rfl (.tmp 31) 115 rfl _ rfl w4 (HR4.out _) ?_)
    go_ret
    exact P4.out

end Go.Proofs.YticiofkiffgclaaGreat

namespace Go.Proofs.YticiofkiffgclaaGreat
set_option linter.unusedVariables false
open Go.RowKit

theorem cellsR_r {w : World} {b o n c : Nat} {l : List It} (h : RdK encIt w (.slice (some ⟨b, o, none⟩) n c) l) {k : Nat} {x : It} (hx : l[k]? = some x) :
    w.cell? ⟨b, o + k * 9, none⟩ = some (.int .i64 x.a) ∧ w.cell? ⟨b, o + k * 9 + 1, none⟩ = some (.int .i64 x.e.id) ∧ w.cell? ⟨b, o + k * 9 + 2, none⟩ = some (.int .i64 x.e.tx) ∧ w.cell? ⟨b, o + k * 9 + 3, none⟩ = some (.string x.e.ow) ∧ w.cell? ⟨b, o + k * 9 + 4, none⟩ = some (.int .i64 x.e.tr) ∧ w.cell? ⟨b, o + k * 9 + 5, none⟩ = some (.int .i64 x.e.tb) ∧ w.cell? ⟨b, o + k * 9 + 6, none⟩ = some (.int .u8 x.e.kd) ∧ w.cell? ⟨b, o + k * 9 + 7, none⟩ = some (.int .i64 x.e.key) ∧ w.cell? ⟨b, o + k * 9 + 8, none⟩ = some (.string x.e.t) :=
  ⟨h.here hx 0 (by decide), h.here hx 1 (by decide), h.here hx 2 (by decide), h.here hx 3 (by decide), h.here hx 4 (by decide), h.here hx 5 (by decide), h.here hx 6 (by decide), h.here hx 7 (by decide), h.here hx 8 (by decide)⟩
theorem cellsO_r {w : World} {base : Nat} {e : TypeId} {g n c : Nat} {l : List It} (h : OwnK encIt w base e (.slice (some ⟨g, 0, none⟩) n c) l) {k : Nat} {x : It} (hx : l[k]? = some x) :
    (w.cell? ⟨g, k * 9, none⟩ = some (.int .i64 x.a) ∧ w.cell? ⟨g, k * 9 + 1, none⟩ = some (.int .i64 x.e.id) ∧ w.cell? ⟨g, k * 9 + 2, none⟩ = some (.int .i64 x.e.tx) ∧ w.cell? ⟨g, k * 9 + 3, none⟩ = some (.string x.e.ow) ∧ w.cell? ⟨g, k * 9 + 4, none⟩ = some (.int .i64 x.e.tr) ∧ w.cell? ⟨g, k * 9 + 5, none⟩ = some (.int .i64 x.e.tb) ∧ w.cell? ⟨g, k * 9 + 6, none⟩ = some (.int .u8 x.e.kd) ∧ w.cell? ⟨g, k * 9 + 7, none⟩ = some (.int .i64 x.e.key) ∧ w.cell? ⟨g, k * 9 + 8, none⟩ = some (.string x.e.t)) ∧ (w.frozen? ⟨g, k * 9, none⟩ = false ∧ w.frozen? ⟨g, k * 9 + 1, none⟩ = false ∧ w.frozen? ⟨g, k * 9 + 2, none⟩ = false ∧ w.frozen? ⟨g, k * 9 + 3, none⟩ = false ∧ w.frozen? ⟨g, k * 9 + 4, none⟩ = false ∧ w.frozen? ⟨g, k * 9 + 5, none⟩ = false ∧ w.frozen? ⟨g, k * 9 + 6, none⟩ = false ∧ w.frozen? ⟨g, k * 9 + 7, none⟩ = false ∧ w.frozen? ⟨g, k * 9 + 8, none⟩ = false) := by
  obtain ⟨g', hg, hc⟩ := h.at hx
  simp only [Option.some.injEq, Addr.mk.injEq] at hg
  obtain ⟨rfl, _⟩ := hg
  exact ⟨⟨(hc 0 (by decide)).1, (hc 1 (by decide)).1, (hc 2 (by decide)).1, (hc 3 (by decide)).1, (hc 4 (by decide)).1, (hc 5 (by decide)).1, (hc 6 (by decide)).1, (hc 7 (by decide)).1, (hc 8 (by decide)).1⟩, ⟨(hc 0 (by decide)).2, (hc 1 (by decide)).2, (hc 2 (by decide)).2, (hc 3 (by decide)).2, (hc 4 (by decide)).2, (hc 5 (by decide)).2, (hc 6 (by decide)).2, (hc 7 (by decide)).2, (hc 8 (by decide)).2⟩⟩

def PaysP_r (w : World) (O : Nat → Prop) (c : Nat) (lb : Array Value) (P : It → Bool) : Prop :=
  ∀ (r : It) (V : World), Fo O w V → Calls Tryz.prog c (#[.agg (encIt.cs r)] ++ lb) V fun e w' => e = .returned (.bool (P r)) ∧ Kept V w' []
variable {w w' : World} {base : Nat} {l : List It}

set_option maxHeartbeats 2000000 in
theorem rindexFunc_any {sv : Value} (ho : RdK encIt w sv l) (hlen : l.length < 1000000) (c : Nat) (lb : Array Value) (P : It → Bool) (ec : ∀ args w, (callFunc c args).run Tryz.prog w = .ok (.enter c args) w) (O : Nat → Prop) (hc : PaysP_r w O c lb P) :
    Calls Tryz.prog 194 #[sv, .func (.func c) #[] lb] w fun e w' => e = .returned (.int .i64 (gidx P l)) ∧ Kept w w' [] := by
  have HO := Lib.hid ho
  have HC := Lib.hid hc
  clear hc
  obtain ⟨a, cap, rfl, hcap, ha, hcell⟩ := id ho
  by_cases h0 : l = []
  · subst h0
    clear ho hcell ha hcap
    simp only [List.length_nil] at *
    go_enter Tryz.func194, Tryz.ntmps194
    go_wp2
    go_loop [5, 8] (fun _ t => t = .int .i64 0) (fun _ _ => 0)
    case atStart => rfl
    case round =>
      subst hrel
      go_wp2
      go_ret
      exact ⟨rfl, Kept.refl w []⟩
  · obtain ⟨b, o, rfl, -⟩ := hcell h0
    clear ho hcell ha hcap h0
    go_enter Tryz.func194, Tryz.ntmps194
    go_wp2
    go_loopw [5, 8] (fun _ t wr => ∃ k : Nat, t = .int .i64 k ∧ k ≤ l.length ∧ Kept w wr [] ∧ (∀ j s, j < k → l[j]? = some s → P s = false)) (fun _ t _ => l.length - (intOf t).toNat)
    case atStart => exact ⟨0, rfl, Nat.zero_le _, Kept.refl w [], fun j s hj => absurd hj (Nat.not_lt_zero _)⟩
    case round =>
      obtain ⟨k, rfl, hk, hkw, hx⟩ := hrel
      have Hx := Lib.hid hx; have K := Lib.hid hkw
      clear hx hkw
      by_cases hlt : k < l.length
      · obtain ⟨r, hr⟩ : ∃ r, l[k]? = some r := ⟨_, List.getElem?_eq_getElem hlt⟩
        obtain ⟨c0, c1, c2, c3, c4, c5, c6, c7, c8⟩ := cellsR_r (HO.out.keep K.out) hr
        have HR := Lib.hid hr
        have x1 : (k : Int) < (l.length : Int) := by omega
        have call := HC.out r wr (Fo.ofKept K.out _)
        obtain ⟨q, hq⟩ : ∃ q, P r = q := ⟨_, rfl⟩
        rw [hq] at call
        have HQ := Lib.hid hq
        clear hr hq
        obtain ⟨b0, ⟨b1, b2, b3, b4, b5, b6, b7, b8⟩⟩ := r
        simp only [encIt, It.cs] at c0 c1 c2 c3 c4 c5 c6 c7 c8 call
        cases q
        · go_wp2_with (go_at_fn c; refine call.mono ?_; rintro e w2 ⟨rfl, k2⟩)
          go_roundw
          case rel =>
            refine ⟨k + 1, by go_num, by omega, K.out.trans k2 (by simp), fun j s hj hs => ?_⟩
            by_cases e : j = k
            · subst e
              rw [HR.out] at hs
              cases hs
              exact HQ.out
            · exact Hx.out j s (by omega) hs
          case measure => simp [intOf]; omega
        · have R : RowKit.Hid (gidx P l = k) := Lib.hid (by rw [gidx, gidx_hit HR.out HQ.out Hx.out])
          go_wp2_with (go_at_fn c; refine call.mono ?_; rintro e w2 ⟨rfl, k2⟩)
          go_ret
          rw [R.out]
          exact ⟨rfl, K.out.trans k2 (by simp)⟩
      · have R : RowKit.Hid (gidx P l = -1) := Lib.hid (by rw [gidx, gidx_miss (fun j s hj => Hx.out j s (by omega))])
        have x1 : ¬ (k : Int) < (l.length : Int) := by omega
        go_wp2
        go_ret
        rw [R.out]
        exact ⟨rfl, K.out⟩

set_option maxHeartbeats 1000000 in
theorem rcontains_any {sv : Value} (ho : RdK encIt w sv l) (hlen : l.length < 1000000) (c : Nat) (lb : Array Value) (P : It → Bool) (ec : ∀ args w, (callFunc c args).run Tryz.prog w = .ok (.enter c args) w) (O : Nat → Prop) (hc : PaysP_r w O c lb P) :
    Calls Tryz.prog 188 #[sv, .func (.func c) #[] lb] w fun e w' => e = .returned (.bool (l.any P)) ∧ Kept w w' [] := by
  have ci := rindexFunc_any ho hlen c lb P ec O hc
  have R := Lib.hid (gidx_any P l)
  obtain ⟨r, hr⟩ : ∃ r, r = gidx P l := ⟨_, rfl⟩
  rw [← hr] at ci R
  clear ho hc hr
  go_enter Tryz.func188, Tryz.ntmps188
  go_wp2_with (go_at_call 194; refine ci.mono ?_; rintro e w' ⟨rfl, k2⟩)
  go_ret
  rw [← R.out]
  exact ⟨rfl, k2⟩

end Go.Proofs.YticiofkiffgclaaGreat
