/-
  Proved: whatever the arguments are, carrierlaw05.SnapLeast answers true and leaves its arguments as they were. No condition.
-/
import Derived.Test.YtfmgjmedmbieeaaSnJ
namespace Go.Proofs.Ytfmgjmedmbieeaa.snapLeast
open Go.ChangeShapes Go.WideShapes Go.ChangeAt Go.RowKit
set_option linter.unusedVariables false

theorem own : ownKnob Try.prog.godebug = none := by kernel_rfl
theorem laidOut : laidOutB Try.prog = true := by kernel_rfl

set_option maxHeartbeats 1000000 in
set_option maxRecDepth 100000 in
theorem walk (a0 : Int) (a1 : Option Addr) (len1 cap1 : Nat) (z1 : List Int) (W : World) (w0 : (Lit.int .u8 a0).wf = true) (w1 : IsRow .u8 W a1 len1 cap1 z1) :
    Calls Try.prog 4 #[.int .u8 a0, .slice a1 len1 cap1] W fun e w' => e = .returned (.bool true) ∧ Below W.heap.size W w' := by
  obtain ⟨a, rfl, ha⟩ := u8_nat w0
  obtain ⟨bs, rfl, hrd⟩ := isRow_rd w1
  have Hr := Lib.hid hrd
  clear w0 w1 hrd
  by_cases h20 : (20 : Int) < (bs.length : Int)
  · go_enter Try.func4, Try.ntmps4
    go_wp2_with fail
    refine (five_any W).mono ?_
    rintro e w1 ⟨rfl, hk⟩
    have K := Lib.hid hk; clear hk
    go_wp2
    go_ret
    exact ⟨rfl, K.out.below (Nat.le_refl _) (by simp)⟩
  go_enter Try.func4, Try.ntmps4
  go_wp2_with fail
  refine (of_any a _ bs W Hr.out (by omega)).mono ?_
  rintro e w1 ⟨M, v, l, rfl, hM, hR, _, hrd, hk⟩
  have R := Lib.hid hR; have K1 := Lib.hid hk; have S0 := Lib.hid (Sr.new (M := M) hrd 25)
  have hLb := least_bounds hR
  have hM40 : M ≤ 40 := by omega
  have hrl := Lib.hid hrd
  obtain ⟨av, cv, rfl⟩ := hrd.slice
  clear hR hk hrd hM
  obtain ⟨W1, hW1⟩ : ∃ W1, W1 = w1.alloc (.cells #[.int .i64 M, .slice av l.length cv] 25) := ⟨_, rfl⟩
  obtain ⟨p, hp⟩ : ∃ p, p = w1.heap.size := ⟨_, rfl⟩
  have K2 : Hid (Kept W W1 []) := Lib.hid (by rw [hW1]; exact K1.out.alloc _)
  rw [← hW1, ← hp] at S0
  go_wp2_with fail
  rw [← hW1]
  rw [← hp]
  clear hW1 hp
  refine (least_any M _ l W1 S0.out.rd).mono ?_
  rintro e w2 ⟨rfl, hk⟩
  have K3 := Lib.hid (K2.out.trans hk (by simp)); have S2 := Lib.hid (S0.out.keep hk); clear hk
  obtain ⟨n, hn⟩ : ∃ n, n = leastI M l := ⟨_, rfl⟩
  have Hn := Lib.hid hn
  rw [← hn] at hLb ⊢
  clear hn
  go_wp2
  go_loopw [7] (fun t wr => ∃ x : Int, t = .int .i64 x ∧ 1 ≤ x ∧ x ≤ n ∧ Kept W wr [] ∧ Sr wr p M (.slice av l.length cv) l) (fun t _ => 41 - (intOf t).toNat)
  case atStart => exact ⟨1, rfl, by omega, by omega, K3.out, S2.out⟩
  case round =>
    obtain ⟨x, rfl, hx1, hx2, hk, hs⟩ := hrel
    have K := Lib.hid hk; have S := Lib.hid hs; clear hk hs
    have z0 := S.out.c0; have z1 := S.out.c1
    by_cases hlt : x < n
    · have v1 : seesB M l x = true := least_sees R.out hx1 (by rw [← Hn.out]; exact hlt)
      go_wp2_with fail
      refine (sees_any M x _ l wr S.out.rd).mono ?_
      rintro e w3 ⟨rfl, hk⟩
      have K4 := Lib.hid (K.out.trans hk (by simp)); have S4 := Lib.hid (S.out.keep hk); clear hk z0 z1
      go_wp2
      go_roundw
      case rel => exact ⟨x + 1, by go_num, by omega, by omega, K4.out, S4.out⟩
      case measure => simp [intOf]; omega
    · obtain rfl : x = n := by omega
      have v1 : seesB M l x = false := by rw [Hn.out]; exact least_not l
      have v2 : rightB M l = true := R.out
      have v3 : leastI M l = x := Hn.out.symm
      clear z0 z1
      go_wp2_with fail
      refine (five_any wr).mono ?_
      rintro e w3 ⟨rfl, hk⟩
      have K4 := Lib.hid (K.out.trans hk (by simp)); have S4 := Lib.hid (S.out.keep hk); clear hk
      have z0 := S4.out.c0; have z1 := S4.out.c1
      go_wp2_with fail
      refine (right_any M _ l w3 S4.out.rd).mono ?_
      rintro e w4 ⟨rfl, hk⟩
      have K5 := Lib.hid (K4.out.trans hk (by simp)); have S5 := Lib.hid (S4.out.keep hk); clear hk z0 z1
      have z0 := S5.out.c0; have z1 := S5.out.c1
      go_wp2_with fail
      refine (rleast_any M _ l w4 S5.out.rd).mono ?_
      rintro e w5 ⟨rfl, hk⟩
      have K6 := Lib.hid (K5.out.trans hk (by simp)); have S6 := Lib.hid (S5.out.keep hk); clear hk z0 z1
      have z0 := S6.out.c0; have z1 := S6.out.c1
      go_wp2_with fail
      refine (sees_any M x _ l w5 S6.out.rd).mono ?_
      rintro e w6 ⟨rfl, hk⟩
      have K7 := Lib.hid (K6.out.trans hk (by simp)); clear hk z0 z1
      go_wp2
      go_ret
      exact ⟨rfl, K7.out.below (Nat.le_refl _) (by simp)⟩

set_option maxRecDepth 100000 in
theorem lifted (os : Os) (started : os.Started) (H : Type) (enc : TypeId × Value → H) :
    ReturnsInHanded {} Try.checked os 4 .any (Rows.snapLeastSpec.pre6 enc Try.prog Try.f4 Rows.snapLeastRow.domain false) (Rows.snapLeastSpec.post enc Try.prog Try.f4 false true false false) := by
  refine returnsInHanded_of_change (C := Try.checked) own started (by kernel_rfl) Try.func4
    (ChangeSpec.witness6 (enc := enc) (C := Try.checked) false ⟨#[], #[.int .u8 0, .slice none 0 0], []⟩ 8 (by kernel_rfl) (by kernel_rfl) (by kernel_rfl) (by kernel_rfl)) ?_
  intro W base args ds gs before hval0 hW hcnd _
  have hval : ∀ (j : Nat) t v, Try.f4.params[j]? = some t → args[j]? = some v → Value.okWide Try.prog W .any base t v := hval0
  have hW' := hW
  obtain ⟨p, q, hA0, hV, rfl, hfz, hnd⟩ := hW
  have hA : DataW.TrodAll enc Try.prog W 0 (fun _ => true) true Try.f4.params.toList args.toList ds p := hA0
  rw [Try.params4] at hA hval
  obtain ⟨v0, vs0, d0, ds0, p0, q0, hargs, rfl, rfl, h0, r0⟩ := trodAll_cons hA
  obtain ⟨v1, vs1, d1, ds1, p1, q1, rfl, rfl, rfl, h1, r1⟩ := trodAll_cons r0
  obtain ⟨rfl, rfl, rfl⟩ := trodAll_nil r1
  obtain rfl : args = #[v0, v1] := by cases args; simp_all
  obtain ⟨rfl, rfl⟩ := trodVars_none hV
  obtain ⟨a0, rfl, rfl, rfl, w0⟩ := open_int Try.underlying5 (hval 0 5 v0 rfl rfl) h0
  obtain ⟨a1, len1, cap1, rfl⟩ := okWide_slice Try.underlying30 (hval 1 30 v1 rfl rfl)
  have k1 := h1
  have lt1 : ∀ x ∈ p1, x.block < W.heap.size := by obtain ⟨m, hm⟩ := k1; exact DataW.trod_lt m _ _ _ hm
  obtain ⟨z1, w1⟩ : ∃ zs, IsRow .u8 W a1 len1 cap1 zs := by
    obtain ⟨fuel, hf⟩ := h1
    rcases open_ints Try.underlying30 Try.underlying5 (by kernel_rfl) hf with ⟨hcs, _⟩ | ⟨x, l, c, zs, hcs, _, hl, hm, hz, _, hcell, hwz⟩
    · simp [Value.cells] at hcs
      obtain ⟨rfl, rfl, rfl⟩ := hcs
      exact ⟨[], .inl ⟨rfl, rfl, rfl, rfl⟩⟩
    · simp [Value.cells] at hcs
      obtain ⟨rfl, rfl, rfl⟩ := hcs
      exact ⟨zs, .inr ⟨_, rfl, hl, hm, by simpa using hz, hcell, hwz⟩⟩
  clear hA0 hval0
  refine (walk a0 a1 len1 cap1 z1 W w0 w1).mono fun e W' ⟨he, bel⟩ => ?_
  subst he
  exact ⟨_, rfl, _, _, _, [], _, [], hW', trodAll_mk1 (shut_bool Try.underlying4 _), (trodAll_cons_mk (shut_int Try.underlying5 w0) (trodAll_cons_mk (Below.trod laidOut (by kernel_rfl) (of_decide_eq_true (by kernel_rfl)) k1 bel lt1) trodAll_mk0)), rfl, bel.frame _, fun h => by cases h⟩

theorem over : Rows.snapLeastRow.holds Try.pinned (OpenSpec.ofChange Rows.snapLeastSpec) :=
  OpenClaim.holds_of_wide 4 Try.f4 rfl rfl rfl rfl rfl rfl rfl ⟨rfl, rfl, rfl, rfl, rfl⟩ rfl rfl rfl rfl rfl (by kernel_rfl) Try.func4 (by kernel_rfl)
    (of_decide_eq_true (by kernel_rfl)) (by unfold Func.isWrapper; first | (rw [if_pos (by decide +kernel)]; kernel_rfl) | (rw [if_neg (by decide +kernel)]; exact ⟨rfl, rfl⟩))
    (fun os started H enc _ => lifted os started H enc)

theorem proved : Rows.SnapLeastSaid :=
  over
end Go.Proofs.Ytfmgjmedmbieeaa.snapLeast

namespace Go.Proofs.Ytfmgjmedmbieeaa
theorem snapLeast_holds : Rows.SnapLeastSaid := snapLeast.proved
#print axioms snapLeast_holds
end Go.Proofs.Ytfmgjmedmbieeaa

