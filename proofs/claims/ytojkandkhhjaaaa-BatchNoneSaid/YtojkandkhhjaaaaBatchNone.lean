/-
  Proved: whatever the arguments are, carrierlaw12.BatchNone answers true and leaves its arguments as they were. No condition.
-/
import Derived.Test.YtojkandkhhjaaaaBm
namespace Go.Proofs.Ytojkandkhhjaaaa.batchNone
open Go.ChangeShapes Go.WideShapes Go.ChangeAt Go.RowKit
set_option linter.unusedVariables false

theorem own : ownKnob Try.prog.godebug = none := by kernel_rfl
theorem laidOut : laidOutB Try.prog = true := by kernel_rfl

set_option maxHeartbeats 4000000 in
set_option maxRecDepth 100000 in
theorem walk (a0 : Option Addr) (len cap : Nat) (f : Nat → ActD) (a1 : Int) (W : World) (w0 : IsActs W W.heap.size a0 len f ∧ len ≤ maxLen) (w1 : (Lit.int .u8 a1).wf = true) :
    Calls Try.prog 7 #[.slice a0 len cap, .int .u8 a1] W fun e w' => e = .returned (.bool true) ∧ Below W.heap.size W w' := by
  have B0 := bounds_u8 w1
  obtain ⟨q, hq⟩ : ∃ q : Nat, a1 = q := ⟨a1.toNat, by omega⟩
  subst hq
  have hq8 : q < 256 := by omega
  have HA := Lib.hid w0.1
  have hlm : len ≤ 9223372036854775807 := by have := w0.2; unfold maxLen at this; omega
  clear w0 w1 B0
  by_cases h60 : 60 < len
  · have x0 : (60 : Int) < (len : Int) := by omega
    go_enter Try.func7, Try.ntmps7
    go_wp2_with fail
    refine (seen_any W).mono ?_
    rintro e w1 ⟨rfl, k1⟩
    have K1 := Lib.hid k1; clear k1
    go_wp2_with fail
    refine (seen_any w1).mono ?_
    rintro e w2 ⟨rfl, k2⟩
    have K2 := Lib.hid (K1.out.trans k2 (by simp)); clear k2
    go_wp2
    go_ret
    exact ⟨rfl, K2.out.below (Nat.le_refl _) (by simp)⟩
  · have x0 : ¬ (60 : Int) < (len : Int) := by omega
    go_enter Try.func7, Try.ntmps7
    go_wp2_with fail
    refine (seen_any W).mono ?_
    rintro e w1 ⟨rfl, k1⟩
    have K1 := Lib.hid k1; clear k1
    have he := Lib.hid (events_any (cap := cap) (HA.out.kept K1.out) (by omega))
    go_wp2_with fail
    refine he.out.mono ?_
    rintro e w2 ⟨v2, rfl, o2, k2⟩
    obtain ⟨a2, c2, hv2⟩ := o2.shape
    subst hv2
    rw [evsA_length] at o2 ⊢
    obtain ⟨W3, hW3⟩ : ∃ W3, W3 = w2.alloc (.cells #[.int .i64 (1 + (q : Int)), .slice none 0 0] 31) := ⟨_, rfl⟩
    have k3 : Kept w2 W3 [] := by rw [hW3]; exact (Kept.refl _ []).alloc _
    have g3 : W3.heap[w2.heap.size]? = some (.cells #[.int .i64 (1 + (q : Int)), .slice none 0 0] 31 (0, 0)) := by rw [hW3]; exact heap_alloc_new w2 _
    have HW := Lib.hid hW3; have G3 := Lib.hid g3
    have K3 := Lib.hid (K1.out.trans (k2.trans k3 (by simp)) (by simp))
    have O3 := Lib.hid (o2.kept k3 (by simp)).rd
    have d1 := Lib.hid (bof_any (A := 1) (B := 1 + (q : Int)) ⟨#[97]⟩ O3.out (by rw [evsA_length]; omega) (Man.none W3) (RdI.nil W3) (RdI.nil W3) (evsA_wf f len))
    rw [told_nil] at d1
    obtain ⟨y2, y3⟩ := two_cells g3
    clear hW3 k3 g3 k2 o2 he
    go_upto_region 5 with fail
    rw [← HW.out]
    go_wp2_with fail
    refine d1.out.mono ?_
    rintro e w5 ⟨v5, rfl, o5, k5⟩
    obtain ⟨a5, c5, hv5⟩ := o5.shape
    subst hv5
    have K5 := Lib.hid k5
    clear o5 k5 y2 y3 d1
    obtain ⟨y2, y3⟩ := two_cells (K5.out.heap (by simp) G3.out)
    obtain ⟨W6, hW6⟩ : ∃ W6, W6 = w5.alloc (.cells #[.int .i64 (1 + (q : Int)), .slice none 0 0] 31) := ⟨_, rfl⟩
    have k6 : Kept w5 W6 [] := by rw [hW6]; exact (Kept.refl _ []).alloc _
    have g6 : W6.heap[w5.heap.size]? = some (.cells #[.int .i64 (1 + (q : Int)), .slice none 0 0] 31 (0, 0)) := by rw [hW6]; exact heap_alloc_new w5 _
    have k36 := K5.out.trans k6 (by simp)
    have d2 := Lib.hid (bfree_any (O3.out.kept k36 (by simp)) (by rw [evsA_length]; omega) (Man.none W6) (rdS_one g6 (RdI.nil W6)) (by simp) (evsA_wf f len))
    rw [free_nil] at d2
    have HW6 := Lib.hid hW6; have K6 := Lib.hid (K3.out.trans k36 (by simp))
    clear hW6 k6 g6 k36
    go_wp2_with fail
    rw [← HW6.out]
    refine d2.out.mono ?_
    rintro e w7 ⟨rfl, k7⟩
    have K7 := Lib.hid (K6.out.trans k7 (by simp))
    clear k7 y2 y3
    go_wp2
    go_ret
    exact ⟨rfl, K7.out.below (Nat.le_refl _) (by simp)⟩

set_option maxRecDepth 100000 in
theorem lifted (os : Os) (started : os.Started) (H : Type) (enc : TypeId × Value → H) :
    ReturnsInHanded {} Try.checked os 7 .any (Rows.batchNoneSpec.pre6 enc Try.prog Try.f7 Rows.batchNoneRow.domain false) (Rows.batchNoneSpec.post enc Try.prog Try.f7 false true false false) := by
  refine returnsInHanded_of_change (C := Try.checked) own started (by kernel_rfl) Try.func7
    (ChangeSpec.witness6 (enc := enc) (C := Try.checked) false ⟨#[], #[.slice none 0 0, .int .u8 0], []⟩ 8 (by kernel_rfl) (by kernel_rfl) (by kernel_rfl) (by kernel_rfl)) ?_
  intro W base args ds gs before hval0 hW hcnd _
  have hval : ∀ (j : Nat) t v, Try.f7.params[j]? = some t → args[j]? = some v → Value.okWide Try.prog W .any base t v := hval0
  have hW' := hW
  obtain ⟨p, q, hA0, hV, rfl, hfz, hnd⟩ := hW
  have hA : DataW.TrodAll enc Try.prog W 0 (fun _ => true) true Try.f7.params.toList args.toList ds p := hA0
  rw [Try.params7] at hA hval
  obtain ⟨v0, vs0, d0, ds0, p0, q0, hargs, rfl, rfl, h0, r0⟩ := trodAll_cons hA
  obtain ⟨v1, vs1, d1, ds1, p1, q1, rfl, rfl, rfl, h1, r1⟩ := trodAll_cons r0
  obtain ⟨rfl, rfl, rfl⟩ := trodAll_nil r1
  obtain rfl : args = #[v0, v1] := by cases args; simp_all
  obtain ⟨rfl, rfl⟩ := trodVars_none hV
  obtain ⟨a0, len0, cap0, rfl⟩ := okWide_slice Try.underlying22 (hval 0 22 v0 rfl rfl)
  have k0 := h0
  have lt0 : ∀ x ∈ p0, x.block < W.heap.size := by obtain ⟨m, hm⟩ := k0; exact DataW.trod_lt m _ _ _ hm
  obtain ⟨z0, w0⟩ : ∃ f, IsActs W W.heap.size a0 len0 f ∧ len0 ≤ maxLen := by
    obtain ⟨fuel, hf⟩ := h0
    exact acts_open (by simpa [Value.cells] using hf)
  obtain ⟨a1, rfl, rfl, rfl, w1⟩ := open_int Try.underlying5 (hval 1 5 v1 rfl rfl) h1
  clear hA0 hval0
  refine (walk a0 len0 cap0 z0 a1 W w0 w1).mono fun e W' ⟨he, bel⟩ => ?_
  subst he
  exact ⟨_, rfl, _, _, _, [], _, [], hW', trodAll_mk1 (shut_bool Try.underlying4 _), (trodAll_cons_mk (Below.trod laidOut (by kernel_rfl) (of_decide_eq_true (by kernel_rfl)) k0 bel lt0) (trodAll_cons_mk (shut_int Try.underlying5 w1) trodAll_mk0)), rfl, bel.frame _, fun h => by cases h⟩

theorem over : Rows.batchNoneRow.holds Try.pinned (OpenSpec.ofChange Rows.batchNoneSpec) :=
  OpenClaim.holds_of_wide 7 Try.f7 rfl rfl rfl rfl rfl rfl rfl ⟨rfl, rfl, rfl, rfl, rfl⟩ rfl rfl rfl rfl rfl (by kernel_rfl) Try.func7 (by kernel_rfl)
    (of_decide_eq_true (by kernel_rfl)) (by unfold Func.isWrapper; first | (rw [if_pos (by decide +kernel)]; kernel_rfl) | (rw [if_neg (by decide +kernel)]; exact ⟨rfl, rfl⟩))
    (fun os started H enc _ => lifted os started H enc)

theorem proved : Rows.BatchNoneSaid :=
  over
end Go.Proofs.Ytojkandkhhjaaaa.batchNone

namespace Go.Proofs.Ytojkandkhhjaaaa
theorem batchNone_holds : Rows.BatchNoneSaid := batchNone.proved
#print axioms batchNone_holds
end Go.Proofs.Ytojkandkhhjaaaa

