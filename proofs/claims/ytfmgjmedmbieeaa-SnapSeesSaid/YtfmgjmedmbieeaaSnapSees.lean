/-
  Proved: whatever the arguments are, carrierlaw05.SnapSees answers true and leaves its arguments as they were. No condition.
-/
import Derived.Test.YtfmgjmedmbieeaaSnJ
namespace Go.Proofs.Ytfmgjmedmbieeaa.snapSees
open Go.ChangeShapes Go.WideShapes Go.ChangeAt Go.RowKit
set_option linter.unusedVariables false

theorem own : ownKnob Try.prog.godebug = none := by kernel_rfl
theorem laidOut : laidOutB Try.prog = true := by kernel_rfl

set_option maxHeartbeats 4000000 in
set_option maxRecDepth 100000 in
theorem walk (a0 : Int) (a1 : Option Addr) (len1 cap1 : Nat) (z1 : List Int) (a2 : Int) (W : World) (w0 : (Lit.int .i64 a0).wf = true) (w1 : IsRow .i64 W a1 len1 cap1 z1) (w2 : (Lit.int .i64 a2).wf = true) :
    Calls Try.prog 3 #[.int .i64 a0, .slice a1 len1 cap1, .int .i64 a2] W fun e w' => e = .returned (.bool true) ∧ Below W.heap.size W w' := by
  obtain ⟨l, rfl, hrd⟩ := isRow_rdI w1
  have Hr := Lib.hid hrd
  clear w0 w1 w2 hrd
  by_cases h40 : (40 : Int) < (l.length : Int)
  · go_enter Try.func3, Try.ntmps3
    go_wp2_with fail
    refine (five_any W).mono ?_
    rintro e w1 ⟨rfl, hk⟩
    have K := Lib.hid hk; clear hk
    go_wp2
    go_ret
    exact ⟨rfl, K.out.below (Nat.le_refl _) (by simp)⟩
  obtain ⟨W1, hW1⟩ : ∃ W1, W1 = W.alloc (.cells #[.int .i64 a0, .slice a1 l.length cap1] 25) := ⟨_, rfl⟩
  have s0 := Sr.new (M := a0) Hr.out 25
  have K0 : Hid (Kept W W1 []) := Lib.hid (by rw [hW1]; exact (Kept.refl W []).alloc _)
  rw [← hW1] at s0
  have Z := Lib.hid (And.intro s0.c0 s0.c1)
  have R := Lib.hid s0.rd
  have H5 : Hid (∀ V, Kept W1 V [] → Calls Try.prog 9 #[] V fun e w' => e = .returned (.bool true) ∧ Kept W1 w' []) := Lib.hid (fun V hV => by
    refine (five_any V).mono ?_
    rintro e w' ⟨rfl, h⟩
    exact ⟨rfl, hV.trans h (by simp)⟩)
  have HS : Hid (∀ V (x : Int), Kept W1 V [] → Calls Try.prog 10 #[.agg #[.int .i64 a0, .slice a1 l.length cap1], .int .i64 x] V fun e w' => e = .returned (.bool (seesB a0 l x)) ∧ Kept W1 w' []) := Lib.hid (fun V x hV => by
    refine (sees_any a0 x _ l V (R.out.keep hV)).mono ?_
    rintro e w' ⟨rfl, h⟩
    exact ⟨rfl, hV.trans h (by simp)⟩)
  have HT : Hid (∀ V (x : Int), Kept W1 V [] → Calls Try.prog 11 #[.agg #[.int .i64 a0, .slice a1 l.length cap1], .int .i64 x] V fun e w' => e = .returned (.bool (seesB a0 l x)) ∧ Kept W1 w' []) := Lib.hid (fun V x hV => by
    refine (rsees_any a0 x _ l V (R.out.keep hV)).mono ?_
    rintro e w' ⟨rfl, h⟩
    exact ⟨rfl, hV.trans h (by simp)⟩)
  have HR : Hid (∀ V, Kept W1 V [] → Calls Try.prog 12 #[.agg #[.int .i64 a0, .slice a1 l.length cap1]] V fun e w' => e = .returned (.bool (rightB a0 l)) ∧ Kept W1 w' []) := Lib.hid (fun V hV => by
    refine (right_any a0 _ l V (R.out.keep hV)).mono ?_
    rintro e w' ⟨rfl, h⟩
    exact ⟨rfl, hV.trans h (by simp)⟩)
  have HQ : Hid (∀ V, Kept W1 V [] → Calls Try.prog 13 #[.agg #[.int .i64 a0, .slice a1 l.length cap1]] V fun e w' => e = .returned (.bool (rightB a0 l)) ∧ Kept W1 w' []) := Lib.hid (fun V hV => by
    refine (rright_any a0 _ l V (R.out.keep hV)).mono ?_
    rintro e w' ⟨rfl, h⟩
    exact ⟨rfl, hV.trans h (by simp)⟩)
  have HE : Hid (∀ V, Kept W1 V [] → Calls Try.prog 14 #[.agg #[.int .i64 a0, .slice a1 l.length cap1], .agg #[.int .i64 a0, .slice a1 l.length cap1]] V fun e w' => e = .returned (.bool true) ∧ Kept W1 w' []) := Lib.hid (fun V hV => by
    refine (same_any a0 a0 _ _ l l V (R.out.keep hV) (R.out.keep hV)).mono ?_
    rintro e w' ⟨rfl, h⟩
    exact ⟨by simp [sameB], hV.trans h (by simp)⟩)
  have k8 := (Kept.refl W1 []).drew
  have y2 := k8.two Z.out
  go_enter Try.func3, Try.ntmps3
  go_wp2_with fail
  rw [← hW1]
  clear hW1 s0
  go_region_held3 (fun V => V.cell? ⟨W.heap.size, 0, none⟩ = some (.int .i64 a0) ∧ V.cell? ⟨W.heap.size, 1, none⟩ = some (.slice a1 l.length cap1)) (exact y2)
    (first
      | (go_at_call 9; refine (H5.out _ ?_).mono ?_; assumption; rintro e w8 ⟨rfl, k8⟩; have y2 := k8.two Z.out)
      | (go_at_call 10; refine (HS.out _ _ ?_).mono ?_; assumption; rintro e w8 ⟨rfl, k8⟩; have y2 := k8.two Z.out)
      | (go_at_call 11; refine (HT.out _ _ ?_).mono ?_; assumption; rintro e w8 ⟨rfl, k8⟩; have y2 := k8.two Z.out)
      | (go_at_call 12; refine (HR.out _ ?_).mono ?_; assumption; rintro e w8 ⟨rfl, k8⟩; have y2 := k8.two Z.out)
      | (go_at_call 13; refine (HQ.out _ ?_).mono ?_; assumption; rintro e w8 ⟨rfl, k8⟩; have y2 := k8.two Z.out)
      | (go_at_call 14; refine (HE.out _ ?_).mono ?_; assumption; rintro e w8 ⟨rfl, k8⟩; have y2 := k8.two Z.out))
  all_goals go_wp2
  all_goals go_ret
  all_goals exact ⟨rfl, (K0.out.trans k8 (by simp)).below (Nat.le_refl _) (by simp)⟩

set_option maxRecDepth 100000 in
theorem lifted (os : Os) (started : os.Started) (H : Type) (enc : TypeId × Value → H) :
    ReturnsInHanded {} Try.checked os 3 .any (Rows.snapSeesSpec.pre6 enc Try.prog Try.f3 Rows.snapSeesRow.domain false) (Rows.snapSeesSpec.post enc Try.prog Try.f3 false true false false) := by
  refine returnsInHanded_of_change (C := Try.checked) own started (by kernel_rfl) Try.func3
    (ChangeSpec.witness6 (enc := enc) (C := Try.checked) false ⟨#[], #[.int .i64 0, .slice none 0 0, .int .i64 0], []⟩ 8 (by kernel_rfl) (by kernel_rfl) (by kernel_rfl) (by kernel_rfl)) ?_
  intro W base args ds gs before hval0 hW hcnd _
  have hval : ∀ (j : Nat) t v, Try.f3.params[j]? = some t → args[j]? = some v → Value.okWide Try.prog W .any base t v := hval0
  have hW' := hW
  obtain ⟨p, q, hA0, hV, rfl, hfz, hnd⟩ := hW
  have hA : DataW.TrodAll enc Try.prog W 0 (fun _ => true) true Try.f3.params.toList args.toList ds p := hA0
  rw [Try.params3] at hA hval
  obtain ⟨v0, vs0, d0, ds0, p0, q0, hargs, rfl, rfl, h0, r0⟩ := trodAll_cons hA
  obtain ⟨v1, vs1, d1, ds1, p1, q1, rfl, rfl, rfl, h1, r1⟩ := trodAll_cons r0
  obtain ⟨v2, vs2, d2, ds2, p2, q2, rfl, rfl, rfl, h2, r2⟩ := trodAll_cons r1
  obtain ⟨rfl, rfl, rfl⟩ := trodAll_nil r2
  obtain rfl : args = #[v0, v1, v2] := by cases args; simp_all
  obtain ⟨rfl, rfl⟩ := trodVars_none hV
  obtain ⟨a0, rfl, rfl, rfl, w0⟩ := open_int Try.underlying2 (hval 0 2 v0 rfl rfl) h0
  obtain ⟨a1, len1, cap1, rfl⟩ := okWide_slice Try.underlying22 (hval 1 22 v1 rfl rfl)
  have k1 := h1
  have lt1 : ∀ x ∈ p1, x.block < W.heap.size := by obtain ⟨m, hm⟩ := k1; exact DataW.trod_lt m _ _ _ hm
  obtain ⟨z1, w1⟩ : ∃ zs, IsRow .i64 W a1 len1 cap1 zs := by
    obtain ⟨fuel, hf⟩ := h1
    rcases open_ints Try.underlying22 Try.underlying2 (by kernel_rfl) hf with ⟨hcs, _⟩ | ⟨x, l, c, zs, hcs, _, hl, hm, hz, _, hcell, hwz⟩
    · simp [Value.cells] at hcs
      obtain ⟨rfl, rfl, rfl⟩ := hcs
      exact ⟨[], .inl ⟨rfl, rfl, rfl, rfl⟩⟩
    · simp [Value.cells] at hcs
      obtain ⟨rfl, rfl, rfl⟩ := hcs
      exact ⟨zs, .inr ⟨_, rfl, hl, hm, by simpa using hz, hcell, hwz⟩⟩
  obtain ⟨a2, rfl, rfl, rfl, w2⟩ := open_int Try.underlying2 (hval 2 2 v2 rfl rfl) h2
  clear hA0 hval0
  refine (walk a0 a1 len1 cap1 z1 a2 W w0 w1 w2).mono fun e W' ⟨he, bel⟩ => ?_
  subst he
  exact ⟨_, rfl, _, _, _, [], _, [], hW', trodAll_mk1 (shut_bool Try.underlying4 _), (trodAll_cons_mk (shut_int Try.underlying2 w0) (trodAll_cons_mk (Below.trod laidOut (by kernel_rfl) (of_decide_eq_true (by kernel_rfl)) k1 bel lt1) (trodAll_cons_mk (shut_int Try.underlying2 w2) trodAll_mk0))), rfl, bel.frame _, fun h => by cases h⟩

theorem over : Rows.snapSeesRow.holds Try.pinned (OpenSpec.ofChange Rows.snapSeesSpec) :=
  OpenClaim.holds_of_wide 3 Try.f3 rfl rfl rfl rfl rfl rfl rfl ⟨rfl, rfl, rfl, rfl, rfl⟩ rfl rfl rfl rfl rfl (by kernel_rfl) Try.func3 (by kernel_rfl)
    (of_decide_eq_true (by kernel_rfl)) (by unfold Func.isWrapper; first | (rw [if_pos (by decide +kernel)]; kernel_rfl) | (rw [if_neg (by decide +kernel)]; exact ⟨rfl, rfl⟩))
    (fun os started H enc _ => lifted os started H enc)

theorem proved : Rows.SnapSeesSaid :=
  over
end Go.Proofs.Ytfmgjmedmbieeaa.snapSees

namespace Go.Proofs.Ytfmgjmedmbieeaa
theorem snapSees_holds : Rows.SnapSeesSaid := snapSees.proved
#print axioms snapSees_holds
end Go.Proofs.Ytfmgjmedmbieeaa

