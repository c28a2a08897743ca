/-
  Proved: whatever the arguments are, carrierlaw15.QueueNil answers true and leaves its arguments as they were. No condition.
-/
import Derived.Test.YticiofkiffgclaaGreatNa4
import Derived.Test.YticiofkiffgclaaGreatRows
import Derived.Test.YticiofkiffgclaaGreatChecked
import Derived.ProofKit
import Derived.OpenShut
import Derived.ChangeOld
import Derived.Below
namespace Go.Proofs.YticiofkiffgclaaGreat.queueNil
open Go.ChangeShapes Go.WideShapes Go.ChangeAt Go.RowKit
open Go.ChangeMaps (open_string shut_string)
set_option linter.unusedVariables false

theorem own : ownKnob Tryz.prog.godebug = none := by kernel_rfl
theorem laidOut : laidOutB Tryz.prog = true := by kernel_rfl

set_option maxHeartbeats 4000000 in
set_option maxRecDepth 100000 in
theorem walk (a0 : ByteArray) (a1 : Int) (w0 : a0.size ≤ maxLen) (w1 : (Lit.int .i64 a1).wf = true) (W : World) :
    Calls Tryz.prog 8 #[.string a0, .int .i64 a1] W fun e w' => e = .returned (.bool true) ∧ Below W.heap.size W w' := by
  have hs : a0.size ≤ 9223372036854775807 := by unfold maxLen at w0; omega
  clear w0 w1
  by_cases h60 : 60 < a0.size
  · have x0 : (60 : Int) < (a0.size : Int) := by omega
    go_enter Tryz.func8, Tryz.ntmps8
    go_wp2_with fail
    refine (early_any W).mono ?_
    rintro e w1 ⟨rfl, k1⟩
    have K1 := Lib.hid k1; clear k1
    go_wp2
    go_ret
    exact ⟨rfl, K1.out.below (Nat.le_refl _) (by simp)⟩
  · have x0 : ¬ (60 : Int) < (a0.size : Int) := by omega
    have K0 := Lib.hid (Kept.refl W [])
    go_enter Tryz.func8, Tryz.ntmps8
    go_wp2_with fail
    refine (ksid_nil a1 _).mono ?_
    rintro e wx ⟨rfl, hw⟩
    have hw2 := hw.symm; clear hw; subst hw2
    go_wp2_with fail
    refine (ktck_nil a1 _).mono ?_
    rintro e w1 ⟨rfl, k1⟩
    have K1 := Lib.hid ((K0.out.trans k1 (by simp)).alloc (.cells #[.int .i64 0, .int .i64 0, .slice none 0 0, .int .i64 0] 38)); clear k1
    go_wp2_with fail
    refine (knxt_nil a0 _).mono ?_
    rintro e w2 ⟨rfl, k2⟩
    have K2 := Lib.hid ((K1.out.trans k2 (by simp)).alloc (.cells #[.int .i64 0, .int .i64 0, .slice none 0 0, .int .i64 0] 38)); clear k2
    go_wp2_with fail
    refine (kbat_nil a0 _).mono ?_
    rintro e w3 ⟨rfl, k3⟩
    have K3 := Lib.hid ((K2.out.trans k3 (by simp))); clear k3
    go_wp2_with fail
    refine (kfns_nil a0 _).mono ?_
    rintro e w4 ⟨rfl, k4⟩
    have K4 := Lib.hid ((K3.out.trans k4 (by simp))); clear k4
    go_wp2_with fail
    refine (krot_nil _).mono ?_
    rintro e w5 ⟨rfl, k5⟩
    have K5 := Lib.hid ((K4.out.trans k5 (by simp))); clear k5
    go_wp2_with fail
    refine (kwri_nil a1 0 1 0 ⟨#[]⟩ _).mono ?_
    rintro e w6 ⟨rfl, k6⟩
    obtain ⟨w7, hw7⟩ : ∃ w7, w7 = w6.alloc (.cells #[.int .i64 0, .int .i64 0, .string ⟨#[]⟩, .int .i64 0, .int .i64 0, .int .u8 0, .int .i64 0, .string ⟨#[]⟩] 50) := ⟨_, rfl⟩
    have K7 := Lib.hid (show Kept W w7 [] by rw [hw7]; exact (K5.out.trans k6 (by simp)).alloc _)
    have G7 := Lib.hid (show w7.heap[w6.heap.size]? = some zE8 by rw [hw7]; exact heap_alloc_new w6 _)
    have HW7 := Lib.hid hw7
    clear k6 hw7
    go_wp2_with fail
    rw [← HW7.out]
    refine (early_any _).mono ?_
    rintro e w8 ⟨rfl, k8⟩
    have K8 := Lib.hid (K7.out.trans k8 (by simp))
    obtain ⟨y0, y1, y2, y3, y4, y5, y6, y7⟩ := ev_cells (k8.heap (by simp) G7.out)
    clear k8
    go_wp2_with fail
    refine (krgs_nil a0 _).mono ?_
    rintro e w9 ⟨rfl, k9⟩
    clear y0 y1 y2 y3 y4 y5 y6 y7
    have K9 := Lib.hid ((K8.out.trans k9 (by simp))); clear k9
    go_wp2_with fail
    refine (kurg_nil a0 _).mono ?_
    rintro e w10 ⟨rfl, k10⟩
    have K10 := Lib.hid ((K9.out.trans k10 (by simp))); clear k10
    go_wp2_with fail
    refine (krty_nil a0 a1 a1 _).mono ?_
    rintro e w11 ⟨rfl, k11⟩
    have K11 := Lib.hid ((K10.out.trans k11 (by simp))); clear k11
    go_wp2_with fail
    refine (kmnt_nil a1 a1 _).mono ?_
    rintro e w12 ⟨rfl, k12⟩
    have K12 := Lib.hid ((K11.out.trans k12 (by simp))); clear k12
    go_wp2_with fail
    refine (ktrm_nil _).mono ?_
    rintro e w13 ⟨rfl, k13⟩
    have K13 := Lib.hid ((K12.out.trans k13 (by simp))); clear k13
    go_wp2_with fail
    refine (kfrg_nil a1 _).mono ?_
    rintro e w14 ⟨rfl, k14⟩
    have K14 := Lib.hid ((K13.out.trans k14 (by simp))); clear k14
    go_wp2_with fail
    refine (kfre_nil _).mono ?_
    rintro e w15 ⟨rfl, k15⟩
    have K15 := Lib.hid ((K14.out.trans k15 (by simp))); clear k15
    go_wp2_with fail
    refine (knid_nil _).mono ?_
    rintro e wx ⟨rfl, hw⟩
    have hw2 := hw.symm; clear hw; subst hw2
    go_wp2_with fail
    refine (kspools_nil _).mono ?_
    rintro e wx ⟨rfl, hw⟩
    have hw2 := hw.symm; clear hw; subst hw2
    go_wp2_with fail
    refine (kticks_nil _).mono ?_
    rintro e wx ⟨rfl, hw⟩
    have hw2 := hw.symm; clear hw; subst hw2
    go_wp2_with fail
    refine (kcursors_nil _).mono ?_
    rintro e wx ⟨rfl, hw⟩
    have hw2 := hw.symm; clear hw; subst hw2
    go_wp2_with fail
    refine (kretries_nil _).mono ?_
    rintro e wx ⟨rfl, hw⟩
    have hw2 := hw.symm; clear hw; subst hw2
    go_wp2
    go_ret
    exact ⟨rfl, K15.out.below (Nat.le_refl _) (by simp)⟩

set_option maxRecDepth 100000 in
theorem lifted (os : Os) (started : os.Started) (H : Type) (enc : TypeId × Value → H) :
    ReturnsInHanded {} Tryz.checked os 8 .any (Rows.queueNilSpec.pre6 enc Tryz.prog Tryz.f8 Rows.queueNilRow.domain false) (Rows.queueNilSpec.post enc Tryz.prog Tryz.f8 false true false false) := by
  refine returnsInHanded_of_change (C := Tryz.checked) own started (by kernel_rfl) Tryz.func8
    (ChangeSpec.witness6 (enc := enc) (C := Tryz.checked) false ⟨#[], #[.string ByteArray.empty, .int .i64 0], []⟩ 8 (by kernel_rfl) (by kernel_rfl) (by kernel_rfl) (by kernel_rfl)) ?_
  intro W base args ds gs before hval0 hW hcnd _
  have hval : ∀ (j : Nat) t v, Tryz.f8.params[j]? = some t → args[j]? = some v → Value.okWide Tryz.prog W .any base t v := hval0
  have hW' := hW
  obtain ⟨p, q, hA0, hV, rfl, hfz, hnd⟩ := hW
  have hA : DataW.TrodAll enc Tryz.prog W 0 (fun _ => true) true Tryz.f8.params.toList args.toList ds p := hA0
  rw [Tryz.params8] at hA hval
  obtain ⟨v0, vs0, d0, ds0, p0, q0, hargs, rfl, rfl, h0, r0⟩ := trodAll_cons hA
  obtain ⟨v1, vs1, d1, ds1, p1, q1, rfl, rfl, rfl, h1, r1⟩ := trodAll_cons r0
  obtain ⟨rfl, rfl, rfl⟩ := trodAll_nil r1
  obtain rfl : args = #[v0, v1] := by cases args; simp_all
  obtain ⟨rfl, rfl⟩ := trodVars_none hV
  obtain ⟨a0, rfl, rfl, rfl, w0⟩ := open_string Tryz.underlying9 (hval 0 9 v0 rfl rfl) h0
  obtain ⟨a1, rfl, rfl, rfl, w1⟩ := open_int Tryz.underlying2 (hval 1 2 v1 rfl rfl) h1
  clear hA0 hval0
  simp only [List.append_nil] at hW'
  refine (walk a0 a1 w0 w1 W).mono fun e W' ⟨he, bel⟩ => ?_
  subst he
  exact ⟨_, rfl, _, _, _, [], _, [], hW', trodAll_mk1 (shut_bool Tryz.underlying4 _), (trodAll_cons_mk (shut_string Tryz.underlying9 w0) (trodAll_cons_mk (shut_int Tryz.underlying2 w1) trodAll_mk0)), rfl, bel.frame _, fun h => by cases h⟩

theorem over : Rows.queueNilRow.holds Tryz.pinned (OpenSpec.ofChange Rows.queueNilSpec) :=
  OpenClaim.holds_of_wide 8 Tryz.f8 rfl rfl rfl rfl rfl rfl rfl ⟨rfl, rfl, rfl, rfl, rfl⟩ rfl rfl rfl rfl rfl (by kernel_rfl) Tryz.func8 (by kernel_rfl)
    (of_decide_eq_true (by kernel_rfl)) (by unfold Func.isWrapper; first | (rw [if_pos (by decide +kernel)]; kernel_rfl) | (rw [if_neg (by decide +kernel)]; exact ⟨rfl, rfl⟩))
    (fun os started H enc _ => lifted os started H enc)

theorem proved : Rows.QueueNilSaid :=
  over
end Go.Proofs.YticiofkiffgclaaGreat.queueNil

namespace Go.Proofs.YticiofkiffgclaaGreat
theorem queueNil_holds : Rows.QueueNilSaid := queueNil.proved
#print axioms queueNil_holds
end Go.Proofs.YticiofkiffgclaaGreat

