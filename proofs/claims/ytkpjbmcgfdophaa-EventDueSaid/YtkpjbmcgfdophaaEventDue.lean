/-
  Proved: whatever the arguments are, carrierlaw09.EventDue answers true and leaves its arguments as they were. No condition.
-/
import Derived.Test.YtkpjbmcgfdophaaEj
import Derived.ProofKit
import Derived.OpenShut
import Derived.ShutString
import Derived.ChangeOld
import Derived.Below
namespace Go.Proofs.Ytkpjbmcgfdophaa.eventDue
open Go.ChangeShapes Go.WideShapes Go.ChangeAt Go.RowKit
open Go.ChangeMaps (open_string shut_string)
set_option linter.unusedVariables false

theorem own : ownKnob Try.prog.godebug = none := by kernel_rfl
theorem laidOut : laidOutB Try.prog = true := by kernel_rfl

set_option maxHeartbeats 2000000 in
set_option maxRecDepth 100000 in
theorem walk (a0 a1 : ByteArray) (w0 : a0.size ≤ maxLen) (w1 : a1.size ≤ maxLen) (W : World) :
    Calls Try.prog 8 #[.string a0, .string a1] W fun e w' => e = .returned (.bool true) ∧ Below W.heap.size W w' := by
  clear w0 w1
  by_cases h1 : (60 : Int) < (a0.size : Int)
  · skip
    go_enter Try.func8, Try.ntmps8
    go_wp2_with fail
    refine (nine_any W).mono ?_
    rintro e w1 ⟨rfl, hk⟩
    have K := Lib.hid hk; clear hk
    go_wp2
    go_ret
    exact ⟨rfl, K.out.below (Nat.le_refl _) (by simp)⟩
  by_cases h2 : (60 : Int) < (a1.size : Int)
  · skip
    go_enter Try.func8, Try.ntmps8
    go_wp2_with fail
    refine (nine_any W).mono ?_
    rintro e w1 ⟨rfl, hk⟩
    have K := Lib.hid hk; clear hk
    go_wp2
    go_ret
    exact ⟨rfl, K.out.below (Nat.le_refl _) (by simp)⟩
  obtain ⟨D, hD⟩ : ∃ D, D = dueB a0 a1 := ⟨_, rfl⟩
  have d1 := due_any ⟨0, 0, a0, 0, 0, 0, 0, ⟨#[]⟩⟩ a1
  have d2 := refdue_any ⟨0, 0, a0, 0, 0, 0, 0, ⟨#[]⟩⟩ a1
  dsimp only at d1 d2
  rw [← hD] at d1 d2
  have D1 := Lib.hid d1; have D2 := Lib.hid d2
  clear d1 d2 hD
  have d3 := due_any ⟨0, 0, ⟨#[]⟩, 0, 0, 0, 0, ⟨#[]⟩⟩ a1
  have d4 := due_any ⟨0, 0, a0, 0, 0, 0, 0, ⟨#[]⟩⟩ a0
  dsimp only at d3 d4
  rw [dueB_none] at d3
  rw [dueB_self] at d4
  have D3 := Lib.hid d3; have D4 := Lib.hid d4
  clear d3 d4
  go_enter Try.func8, Try.ntmps8
  go_wp2_with fail
  refine (nine_any W).mono ?_
  rintro e w1 ⟨rfl, k1⟩
  have K1 := Lib.hid k1; clear k1
  go_wp2_with fail
  refine (D1.out w1).mono ?_
  rintro e w2 ⟨rfl, k2⟩
  have K2 := Lib.hid (K1.out.trans k2 (by simp)); clear k2
  go_wp2_with fail
  refine (D2.out w2).mono ?_
  rintro e w3 ⟨rfl, k3⟩
  have K3 := Lib.hid (K2.out.trans k3 (by simp)); clear k3
  go_wp2_with fail
  refine (D3.out w3).mono ?_
  rintro e w4 ⟨rfl, k4⟩
  have K4 := Lib.hid (K3.out.trans k4 (by simp)); clear k4
  go_wp2_with fail
  refine (D4.out w4).mono ?_
  rintro e w5 ⟨rfl, k5⟩
  have K5 := Lib.hid (K4.out.trans k5 (by simp)); clear k5
  go_wp2
  go_ret
  exact ⟨rfl, K5.out.below (Nat.le_refl _) (by simp)⟩

set_option maxRecDepth 100000 in
theorem lifted (os : Os) (started : os.Started) (H : Type) (enc : TypeId × Value → H) :
    ReturnsInHanded {} Try.checked os 8 .any (Rows.eventDueSpec.pre6 enc Try.prog Try.f8 Rows.eventDueRow.domain false) (Rows.eventDueSpec.post enc Try.prog Try.f8 false true false false) := by
  refine returnsInHanded_of_change (C := Try.checked) own started (by kernel_rfl) Try.func8
    (ChangeSpec.witness6 (enc := enc) (C := Try.checked) false ⟨#[], #[.string ByteArray.empty, .string ByteArray.empty], []⟩ 8 (by kernel_rfl) (by kernel_rfl) (by kernel_rfl) (by kernel_rfl)) ?_
  intro W base args ds gs before hval0 hW hcnd _
  have hval : ∀ (j : Nat) t v, Try.f8.params[j]? = some t → args[j]? = some v → Value.okWide Try.prog W .any base t v := hval0
  have hW' := hW
  obtain ⟨p, q, hA0, hV, rfl, hfz, hnd⟩ := hW
  have hA : DataW.TrodAll enc Try.prog W 0 (fun _ => true) true Try.f8.params.toList args.toList ds p := hA0
  rw [Try.params8] at hA hval
  obtain ⟨v0, vs0, d0, ds0, p0, q0, hargs, rfl, rfl, h0, r0⟩ := trodAll_cons hA
  obtain ⟨v1, vs1, d1, ds1, p1, q1, rfl, rfl, rfl, h1, r1⟩ := trodAll_cons r0
  obtain ⟨rfl, rfl, rfl⟩ := trodAll_nil r1
  obtain rfl : args = #[v0, v1] := by cases args; simp_all
  obtain ⟨rfl, rfl⟩ := trodVars_none hV
  obtain ⟨a0, rfl, rfl, rfl, w0⟩ := open_string Try.underlying9 (hval 0 9 v0 rfl rfl) h0
  obtain ⟨a1, rfl, rfl, rfl, w1⟩ := open_string Try.underlying9 (hval 1 9 v1 rfl rfl) h1
  clear hA0 hval0
  simp only [List.append_nil] at hW'
  refine (walk a0 a1 w0 w1 W).mono fun e W' ⟨he, bel⟩ => ?_
  subst he
  exact ⟨_, rfl, _, _, _, [], _, [], hW', trodAll_mk1 (shut_bool Try.underlying4 _), (trodAll_cons_mk (shut_string Try.underlying9 w0) (trodAll_cons_mk (shut_string Try.underlying9 w1) trodAll_mk0)), rfl, bel.frame _, fun h => by cases h⟩

theorem over : Rows.eventDueRow.holds Try.pinned (OpenSpec.ofChange Rows.eventDueSpec) :=
  OpenClaim.holds_of_wide 8 Try.f8 rfl rfl rfl rfl rfl rfl rfl ⟨rfl, rfl, rfl, rfl, rfl⟩ rfl rfl rfl rfl rfl (by kernel_rfl) Try.func8 (by kernel_rfl)
    (of_decide_eq_true (by kernel_rfl)) (by unfold Func.isWrapper; first | (rw [if_pos (by decide +kernel)]; kernel_rfl) | (rw [if_neg (by decide +kernel)]; exact ⟨rfl, rfl⟩))
    (fun os started H enc _ => lifted os started H enc)

theorem proved : Rows.EventDueSaid :=
  over
end Go.Proofs.Ytkpjbmcgfdophaa.eventDue

namespace Go.Proofs.Ytkpjbmcgfdophaa
theorem eventDue_holds : Rows.EventDueSaid := eventDue.proved
#print axioms eventDue_holds
end Go.Proofs.Ytkpjbmcgfdophaa

