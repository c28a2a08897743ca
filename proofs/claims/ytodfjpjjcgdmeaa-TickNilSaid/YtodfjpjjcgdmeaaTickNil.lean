/-
  Proved: whatever the arguments are, carrierlaw11.TickNil answers true and leaves its arguments as they were. No condition.
-/
import Derived.Test.YtodfjpjjcgdmeaaKi
import Derived.Test.YtodfjpjjcgdmeaaRows
import Derived.Test.YtodfjpjjcgdmeaaChecked
import Derived.ProofKit
import Derived.OpenShut
import Derived.ChangeOld
import Derived.Below
namespace Go.Proofs.Ytodfjpjjcgdmeaa.tickNil
open Go.ChangeShapes Go.WideShapes Go.ChangeAt Go.RowKit
set_option linter.unusedVariables false

theorem own : ownKnob Try.prog.godebug = none := by kernel_rfl
theorem laidOut : laidOutB Try.prog = true := by kernel_rfl

set_option maxHeartbeats 4000000 in
set_option maxRecDepth 100000 in
theorem walk (a0 : Int) (w0 : (Lit.int .i64 a0).wf = true) (W : World) :
    Calls Try.prog 8 #[.int .i64 a0] W fun e w' => e = .returned (.bool true) ∧ Below W.heap.size W w' := by
  clear w0
  have K0 := Lib.hid (Kept.refl W [])
  go_enter Try.func8, Try.ntmps8
  go_wp2_with fail
  refine (Calls.mono (tkadd_nil 1 (.slice none 0 0) a0 _) ?_)
  rintro e w1 ⟨rfl, k1⟩
  have K1 := Lib.hid ((K0.out.trans k1 (by simp)).alloc zT4); clear k1
  go_wp2_with fail
  refine (Calls.mono (tkget_nil a0 _) ?_)
  rintro e w2 ⟨rfl, k2⟩
  have K2 := Lib.hid ((K1.out.trans k2 (by simp)).alloc zT4); clear k2
  go_wp2_with fail
  refine (Calls.mono (tkaft_nil a0 _) ?_)
  rintro e w3 ⟨rfl, k3⟩
  have K3 := Lib.hid ((K2.out.trans k3 (by simp)).alloc zT4); clear k3
  go_wp2_with fail
  refine (Calls.mono (trims_any _) ?_)
  rintro e w4 ⟨rfl, k4⟩
  have K4 := Lib.hid (K3.out.trans k4 (by simp)); clear k4
  go_wp2_with fail
  refine (Calls.mono (tkput_nil a0 0 (.slice none 0 0) 0 _) ?_)
  rintro e w5 ⟨rfl, k5⟩
  have K5 := Lib.hid (K4.out.trans k5 (by simp)); clear k5
  go_wp2_with fail
  refine (Calls.mono (tklast_nil _) ?_)
  rintro e w' ⟨rfl, rfl⟩
  go_wp2_with fail
  refine (Calls.mono (tktrim_nil a0 _) ?_)
  rintro e w6 ⟨rfl, k6⟩
  have K6 := Lib.hid (K5.out.trans k6 (by simp)); clear k6
  go_wp2_with fail
  refine (Calls.mono (tklen_nil _) ?_)
  rintro e w' ⟨rfl, rfl⟩
  go_wp2
  go_ret
  exact ⟨rfl, K6.out.below (Nat.le_refl _) (by simp)⟩

set_option maxRecDepth 100000 in
theorem lifted (os : Os) (started : os.Started) (H : Type) (enc : TypeId × Value → H) :
    ReturnsInHanded {} Try.checked os 8 .any (Rows.tickNilSpec.pre6 enc Try.prog Try.f8 Rows.tickNilRow.domain false) (Rows.tickNilSpec.post enc Try.prog Try.f8 false true false false) := by
  refine returnsInHanded_of_change (C := Try.checked) own started (by kernel_rfl) Try.func8
    (ChangeSpec.witness6 (enc := enc) (C := Try.checked) false ⟨#[], #[.int .i64 0], []⟩ 8 (by kernel_rfl) (by kernel_rfl) (by kernel_rfl) (by kernel_rfl)) ?_
  intro W base args ds gs before hval0 hW hcnd _
  have hval : ∀ (j : Nat) t v, Try.f8.params[j]? = some t → args[j]? = some v → Value.okWide Try.prog W .any base t v := hval0
  have hW' := hW
  obtain ⟨p, q, hA0, hV, rfl, hfz, hnd⟩ := hW
  have hA : DataW.TrodAll enc Try.prog W 0 (fun _ => true) true Try.f8.params.toList args.toList ds p := hA0
  rw [Try.params8] at hA hval
  obtain ⟨v0, vs0, d0, ds0, p0, q0, hargs, rfl, rfl, h0, r0⟩ := trodAll_cons hA
  obtain ⟨rfl, rfl, rfl⟩ := trodAll_nil r0
  obtain rfl : args = #[v0] := by cases args; simp_all
  obtain ⟨rfl, rfl⟩ := trodVars_none hV
  obtain ⟨a0, rfl, rfl, rfl, w0⟩ := open_int Try.underlying2 (hval 0 2 v0 rfl rfl) h0
  clear hA0 hval0
  simp only [List.append_nil] at hW'
  refine (walk a0 w0 W).mono fun e W' ⟨he, bel⟩ => ?_
  subst he
  exact ⟨_, rfl, _, _, _, [], _, [], hW', trodAll_mk1 (shut_bool Try.underlying4 _), (trodAll_cons_mk (shut_int Try.underlying2 w0) trodAll_mk0), rfl, bel.frame _, fun h => by cases h⟩

theorem over : Rows.tickNilRow.holds Try.pinned (OpenSpec.ofChange Rows.tickNilSpec) :=
  OpenClaim.holds_of_wide 8 Try.f8 rfl rfl rfl rfl rfl rfl rfl ⟨rfl, rfl, rfl, rfl, rfl⟩ rfl rfl rfl rfl rfl (by kernel_rfl) Try.func8 (by kernel_rfl)
    (of_decide_eq_true (by kernel_rfl)) (by unfold Func.isWrapper; first | (rw [if_pos (by decide +kernel)]; kernel_rfl) | (rw [if_neg (by decide +kernel)]; exact ⟨rfl, rfl⟩))
    (fun os started H enc _ => lifted os started H enc)

theorem proved : Rows.TickNilSaid :=
  over
end Go.Proofs.Ytodfjpjjcgdmeaa.tickNil

namespace Go.Proofs.Ytodfjpjjcgdmeaa
theorem tickNil_holds : Rows.TickNilSaid := tickNil.proved
#print axioms tickNil_holds
end Go.Proofs.Ytodfjpjjcgdmeaa

