/-
  Proved: whatever the arguments are, carrierlaw08.RelTables answers true and leaves its arguments as they were. No condition.
-/
import Derived.Test.YtdjhcdgehmpikaaQf
import Derived.ProofKit
import Derived.OpenShut
import Derived.ChangeOld
import Derived.Below
namespace Go.Proofs.Ytdjhcdgehmpikaa.relTables
open Go.ChangeShapes Go.WideShapes Go.ChangeAt Go.RowKit
set_option linter.unusedVariables false

theorem own : ownKnob Try.prog.godebug = none := by kernel_rfl
theorem laidOut : laidOutB Try.prog = true := by kernel_rfl

set_option maxHeartbeats 2000000 in
set_option maxRecDepth 100000 in
theorem walk (a0 : Int) (w0 : (Lit.int .i64 a0).wf = true) (W : World) :
    Calls Try.prog 7 #[.int .i64 a0] W fun e w' => e = .returned (.bool true) ∧ Below W.heap.size W w' := by
  obtain ⟨c, hc⟩ : ∃ c, cl a0 = c := ⟨_, rfl⟩
  have hcl := cl_le a0
  rw [hc] at hcl
  have HC := Lib.hid hc
  have wf1 : (Lit.int .i64 (c : Int)).wf = true := wf_i64 (by omega)
  have wf2 : (Lit.int .i64 ((c : Int) - 1)).wf = true := wf_i64 (by omega)
  have W1 := Lib.hid wf1; have W2 := Lib.hid wf2
  have wr : wrap64 ((c : Int) - 1) = (c : Int) - 1 := by unfold wrap64; omega
  clear hc w0 wf1 wf2
  have way : (a0 < 1 ∧ c = 1) ∨ (¬ a0 < 1 ∧ 4 < a0 ∧ c = 4) ∨ (¬ a0 < 1 ∧ ¬ 4 < a0 ∧ (c : Int) = a0) := by
    have := HC.out
    unfold cl at this
    split at this
    · exact .inl ⟨by assumption, this.symm⟩
    · split at this
      · exact .inr (.inl ⟨by assumption, by assumption, this.symm⟩)
      · exact .inr (.inr ⟨by assumption, by assumption, by omega⟩)
  rcases way with ⟨x1, rfl⟩ | ⟨x1, x2, rfl⟩ | ⟨x1, x2, x3⟩
  · have x2 : ¬ 4 < a0 := by omega
    go_enter Try.func7, Try.ntmps7
    go_wp2_with fail
    refine (mnew_any W).mono ?_
    rintro e w1 ⟨p, b, v1, rfl, hm, hk⟩
    have M1 := Lib.hid hm; have K1 := Lib.hid hk
    clear hm hk
    go_wp2_with fail
    refine (relnew_any M1.out a0).mono ?_
    rintro e w2 ⟨r, O, rfl, s, hk, _⟩
    rw [HC.out] at s
    have S2 := Lib.hid s; have K2 := Lib.hid (K1.out.trans hk (by simp))
    clear s hk
    go_wp2_with fail
    refine (row_any w2).mono ?_
    rintro e w3 ⟨rfl, k3⟩
    have K3 := Lib.hid (K2.out.trans k3 (by simp)); have S3 := Lib.hid (S2.out.keep k3)
    clear k3
    have CT : Hid (Calls Try.prog 15 #[.pointer (some ⟨r, 0, none⟩)] w3 fun e w' => e = .returned (.int .i64 1) ∧ w3 = w') := Lib.hid (by
      have := tables_sto S3.out
      simpa [] using this)
    have CH : Hid (Calls Try.prog 30 #[.pointer (some ⟨r, 0, none⟩), .int .i64 1] w3 fun e w' => e = .returned (.pointer none) ∧ w3 = w') := Lib.hid (by
      have := heapis_sto S3.out 1 (by decide)
      refine this.mono ?_
      rintro e w' ⟨⟨x, rfl, hx⟩, rfl⟩
      rw [hx.2 (.inr (by simp <;> omega))]
      exact ⟨rfl, rfl⟩)
    have CI : Hid (Calls Try.prog 30 #[.pointer (some ⟨r, 0, none⟩), .int .i64 (0)] w3 fun e w' => (∃ x, e = .returned (.pointer (some x))) ∧ w3 = w') := Lib.hid (by
      have := heapis_sto S3.out (0) (by decide)
      refine this.mono ?_
      rintro e w' ⟨⟨x, rfl, hx⟩, rfl⟩
      cases x with
      | none => have := hx.1 rfl; simp at this <;> omega
      | some x => exact ⟨⟨x, rfl⟩, rfl⟩)
    go_wp2_with fail
    refine CT.out.mono ?_
    rintro e w' ⟨rfl, rfl⟩
    go_wp2_with fail
    refine CH.out.mono ?_
    rintro e w' ⟨rfl, rfl⟩
    go_wp2_with fail
    refine CI.out.mono ?_
    rintro e w' ⟨⟨x, rfl⟩, rfl⟩
    go_wp2
    go_ret
    exact ⟨rfl, K3.out.below (Nat.le_refl _) (by simp)⟩
  · go_enter Try.func7, Try.ntmps7
    go_wp2_with fail
    refine (mnew_any W).mono ?_
    rintro e w1 ⟨p, b, v1, rfl, hm, hk⟩
    have M1 := Lib.hid hm; have K1 := Lib.hid hk
    clear hm hk
    go_wp2_with fail
    refine (relnew_any M1.out a0).mono ?_
    rintro e w2 ⟨r, O, rfl, s, hk, _⟩
    rw [HC.out] at s
    have S2 := Lib.hid s; have K2 := Lib.hid (K1.out.trans hk (by simp))
    clear s hk
    go_wp2_with fail
    refine (row_any w2).mono ?_
    rintro e w3 ⟨rfl, k3⟩
    have K3 := Lib.hid (K2.out.trans k3 (by simp)); have S3 := Lib.hid (S2.out.keep k3)
    clear k3
    have CT : Hid (Calls Try.prog 15 #[.pointer (some ⟨r, 0, none⟩)] w3 fun e w' => e = .returned (.int .i64 4) ∧ w3 = w') := Lib.hid (by
      have := tables_sto S3.out
      simpa [] using this)
    have CH : Hid (Calls Try.prog 30 #[.pointer (some ⟨r, 0, none⟩), .int .i64 4] w3 fun e w' => e = .returned (.pointer none) ∧ w3 = w') := Lib.hid (by
      have := heapis_sto S3.out 4 (by decide)
      refine this.mono ?_
      rintro e w' ⟨⟨x, rfl, hx⟩, rfl⟩
      rw [hx.2 (.inr (by simp <;> omega))]
      exact ⟨rfl, rfl⟩)
    have CI : Hid (Calls Try.prog 30 #[.pointer (some ⟨r, 0, none⟩), .int .i64 (3)] w3 fun e w' => (∃ x, e = .returned (.pointer (some x))) ∧ w3 = w') := Lib.hid (by
      have := heapis_sto S3.out (3) (by decide)
      refine this.mono ?_
      rintro e w' ⟨⟨x, rfl, hx⟩, rfl⟩
      cases x with
      | none => have := hx.1 rfl; simp at this <;> omega
      | some x => exact ⟨⟨x, rfl⟩, rfl⟩)
    go_wp2_with fail
    refine CT.out.mono ?_
    rintro e w' ⟨rfl, rfl⟩
    go_wp2_with fail
    refine CH.out.mono ?_
    rintro e w' ⟨rfl, rfl⟩
    go_wp2_with fail
    refine CI.out.mono ?_
    rintro e w' ⟨⟨x, rfl⟩, rfl⟩
    go_wp2
    go_ret
    exact ⟨rfl, K3.out.below (Nat.le_refl _) (by simp)⟩
  · subst x3
    go_enter Try.func7, Try.ntmps7
    go_wp2_with fail
    refine (mnew_any W).mono ?_
    rintro e w1 ⟨p, b, v1, rfl, hm, hk⟩
    have M1 := Lib.hid hm; have K1 := Lib.hid hk
    clear hm hk
    go_wp2_with fail
    refine (relnew_any M1.out c).mono ?_
    rintro e w2 ⟨r, O, rfl, s, hk, _⟩
    rw [HC.out] at s
    have S2 := Lib.hid s; have K2 := Lib.hid (K1.out.trans hk (by simp))
    clear s hk
    go_wp2_with fail
    refine (row_any w2).mono ?_
    rintro e w3 ⟨rfl, k3⟩
    have K3 := Lib.hid (K2.out.trans k3 (by simp)); have S3 := Lib.hid (S2.out.keep k3)
    clear k3
    have CT : Hid (Calls Try.prog 15 #[.pointer (some ⟨r, 0, none⟩)] w3 fun e w' => e = .returned (.int .i64 (c : Int)) ∧ w3 = w') := Lib.hid (by
      have := tables_sto S3.out
      simpa [] using this)
    have CH : Hid (Calls Try.prog 30 #[.pointer (some ⟨r, 0, none⟩), .int .i64 (c : Int)] w3 fun e w' => e = .returned (.pointer none) ∧ w3 = w') := Lib.hid (by
      have := heapis_sto S3.out (c : Int) W1.out
      refine this.mono ?_
      rintro e w' ⟨⟨x, rfl, hx⟩, rfl⟩
      rw [hx.2 (.inr (by simp <;> omega))]
      exact ⟨rfl, rfl⟩)
    have CI : Hid (Calls Try.prog 30 #[.pointer (some ⟨r, 0, none⟩), .int .i64 ((c : Int) - 1)] w3 fun e w' => (∃ x, e = .returned (.pointer (some x))) ∧ w3 = w') := Lib.hid (by
      have := heapis_sto S3.out ((c : Int) - 1) W2.out
      refine this.mono ?_
      rintro e w' ⟨⟨x, rfl, hx⟩, rfl⟩
      cases x with
      | none => have := hx.1 rfl; simp at this <;> omega
      | some x => exact ⟨⟨x, rfl⟩, rfl⟩)
    go_wp2_with fail
    refine CT.out.mono ?_
    rintro e w' ⟨rfl, rfl⟩
    go_wp2_with fail
    refine CH.out.mono ?_
    rintro e w' ⟨rfl, rfl⟩
    go_wp2_with fail
    refine CI.out.mono ?_
    rintro e w' ⟨⟨x, rfl⟩, rfl⟩
    go_wp2
    go_ret
    exact ⟨rfl, K3.out.below (Nat.le_refl _) (by simp)⟩

set_option maxRecDepth 100000 in
theorem lifted (os : Os) (started : os.Started) (H : Type) (enc : TypeId × Value → H) :
    ReturnsInHanded {} Try.checked os 7 .any (Rows.relTablesSpec.pre6 enc Try.prog Try.f7 Rows.relTablesRow.domain false) (Rows.relTablesSpec.post enc Try.prog Try.f7 false true false false) := by
  refine returnsInHanded_of_change (C := Try.checked) own started (by kernel_rfl) Try.func7
    (ChangeSpec.witness6 (enc := enc) (C := Try.checked) false ⟨#[], #[.int .i64 0], []⟩ 8 (by kernel_rfl) (by kernel_rfl) (by kernel_rfl) (by kernel_rfl)) ?_
  intro W base args ds gs before hval0 hW hcnd _
  have hval : ∀ (j : Nat) t v, Try.f7.params[j]? = some t → args[j]? = some v → Value.okWide Try.prog W .any base t v := hval0
  have hW' := hW
  obtain ⟨p, q, hA0, hV, rfl, hfz, hnd⟩ := hW
  have hA : DataW.TrodAll enc Try.prog W 0 (fun _ => true) true Try.f7.params.toList args.toList ds p := hA0
  rw [Try.params7] at hA hval
  obtain ⟨v0, vs0, d0, ds0, p0, q0, hargs, rfl, rfl, h0, r0⟩ := trodAll_cons hA
  obtain ⟨rfl, rfl, rfl⟩ := trodAll_nil r0
  obtain rfl : args = #[v0] := by cases args; simp_all
  obtain ⟨rfl, rfl⟩ := trodVars_none hV
  obtain ⟨a0, rfl, rfl, rfl, w0⟩ := open_int Try.underlying3 (hval 0 3 v0 rfl rfl) h0
  clear hA0 hval0
  simp only [List.append_nil] at hW'
  refine (walk a0 w0 W).mono fun e W' ⟨he, bel⟩ => ?_
  subst he
  exact ⟨_, rfl, _, _, _, [], _, [], hW', trodAll_mk1 (shut_bool Try.underlying4 _), (trodAll_cons_mk (shut_int Try.underlying3 w0) trodAll_mk0), rfl, bel.frame _, fun h => by cases h⟩

theorem over : Rows.relTablesRow.holds Try.pinned (OpenSpec.ofChange Rows.relTablesSpec) :=
  OpenClaim.holds_of_wide 7 Try.f7 rfl rfl rfl rfl rfl rfl rfl ⟨rfl, rfl, rfl, rfl, rfl⟩ rfl rfl rfl rfl rfl (by kernel_rfl) Try.func7 (by kernel_rfl)
    (of_decide_eq_true (by kernel_rfl)) (by unfold Func.isWrapper; first | (rw [if_pos (by decide +kernel)]; kernel_rfl) | (rw [if_neg (by decide +kernel)]; exact ⟨rfl, rfl⟩))
    (fun os started H enc _ => lifted os started H enc)

theorem proved : Rows.RelTablesSaid :=
  over
end Go.Proofs.Ytdjhcdgehmpikaa.relTables

namespace Go.Proofs.Ytdjhcdgehmpikaa
theorem relTables_holds : Rows.RelTablesSaid := relTables.proved
#print axioms relTables_holds
end Go.Proofs.Ytdjhcdgehmpikaa

