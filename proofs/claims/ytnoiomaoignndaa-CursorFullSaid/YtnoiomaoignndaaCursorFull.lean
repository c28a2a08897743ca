/-
  Proved: whatever the arguments are, carrierlaw13.CursorFull answers true and leaves its arguments as they were. No condition.
-/
import Derived.Test.YtnoiomaoignndaaCuh
import Derived.Test.YtnoiomaoignndaaRows
import Derived.Test.YtnoiomaoignndaaChecked
import Derived.ProofKit
import Derived.OpenShut
import Derived.ChangeOld
import Derived.Below
namespace Go.Proofs.Ytnoiomaoignndaa.cursorFull
open Go.ChangeShapes Go.WideShapes Go.ChangeAt Go.RowKit
set_option linter.unusedVariables false

theorem own : ownKnob Try.prog.godebug = none := by kernel_rfl
theorem laidOut : laidOutB Try.prog = true := by kernel_rfl

set_option maxHeartbeats 4000000 in
set_option maxRecDepth 100000 in
theorem walk (a0 : Int) (w0 : (Lit.int .u8 a0).wf = true) (W : World) :
    Calls Try.prog 4 #[.int .u8 a0] W fun e w' => e = .returned (.bool true) ∧ Below W.heap.size W w' := by
  have B0 := bounds_u8 w0
  obtain ⟨q, hq⟩ : ∃ q : Nat, a0 = q := ⟨a0.toNat, by omega⟩
  subst hq
  clear w0
  go_enter Try.func4, Try.ntmps4
  go_wp2_with fail
  refine (done_any W).mono ?_
  rintro e w1 ⟨rfl, k1⟩
  have K1 := Lib.hid k1; clear k1
  go_wp2_with fail
  refine (cq_new K1.out).mono ?_
  rintro e w2 ⟨h, rfl, c2⟩
  have C2 := Lib.hid c2; clear c2
  go_wp2
  go_loopw [4, 5] (fun s4 _ wr => ∃ i : Nat, s4 = .int .i64 i ∧ i ≤ 6 ∧ Hid (Cq W wr h (fullL i))) (fun s4 _ _ => 6 - (intOf s4).toNat)
  case atStart => exact ⟨0, rfl, by omega, C2⟩
  case round =>
    obtain ⟨i, rfl, hi, CI⟩ := hrel
    by_cases hlt : i < 6
    · have x1 : (i : Int) < 6 := by omega
      have x2 : (i : Int) % 256 = (i : Int) := by omega
      have x3 : (97 + (i : Int)) % 256 = 97 + (i : Int) := by omega
      have sc := str1 (x := 97 + (i : Int)) (by omega) (by omega) wr _ rfl
      obtain ⟨f1, f2⟩ := full_step hlt
      have CR := Lib.hid (cq_reg (CI.out.keep ((Kept.refl wr []).alloc (.cells #[.int .u8 (97 + (i : Int))] 5))) (nAt i) 1)
      rw [f1, f2] at CR
      clear f1 f2
      go_wp2_with fail
      refine CR.out.mono ?_
      rintro e w3 ⟨rfl, c3⟩
      have C3 := Lib.hid c3; clear c3
      clear sc
      by_cases h4 : i < 4
      · have x4 : (i : Int) < 4 := by omega
        rw [if_pos h4]
        go_wp2
        go_roundw
        case rel => exact ⟨i + 1, by go_num, by omega, C3⟩
        case measure => simp [intOf]; omega
      · have x4 : ¬ (i : Int) < 4 := by omega
        rw [if_neg h4]
        go_wp2
        go_roundw
        case rel => exact ⟨i + 1, by go_num, by omega, C3⟩
        case measure => simp [intOf]; omega
    · have x1 : ¬ (i : Int) < 6 := by omega
      obtain rfl : i = 6 := by omega
      obtain ⟨k, hk⟩ : ∃ k : Nat, k = q % 4 := ⟨_, rfl⟩
      have hk4 : k < 4 := by omega
      have xk : (q : Int) % 4 = (k : Int) := by omega
      have xm : (q : Int).tmod 4 = (k : Int) := by rw [Int.tmod_eq_emod_of_nonneg (by omega)]; exact xk
      have x3 : (97 + (k : Int)) % 256 = 97 + (k : Int) := by omega
      have sc := str1 (x := 97 + (k : Int)) (by omega) (by omega) wr _ rfl
      obtain ⟨f1, f2, f3, f4, f5, f6, f7⟩ := full_end hk4
      have CR := Lib.hid (cq_reg (CI.out.keep ((Kept.refl wr []).alloc (.cells #[.int .u8 (97 + (k : Int))] 5))) (nAt k) 1)
      rw [f1, f2] at CR
      have F3 := Lib.hid f3; have F4 := Lib.hid f4; have F5 := Lib.hid f5; have F6 := Lib.hid f6; have F7 := Lib.hid f7
      clear f1 f2 f3 f4 f5 f6 f7 hk x1 hi
      go_wp2_with fail
      refine CR.out.mono ?_
      rintro e w3 ⟨rfl, c3⟩
      have C3 := Lib.hid c3; clear c3 sc
      go_wp2_with fail
      refine (cq_unr C3.out (nAt k)).mono ?_
      rintro e w4 ⟨rfl, c4⟩
      rw [F3.out]
      have C4 := Lib.hid c4; clear c4
      go_wp2_with fail
      refine (cq_unr C4.out (nAt k)).mono ?_
      rintro e w5 ⟨rfl, c5⟩
      rw [F4.out]
      rw [F5.out] at c5
      have C5 := Lib.hid c5; clear c5
      go_wp2_with fail
      refine (cq_reg C5.out (nAt 25) 1).mono ?_
      rintro e w6 ⟨rfl, c6⟩
      rw [F6.out]
      have C6 := Lib.hid c6; clear c6
      go_wp2_with fail
      refine (cq_all C6.out).mono ?_
      rintro e w7 ⟨v7, rfl, o7, k7⟩
      obtain ⟨u7, c7, e7⟩ := o7.shape
      rw [F7.out] at e7
      subst e7
      have C7 := Lib.hid (C6.out.keep k7)
      clear o7 k7
      go_wp2
      go_ret
      exact ⟨rfl, C7.out.below⟩

set_option maxRecDepth 100000 in
theorem lifted (os : Os) (started : os.Started) (H : Type) (enc : TypeId × Value → H) :
    ReturnsInHanded {} Try.checked os 4 .any (Rows.cursorFullSpec.pre6 enc Try.prog Try.f4 Rows.cursorFullRow.domain false) (Rows.cursorFullSpec.post enc Try.prog Try.f4 false true false false) := by
  refine returnsInHanded_of_change (C := Try.checked) own started (by kernel_rfl) Try.func4
    (ChangeSpec.witness6 (enc := enc) (C := Try.checked) false ⟨#[], #[.int .u8 0], []⟩ 8 (by kernel_rfl) (by kernel_rfl) (by kernel_rfl) (by kernel_rfl)) ?_
  intro W base args ds gs before hval0 hW hcnd _
  have hval : ∀ (j : Nat) t v, Try.f4.params[j]? = some t → args[j]? = some v → Value.okWide Try.prog W .any base t v := hval0
  have hW' := hW
  obtain ⟨p, q, hA0, hV, rfl, hfz, hnd⟩ := hW
  have hA : DataW.TrodAll enc Try.prog W 0 (fun _ => true) true Try.f4.params.toList args.toList ds p := hA0
  rw [Try.params4] at hA hval
  obtain ⟨v0, vs0, d0, ds0, p0, q0, hargs, rfl, rfl, h0, r0⟩ := trodAll_cons hA
  obtain ⟨rfl, rfl, rfl⟩ := trodAll_nil r0
  obtain rfl : args = #[v0] := by cases args; simp_all
  obtain ⟨rfl, rfl⟩ := trodVars_none hV
  obtain ⟨a0, rfl, rfl, rfl, w0⟩ := open_int Try.underlying5 (hval 0 5 v0 rfl rfl) h0
  clear hA0 hval0
  simp only [List.append_nil] at hW'
  refine (walk a0 w0 W).mono fun e W' ⟨he, bel⟩ => ?_
  subst he
  exact ⟨_, rfl, _, _, _, [], _, [], hW', trodAll_mk1 (shut_bool Try.underlying4 _), (trodAll_cons_mk (shut_int Try.underlying5 w0) trodAll_mk0), rfl, bel.frame _, fun h => by cases h⟩

theorem over : Rows.cursorFullRow.holds Try.pinned (OpenSpec.ofChange Rows.cursorFullSpec) :=
  OpenClaim.holds_of_wide 4 Try.f4 rfl rfl rfl rfl rfl rfl rfl ⟨rfl, rfl, rfl, rfl, rfl⟩ rfl rfl rfl rfl rfl (by kernel_rfl) Try.func4 (by kernel_rfl)
    (of_decide_eq_true (by kernel_rfl)) (by unfold Func.isWrapper; first | (rw [if_pos (by decide +kernel)]; kernel_rfl) | (rw [if_neg (by decide +kernel)]; exact ⟨rfl, rfl⟩))
    (fun os started H enc _ => lifted os started H enc)

theorem proved : Rows.CursorFullSaid :=
  over
end Go.Proofs.Ytnoiomaoignndaa.cursorFull

namespace Go.Proofs.Ytnoiomaoignndaa
theorem cursorFull_holds : Rows.CursorFullSaid := cursorFull.proved
#print axioms cursorFull_holds
end Go.Proofs.Ytnoiomaoignndaa

