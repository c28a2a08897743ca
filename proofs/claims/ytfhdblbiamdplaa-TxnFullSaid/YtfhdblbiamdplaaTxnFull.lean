/-
  Proved: whatever the arguments are, carrierlaw06.TxnFull answers true and leaves its arguments as they were. No condition.
-/
import Derived.Test.YtfhdblbiamdplaaTf
import Derived.ProofKit
import Derived.OpenShut
import Derived.ChangeOld
import Derived.Below
namespace Go.Proofs.Ytfhdblbiamdplaa.txnFull
open Go.ChangeShapes Go.WideShapes Go.ChangeAt Go.RowKit
set_option linter.unusedVariables false

theorem own : ownKnob Try.prog.godebug = none := by kernel_rfl
theorem laidOut : laidOutB Try.prog = true := by kernel_rfl

theorem full_math (d : Nat) (h : d < 6) : stAt [1, 1, 1, 1, 1, 1] ((d : Int) + 1) = 1 ∧ stAt ([1, 1, 1, 1, 1, 1].set d 3) ((d : Int) + 1) = 3 ∧ (opens ([1, 1, 1, 1, 1, 1].set d 3)).length < 6 ∧ stAt (([1, 1, 1, 1, 1, 1].set d 3) ++ [1]) ((d : Int) + 1) = 3 ∧ stAt (([1, 1, 1, 1, 1, 1].set d 3) ++ [1]) 7 = 1 := by
  have : d = 0 ∨ d = 1 ∨ d = 2 ∨ d = 3 ∨ d = 4 ∨ d = 5 := by omega
  rcases this with rfl | rfl | rfl | rfl | rfl | rfl <;> decide

theorem ones_full : (opens (List.replicate 6 1)).length = 6 := by decide

set_option maxHeartbeats 4000000 in
set_option maxRecDepth 100000 in
theorem walk (a0 : Int) (w0 : (Lit.int .u8 a0).wf = true) (W : World) :
    Calls Try.prog 10 #[.int .u8 a0] W fun e w' => e = .returned (.bool true) ∧ Below W.heap.size W w' := by
  have hb8 := bounds_u8 w0
  obtain ⟨hb8a, hb8b⟩ := hb8
  obtain ⟨d, hd6, hd⟩ : ∃ d : Nat, d < 6 ∧ a0 % 6 = (d : Int) := ⟨(a0 % 6).toNat, by omega, by omega⟩
  obtain ⟨m1, m2, m3, m4, m5⟩ := full_math d hd6
  have M1 := Lib.hid m1; have M2 := Lib.hid m2; have M3 := Lib.hid m3; have M4 := Lib.hid m4; have M5 := Lib.hid m5
  have Hd := Lib.hid hd
  clear w0 m1 m2 m3 m4 m5 hd
  go_enter Try.func10, Try.ntmps10
  go_wp2_with fail
  refine (two_any W).mono ?_
  rintro e w1 ⟨rfl, hk⟩
  have K1 := Lib.hid hk; clear hk
  go_wp2_with fail
  refine (mnew_any w1).mono ?_
  rintro e w2 ⟨p, b, v2, rfl, hm, hk⟩
  have G2 := Lib.hid hm; have F2 := Lib.hid (Fm.ofKept hk w1.heap.size mts)
  clear hm hk
  go_wp2
  go_loopw [4] (fun i wr => ∃ (k : Nat) (v : Value), i = .int .i64 k ∧ k ≤ 9 ∧ Mg wr w1.heap.size p b v (List.replicate (min k 6) 1) ∧ Fm w1.heap.size mts w1 wr) (fun i _ => 9 - (intOf i).toNat)
  case atStart => exact ⟨0, v2, rfl, by omega, G2.out, F2.out⟩
  case round =>
    obtain ⟨k, v, rfl, hk9, hm, hf⟩ := hrel
    have M := Lib.hid hm; have Fk := Lib.hid hf
    clear hm hf
    by_cases hlt : k < 9
    · by_cases h6 : k < 6
      · have c1 : Calls Try.prog 41 #[.pointer (some ⟨p, 0, none⟩)] wr fun e w' => ∃ x, e = .returned (.tuple #[.int .i64 x, .int .i64 0]) ∧ ∃ v', Mg w' w1.heap.size p b v' (List.replicate (min (k + 1) 6) 1) ∧ Fm w1.heap.size mts wr w' := by
          have M' := M.out
          rw [Nat.min_eq_left (by omega)] at M' ⊢
          refine (mbegin_ok M' ?_ ?_).mono ?_
          · have := opens_le (List.replicate k 1); simp at this; omega
          · simp; omega
          · rintro e w' ⟨rfl, v', h1, h2⟩
            rw [← List.replicate_succ'] at h1
            exact ⟨_, rfl, v', h1, h2⟩
        go_wp2_with fail
        refine c1.mono ?_
        rintro e w3 ⟨x, rfl, v3, hm, hf⟩
        have M3 := Lib.hid hm; have F3 := Lib.hid (Fk.out.trans hf)
        have h6' : (k : Int) < 6 := by omega
        clear hm hf c1
        go_wp2
        go_roundw
        case rel => exact ⟨k + 1, v3, by go_num, by omega, M3.out, F3.out⟩
        case measure => simp [intOf]; omega
      · have M6 : Hid (Mg wr w1.heap.size p b v (List.replicate 6 1)) := Lib.hid (by have := M.out; rwa [Nat.min_eq_right (by omega)] at this)
        have c1 := mbegin_full M6.out (.inl (by rw [ones_full]; omega))
        have h6' : ¬ (k : Int) < 6 := by omega
        go_wp2_with fail
        refine c1.mono ?_
        rintro e w3 ⟨rfl, rfl⟩
        clear c1
        go_wp2
        go_roundw
        case rel => exact ⟨k + 1, v, by go_num, by omega, by rw [Nat.min_eq_right (by omega)]; exact M6.out, Fk.out⟩
        case measure => simp [intOf]; omega
    · obtain rfl : k = 9 := by omega
      have M6 : Hid (Mg wr w1.heap.size p b v [1, 1, 1, 1, 1, 1]) := M
      clear M
      have e1 : a0 % 6 = (d : Int) := Hd.out
      have e2 : a0.tmod 6 = (d : Int) := by rw [Int.tmod_eq_emod_of_nonneg hb8a]; exact e1
      obtain ⟨x, hx⟩ : ∃ x : Int, x = (d : Int) + 1 := ⟨_, rfl⟩
      have e3 : (1 : Int) + (d : Int) = x := by omega
      have hwx : (Lit.int .i64 x).wf = true := by rw [hx]; exact wf_i64 (by omega)
      have c1 := mabort_ok M6.out x hwx (by rw [hx]; exact M1.out)
      rw [show x.toNat - 1 = d by omega] at c1
      have C1 := Lib.hid c1
      have Wx := Lib.hid hwx; have Hx := Lib.hid hx
      clear hx hwx c1
      go_wp2_with fail
      refine C1.out.mono ?_
      rintro e w3 ⟨rfl, hm, hf⟩
      have M7 := Lib.hid hm; have F7 := Lib.hid (Fk.out.trans hf)
      have c2 := mabort_bad hm x Wx.out (by rw [Hx.out, M2.out]; decide)
      have c3 := mcommit_bad hm x Wx.out (by rw [Hx.out, M2.out]; decide)
      clear hm hf
      go_wp2_with (first
        | (go_at_call 41; fail)
        | (go_at_call 45; refine c2.mono ?_; rintro e w' ⟨rfl, rfl⟩)
        | (go_at_call 43; refine c3.mono ?_; rintro e w' ⟨rfl, rfl⟩))
      have c4 : Calls Try.prog 41 #[.pointer (some ⟨p, 0, none⟩)] w3 fun e w' => e = .returned (.tuple #[.int .i64 7, .int .i64 0]) ∧ ∃ v', Mg w' w1.heap.size p b v' (([1, 1, 1, 1, 1, 1].set d 3) ++ [1]) ∧ Fm w1.heap.size mts w3 w' := by
        have := mbegin_ok M7.out M3.out (by simp)
        rw [List.length_set] at this
        exact this
      refine c4.mono ?_
      rintro e w4 ⟨rfl, v4, hm, hf⟩
      have M8 := Lib.hid hm; have F8 := Lib.hid (F7.out.trans hf)
      have c5 := mstate_any hm x Wx.out
      rw [show stAt (([1, 1, 1, 1, 1, 1].set d 3) ++ [1]) x = 3 by rw [Hx.out]; exact M4.out] at c5
      have c6 := mstate_any hm 7 (by decide)
      rw [M5.out] at c6
      clear hm hf c4 c2 c3
      go_wp2_with fail
      refine c5.mono ?_
      rintro e w5 ⟨rfl, rfl⟩
      go_wp2_with fail
      refine c6.mono ?_
      rintro e w5 ⟨rfl, rfl⟩
      go_wp2
      go_ret
      exact ⟨rfl, (K1.out.trans (F8.out.kept (Nat.le_refl _)) (by simp)).below (Nat.le_refl _) (by simp)⟩

set_option maxRecDepth 100000 in
theorem lifted (os : Os) (started : os.Started) (H : Type) (enc : TypeId × Value → H) :
    ReturnsInHanded {} Try.checked os 10 .any (Rows.txnFullSpec.pre6 enc Try.prog Try.f10 Rows.txnFullRow.domain false) (Rows.txnFullSpec.post enc Try.prog Try.f10 false true false false) := by
  refine returnsInHanded_of_change (C := Try.checked) own started (by kernel_rfl) Try.func10
    (ChangeSpec.witness6 (enc := enc) (C := Try.checked) false ⟨#[], #[.int .u8 0], []⟩ 8 (by kernel_rfl) (by kernel_rfl) (by kernel_rfl) (by kernel_rfl)) ?_
  intro W base args ds gs before hval0 hW hcnd _
  have hval : ∀ (j : Nat) t v, Try.f10.params[j]? = some t → args[j]? = some v → Value.okWide Try.prog W .any base t v := hval0
  have hW' := hW
  obtain ⟨p, q, hA0, hV, rfl, hfz, hnd⟩ := hW
  have hA : DataW.TrodAll enc Try.prog W 0 (fun _ => true) true Try.f10.params.toList args.toList ds p := hA0
  rw [Try.params10] at hA hval
  obtain ⟨v0, vs0, d0, ds0, p0, q0, hargs, rfl, rfl, h0, r0⟩ := trodAll_cons hA
  obtain ⟨rfl, rfl, rfl⟩ := trodAll_nil r0
  obtain rfl : args = #[v0] := by cases args; simp_all
  obtain ⟨rfl, rfl⟩ := trodVars_none hV
  obtain ⟨a0, rfl, rfl, rfl, w0⟩ := open_int Try.underlying5 (hval 0 5 v0 rfl rfl) h0
  clear hA0 hval0
  simp only [List.append_nil] at hW'
  refine (walk a0 w0 W).mono fun e W' ⟨he, bel⟩ => ?_
  subst he
  exact ⟨_, rfl, _, _, _, [], _, [], hW', trodAll_mk1 (shut_bool Try.underlying4 _), (trodAll_cons_mk (shut_int Try.underlying5 w0) trodAll_mk0), rfl, bel.frame _, fun h => by cases h⟩

theorem over : Rows.txnFullRow.holds Try.pinned (OpenSpec.ofChange Rows.txnFullSpec) :=
  OpenClaim.holds_of_wide 10 Try.f10 rfl rfl rfl rfl rfl rfl rfl ⟨rfl, rfl, rfl, rfl, rfl⟩ rfl rfl rfl rfl rfl (by kernel_rfl) Try.func10 (by kernel_rfl)
    (of_decide_eq_true (by kernel_rfl)) (by unfold Func.isWrapper; first | (rw [if_pos (by decide +kernel)]; kernel_rfl) | (rw [if_neg (by decide +kernel)]; exact ⟨rfl, rfl⟩))
    (fun os started H enc _ => lifted os started H enc)

theorem proved : Rows.TxnFullSaid :=
  over
end Go.Proofs.Ytfhdblbiamdplaa.txnFull

namespace Go.Proofs.Ytfhdblbiamdplaa
theorem txnFull_holds : Rows.TxnFullSaid := txnFull.proved
#print axioms txnFull_holds
end Go.Proofs.Ytfhdblbiamdplaa

