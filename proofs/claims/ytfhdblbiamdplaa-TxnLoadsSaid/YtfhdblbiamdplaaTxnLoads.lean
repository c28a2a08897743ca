/-
  Proved: whatever the arguments are, carrierlaw06.TxnLoads answers true and leaves its arguments as they were. No condition.
-/
import Derived.Test.YtfhdblbiamdplaaTj
import Derived.ProofKit
import Derived.OpenShut
import Derived.ChangeOld
import Derived.Below
namespace Go.Proofs.Ytfhdblbiamdplaa.txnLoads
open Go.ChangeShapes Go.WideShapes Go.ChangeAt Go.RowKit
set_option linter.unusedVariables false

theorem own : ownKnob Try.prog.godebug = none := by kernel_rfl
theorem laidOut : laidOutB Try.prog = true := by kernel_rfl

theorem ret_bool' {a b : Bool} (h : a = b) : Ending.returned (.bool a) = .returned (.bool b) := by rw [h]

theorem wf_wrap (x : Int) : (Lit.int .i64 (wrap64 x)).wf = true := wf_i64 (by unfold wrap64; omega)

set_option maxHeartbeats 4000000 in
set_option maxRecDepth 100000 in
theorem walk (a0 : Int) (a1 : Option Addr) (len1 cap1 : Nat) (z1 : List Int) (a2 : Bool) (W : World) (w0 : (Lit.int .i64 a0).wf = true) (w1 : IsRow .i64 W a1 len1 cap1 z1) :
    Calls Try.prog 11 #[.int .i64 a0, .slice a1 len1 cap1, .bool a2] W fun e w' => e = .returned (.bool true) ∧ Below W.heap.size W w' := by
  obtain ⟨l, rfl, hrd⟩ := isRow_rdI w1
  have R := Lib.hid hrd
  have W0 := Lib.hid w0
  clear w1 hrd w0
  by_cases h30 : (30 : Int) < (l.length : Int)
  · skip
    go_enter Try.func11, Try.ntmps11
    go_wp2_with fail
    refine (two_any W).mono ?_
    rintro e w1 ⟨rfl, hk⟩
    have K1 := Lib.hid hk
    have R1 := Lib.hid (R.out.keep hk)
    clear hk
    go_wp2_with fail
    refine (two_any w1).mono ?_
    rintro e w2 ⟨rfl, hk⟩
    have K2 := Lib.hid (K1.out.trans hk (by simp))
    clear hk
    go_wp2
    go_ret
    exact ⟨rfl, K2.out.below (Nat.le_refl _) (by simp)⟩
  cases a2 with
  | true =>
    obtain ⟨N, hN⟩ : ∃ N, a0.tmod 50 = N := ⟨_, rfl⟩
    have hb0 : N < 50 := by rw [← hN]; exact Int.tmod_lt_of_pos a0 (by decide)
    have hb1 : -50 < N := by rw [← hN]; exact Int.lt_tmod_of_pos a0 (by decide)
    have hsmall : ¬ (2000 : Int) < N := by omega
    have WF : Hid ((Lit.int .i64 (N - 1)).wf = true) := Lib.hid (wf_i64 (by omega))
    go_enter Try.func11, Try.ntmps11
    go_wp2_with fail
    refine (two_any W).mono ?_
    rintro e w1 ⟨rfl, hk⟩
    have K1 := Lib.hid hk
    have R1 := Lib.hid (R.out.keep hk)
    clear hk
    go_wp2_with fail
    refine (mnew_any w1).mono ?_
    rintro e w2 ⟨p, b, v2, rfl, hm, hk⟩
    have hka := hk.alloc (.cells #[.slice none 0 0] 72)
    have ha : Kept w2 (w2.alloc (.cells #[.slice none 0 0] 72)) [] := (Kept.refl w2 []).alloc _
    have M2 := Lib.hid (hm.keep ha)
    have F2 := Lib.hid (Fm.ofKept hka w1.heap.size (rts ++ mts))
    have Q2 := Lib.hid (rnew w2 (B := w1.heap.size) hk.size)
    have R2 := Lib.hid (R1.out.keep hka)
    clear hm hk hka ha
    have c1 : Calls Try.prog 41 #[.pointer (some ⟨p, 0, none⟩)] (w2.alloc (.cells #[.slice none 0 0] 72)) fun e w' => e = .returned (.tuple #[.int .i64 1, .int .i64 0]) ∧ ∃ v', Mg w' w1.heap.size p b v' [1] ∧ Fm w1.heap.size mts (w2.alloc (.cells #[.slice none 0 0] 72)) w' := mbegin_ok M2.out (by decide) (by decide)
    go_wp2_with fail
    refine c1.mono ?_
    rintro e w3 ⟨rfl, v3, hm, hf⟩
    have M3 := Lib.hid hm
    have F3 := Lib.hid (F2.out.trans (hf.mono (Nat.le_refl _) (fun _ h => List.mem_append.2 (.inr h))))
    have Q3 := Lib.hid (Q2.out.frame hf (by decide) (by decide))
    clear hm hf c1
    have c2 : Calls Try.prog 42 #[.pointer (some ⟨w2.heap.size, 0, none⟩)] w3 fun e w' => e = .returned (.tuple #[.int .i64 1, .int .i64 0]) ∧ ∃ v', Rm w' w1.heap.size w2.heap.size v' [1] ∧ Fr w1.heap.size rts w3 w' := rbegin_ok Q3.out (by decide) (by decide)
    go_wp2_with fail
    refine c2.mono ?_
    rintro e w4 ⟨rfl, v4, hm, hf⟩
    have Q4 := Lib.hid hm
    have M4 := Lib.hid (M3.out.frame hf (by decide) (by decide))
    have F4 := Lib.hid (F3.out.trans (Fm.ofFr (hf.mono (Nat.le_refl _) (fun _ h => List.mem_append.2 (.inl h)))))
    have R4 := Lib.hid (R1.out.keep (F4.out.kept (Nat.le_refl _)))
    clear hm hf c2
    go_wp2_with fail
    refine (mload_any M4.out N _ l R4.out).mono ?_
    rintro e w5 (⟨hok, rfl, ⟨b5, v5, hm⟩, hf⟩ | ⟨hok, rfl, hm, hk⟩)
    · have M5 := Lib.hid hm
      have F5 := Lib.hid (F4.out.trans (hf.mono (Nat.le_refl _) (fun _ h => List.mem_append.2 (.inr h))))
      have Q5 := Lib.hid (Q4.out.frame hf (by decide) (by decide))
      have R5 := Lib.hid (R1.out.keep (F5.out.kept (Nat.le_refl _)))
      have Hok := Lib.hid hok
      clear hm hf hok
      go_wp2_with fail
      refine (rload_any Q5.out N _ l R5.out).mono ?_
      rintro e w6 (⟨_, rfl, ⟨v6, hm⟩, hf⟩ | ⟨h0, _, _⟩)
      case inr => exact absurd (Hok.out.symm.trans h0) (by decide)
      have Q6 := Lib.hid hm
      have M6 := Lib.hid (M5.out.frame hf (by decide) (by decide))
      have F6 := Lib.hid (F5.out.trans (Fm.ofFr (hf.mono (Nat.le_refl _) (fun _ h => List.mem_append.2 (.inl h)))))
      clear hm hf
      go_wp2_with fail
      refine (mnext_any M6.out).mono ?_
      rintro e w7 ⟨rfl, rfl⟩
      go_wp2_with fail
      refine (rnext_any Q6.out).mono ?_
      rintro e w7 ⟨rfl, rfl⟩
      go_wp2_with fail
      refine (mstate_any M6.out 1 (by decide)).mono ?_
      rintro e w7 ⟨rfl, rfl⟩
      go_wp2_with fail
      refine (rstate_any Q6.out 1).mono ?_
      rintro e w7 ⟨rfl, rfl⟩
      go_wp2_with fail
      refine (mstate_any M6.out _ ?hw).mono ?_
      case hw => exact WF.out
      rintro e w7 ⟨rfl, rfl⟩
      go_wp2_with fail
      refine (rstate_any Q6.out _).mono ?_
      rintro e w7 ⟨rfl, rfl⟩
      go_wp2
      go_ret
      exact ⟨ret_bool' (by simp), (K1.out.trans (F6.out.kept (Nat.le_refl _)) (by simp)).below (Nat.le_refl _) (by simp)⟩
    · have M5 := Lib.hid hm
      have F5 := Lib.hid (F4.out.trans (Fm.ofKept hk w1.heap.size _))
      have Q5 := Lib.hid (Q4.out.keep hk)
      have R5 := Lib.hid (R1.out.keep (F5.out.kept (Nat.le_refl _)))
      have Hok := Lib.hid hok
      clear hm hk hok
      go_wp2_with fail
      refine (rload_any Q5.out N _ l R5.out).mono ?_
      rintro e w6 (⟨h0, _, _⟩ | ⟨_, rfl, rfl⟩)
      case inl => exact absurd (Hok.out.symm.trans h0) (by decide)
      have Q6 := Q5
      have M6 := M5
      have F6 := F5
      go_wp2_with fail
      refine (mnext_any M6.out).mono ?_
      rintro e w7 ⟨rfl, rfl⟩
      go_wp2_with fail
      refine (rnext_any Q6.out).mono ?_
      rintro e w7 ⟨rfl, rfl⟩
      go_wp2_with fail
      refine (mstate_any M6.out 1 (by decide)).mono ?_
      rintro e w7 ⟨rfl, rfl⟩
      go_wp2_with fail
      refine (rstate_any Q6.out 1).mono ?_
      rintro e w7 ⟨rfl, rfl⟩
      go_wp2_with fail
      refine (mstate_any M6.out _ ?hw).mono ?_
      case hw => exact WF.out
      rintro e w7 ⟨rfl, rfl⟩
      go_wp2_with fail
      refine (rstate_any Q6.out _).mono ?_
      rintro e w7 ⟨rfl, rfl⟩
      go_wp2
      go_ret
      exact ⟨ret_bool' (by simp), (K1.out.trans (F6.out.kept (Nat.le_refl _)) (by simp)).below (Nat.le_refl _) (by simp)⟩
  | false =>
    obtain ⟨N, hN⟩ : ∃ N, N = a0 := ⟨_, rfl⟩
    subst hN
    by_cases hA : (2000 : Int) < N ∧ N ≤ 1048576
    · skip
      go_enter Try.func11, Try.ntmps11
      go_wp2_with fail
      refine (two_any W).mono ?_
      rintro e w1 ⟨rfl, hk⟩
      have K1 := Lib.hid hk
      have R1 := Lib.hid (R.out.keep hk)
      clear hk
      go_wp2_with fail
      refine (mnew_any w1).mono ?_
      rintro e w2 ⟨p, b, v2, rfl, hm, hk⟩
      have hka := hk.alloc (.cells #[.slice none 0 0] 72)
      have ha : Kept w2 (w2.alloc (.cells #[.slice none 0 0] 72)) [] := (Kept.refl w2 []).alloc _
      have M2 := Lib.hid (hm.keep ha)
      have F2 := Lib.hid (Fm.ofKept hka w1.heap.size (rts ++ mts))
      have Q2 := Lib.hid (rnew w2 (B := w1.heap.size) hk.size)
      have R2 := Lib.hid (R1.out.keep hka)
      clear hm hk hka ha
      have c1 : Calls Try.prog 41 #[.pointer (some ⟨p, 0, none⟩)] (w2.alloc (.cells #[.slice none 0 0] 72)) fun e w' => e = .returned (.tuple #[.int .i64 1, .int .i64 0]) ∧ ∃ v', Mg w' w1.heap.size p b v' [1] ∧ Fm w1.heap.size mts (w2.alloc (.cells #[.slice none 0 0] 72)) w' := mbegin_ok M2.out (by decide) (by decide)
      go_wp2_with fail
      refine c1.mono ?_
      rintro e w3 ⟨rfl, v3, hm, hf⟩
      have M3 := Lib.hid hm
      have F3 := Lib.hid (F2.out.trans (hf.mono (Nat.le_refl _) (fun _ h => List.mem_append.2 (.inr h))))
      have Q3 := Lib.hid (Q2.out.frame hf (by decide) (by decide))
      clear hm hf c1
      have c2 : Calls Try.prog 42 #[.pointer (some ⟨w2.heap.size, 0, none⟩)] w3 fun e w' => e = .returned (.tuple #[.int .i64 1, .int .i64 0]) ∧ ∃ v', Rm w' w1.heap.size w2.heap.size v' [1] ∧ Fr w1.heap.size rts w3 w' := rbegin_ok Q3.out (by decide) (by decide)
      go_wp2_with fail
      refine c2.mono ?_
      rintro e w4 ⟨rfl, v4, hm, hf⟩
      have Q4 := Lib.hid hm
      have M4 := Lib.hid (M3.out.frame hf (by decide) (by decide))
      have F4 := Lib.hid (F3.out.trans (Fm.ofFr (hf.mono (Nat.le_refl _) (fun _ h => List.mem_append.2 (.inl h)))))
      have R4 := Lib.hid (R1.out.keep (F4.out.kept (Nat.le_refl _)))
      clear hm hf c2
      have g1 : decide ((2000 : Int) < N) = true := by rw [decide_eq_true_eq]; exact hA.1
      have g2 : decide (N ≤ (1048576 : Int)) = true := by rw [decide_eq_true_eq]; exact hA.2
      clear hA
      go_wp2_with fail
      refine (mload_any M4.out 1048576 (.slice none 0 0) [] (RdI.nil _)).mono ?_
      rintro e w5 (⟨_, rfl, ⟨b5, v5, hm⟩, hf⟩ | ⟨h0, _, _⟩)
      case inr => exact absurd h0 (by decide)
      have M5 := Lib.hid hm
      have F5 := Lib.hid (F4.out.trans (hf.mono (Nat.le_refl _) (fun _ h => List.mem_append.2 (.inr h))))
      clear hm hf
      go_wp2_with fail
      refine (mbegin_full M5.out (.inr (by rw [ldS_length]; decide))).mono ?_
      rintro e w6 ⟨rfl, rfl⟩
      have c5 : Calls Try.prog 52 #[.pointer (some ⟨p, 0, none⟩), .int .i64 1] w5 fun e w' => e = .returned (.int .u8 3) ∧ w5 = w' := by
        have h := mstate_any M5.out 1 (by decide)
        rw [stAt_ldS (by decide)] at h
        exact h
      have c6 : Calls Try.prog 49 #[.pointer (some ⟨p, 0, none⟩)] w5 fun e w' => e = .returned (.int .i64 1048576) ∧ w5 = w' := by
        have h := mnext_any M5.out
        rw [ldS_length] at h
        exact h
      go_wp2_with (first
        | (go_at_call 52; refine c5.mono ?_; rintro e w' ⟨rfl, rfl⟩)
        | (go_at_call 49; refine c6.mono ?_; rintro e w' ⟨rfl, rfl⟩))
      go_ret
      exact ⟨rfl, (K1.out.trans (F5.out.kept (Nat.le_refl _)) (by simp)).below (Nat.le_refl _) (by simp)⟩
    by_cases hB : (2000 : Int) < N
    · have g1 : decide ((2000 : Int) < N) = true := by rw [decide_eq_true_eq]; exact hB
      have g2 : decide (N ≤ (1048576 : Int)) = false := by rw [decide_eq_false_iff_not]; omega
      have WF : Hid ((Lit.int .i64 (wrap64 (N - 1))).wf = true) := Lib.hid (wf_wrap _)
      clear hA hB
      go_enter Try.func11, Try.ntmps11
      go_wp2_with fail
      refine (two_any W).mono ?_
      rintro e w1 ⟨rfl, hk⟩
      have K1 := Lib.hid hk
      have R1 := Lib.hid (R.out.keep hk)
      clear hk
      go_wp2_with fail
      refine (mnew_any w1).mono ?_
      rintro e w2 ⟨p, b, v2, rfl, hm, hk⟩
      have hka := hk.alloc (.cells #[.slice none 0 0] 72)
      have ha : Kept w2 (w2.alloc (.cells #[.slice none 0 0] 72)) [] := (Kept.refl w2 []).alloc _
      have M2 := Lib.hid (hm.keep ha)
      have F2 := Lib.hid (Fm.ofKept hka w1.heap.size (rts ++ mts))
      have Q2 := Lib.hid (rnew w2 (B := w1.heap.size) hk.size)
      have R2 := Lib.hid (R1.out.keep hka)
      clear hm hk hka ha
      have c1 : Calls Try.prog 41 #[.pointer (some ⟨p, 0, none⟩)] (w2.alloc (.cells #[.slice none 0 0] 72)) fun e w' => e = .returned (.tuple #[.int .i64 1, .int .i64 0]) ∧ ∃ v', Mg w' w1.heap.size p b v' [1] ∧ Fm w1.heap.size mts (w2.alloc (.cells #[.slice none 0 0] 72)) w' := mbegin_ok M2.out (by decide) (by decide)
      go_wp2_with fail
      refine c1.mono ?_
      rintro e w3 ⟨rfl, v3, hm, hf⟩
      have M3 := Lib.hid hm
      have F3 := Lib.hid (F2.out.trans (hf.mono (Nat.le_refl _) (fun _ h => List.mem_append.2 (.inr h))))
      have Q3 := Lib.hid (Q2.out.frame hf (by decide) (by decide))
      clear hm hf c1
      have c2 : Calls Try.prog 42 #[.pointer (some ⟨w2.heap.size, 0, none⟩)] w3 fun e w' => e = .returned (.tuple #[.int .i64 1, .int .i64 0]) ∧ ∃ v', Rm w' w1.heap.size w2.heap.size v' [1] ∧ Fr w1.heap.size rts w3 w' := rbegin_ok Q3.out (by decide) (by decide)
      go_wp2_with fail
      refine c2.mono ?_
      rintro e w4 ⟨rfl, v4, hm, hf⟩
      have Q4 := Lib.hid hm
      have M4 := Lib.hid (M3.out.frame hf (by decide) (by decide))
      have F4 := Lib.hid (F3.out.trans (Fm.ofFr (hf.mono (Nat.le_refl _) (fun _ h => List.mem_append.2 (.inl h)))))
      have R4 := Lib.hid (R1.out.keep (F4.out.kept (Nat.le_refl _)))
      clear hm hf c2
      go_wp2_with fail
      refine (mload_any M4.out N _ l R4.out).mono ?_
      rintro e w5 (⟨hok, rfl, ⟨b5, v5, hm⟩, hf⟩ | ⟨hok, rfl, hm, hk⟩)
      · have M5 := Lib.hid hm
        have F5 := Lib.hid (F4.out.trans (hf.mono (Nat.le_refl _) (fun _ h => List.mem_append.2 (.inr h))))
        have Q5 := Lib.hid (Q4.out.frame hf (by decide) (by decide))
        have R5 := Lib.hid (R1.out.keep (F5.out.kept (Nat.le_refl _)))
        have Hok := Lib.hid hok
        clear hm hf hok
        go_wp2_with fail
        refine (rload_any Q5.out N _ l R5.out).mono ?_
        rintro e w6 (⟨_, rfl, ⟨v6, hm⟩, hf⟩ | ⟨h0, _, _⟩)
        case inr => exact absurd (Hok.out.symm.trans h0) (by decide)
        have Q6 := Lib.hid hm
        have M6 := Lib.hid (M5.out.frame hf (by decide) (by decide))
        have F6 := Lib.hid (F5.out.trans (Fm.ofFr (hf.mono (Nat.le_refl _) (fun _ h => List.mem_append.2 (.inl h)))))
        clear hm hf
        go_wp2_with fail
        refine (mnext_any M6.out).mono ?_
        rintro e w7 ⟨rfl, rfl⟩
        go_wp2_with fail
        refine (rnext_any Q6.out).mono ?_
        rintro e w7 ⟨rfl, rfl⟩
        go_wp2_with fail
        refine (mstate_any M6.out 1 (by decide)).mono ?_
        rintro e w7 ⟨rfl, rfl⟩
        go_wp2_with fail
        refine (rstate_any Q6.out 1).mono ?_
        rintro e w7 ⟨rfl, rfl⟩
        go_wp2_with fail
        refine (mstate_any M6.out _ ?hw).mono ?_
        case hw => exact WF.out
        rintro e w7 ⟨rfl, rfl⟩
        go_wp2_with fail
        refine (rstate_any Q6.out _).mono ?_
        rintro e w7 ⟨rfl, rfl⟩
        go_wp2
        go_ret
        exact ⟨ret_bool' (by simp), (K1.out.trans (F6.out.kept (Nat.le_refl _)) (by simp)).below (Nat.le_refl _) (by simp)⟩
      · have M5 := Lib.hid hm
        have F5 := Lib.hid (F4.out.trans (Fm.ofKept hk w1.heap.size _))
        have Q5 := Lib.hid (Q4.out.keep hk)
        have R5 := Lib.hid (R1.out.keep (F5.out.kept (Nat.le_refl _)))
        have Hok := Lib.hid hok
        clear hm hk hok
        go_wp2_with fail
        refine (rload_any Q5.out N _ l R5.out).mono ?_
        rintro e w6 (⟨h0, _, _⟩ | ⟨_, rfl, rfl⟩)
        case inl => exact absurd (Hok.out.symm.trans h0) (by decide)
        have Q6 := Q5
        have M6 := M5
        have F6 := F5
        go_wp2_with fail
        refine (mnext_any M6.out).mono ?_
        rintro e w7 ⟨rfl, rfl⟩
        go_wp2_with fail
        refine (rnext_any Q6.out).mono ?_
        rintro e w7 ⟨rfl, rfl⟩
        go_wp2_with fail
        refine (mstate_any M6.out 1 (by decide)).mono ?_
        rintro e w7 ⟨rfl, rfl⟩
        go_wp2_with fail
        refine (rstate_any Q6.out 1).mono ?_
        rintro e w7 ⟨rfl, rfl⟩
        go_wp2_with fail
        refine (mstate_any M6.out _ ?hw).mono ?_
        case hw => exact WF.out
        rintro e w7 ⟨rfl, rfl⟩
        go_wp2_with fail
        refine (rstate_any Q6.out _).mono ?_
        rintro e w7 ⟨rfl, rfl⟩
        go_wp2
        go_ret
        exact ⟨ret_bool' (by simp), (K1.out.trans (F6.out.kept (Nat.le_refl _)) (by simp)).below (Nat.le_refl _) (by simp)⟩
    · have WF : Hid ((Lit.int .i64 (wrap64 (N - 1))).wf = true) := Lib.hid (wf_wrap _)
      clear hA
      go_enter Try.func11, Try.ntmps11
      go_wp2_with fail
      refine (two_any W).mono ?_
      rintro e w1 ⟨rfl, hk⟩
      have K1 := Lib.hid hk
      have R1 := Lib.hid (R.out.keep hk)
      clear hk
      go_wp2_with fail
      refine (mnew_any w1).mono ?_
      rintro e w2 ⟨p, b, v2, rfl, hm, hk⟩
      have hka := hk.alloc (.cells #[.slice none 0 0] 72)
      have ha : Kept w2 (w2.alloc (.cells #[.slice none 0 0] 72)) [] := (Kept.refl w2 []).alloc _
      have M2 := Lib.hid (hm.keep ha)
      have F2 := Lib.hid (Fm.ofKept hka w1.heap.size (rts ++ mts))
      have Q2 := Lib.hid (rnew w2 (B := w1.heap.size) hk.size)
      have R2 := Lib.hid (R1.out.keep hka)
      clear hm hk hka ha
      have c1 : Calls Try.prog 41 #[.pointer (some ⟨p, 0, none⟩)] (w2.alloc (.cells #[.slice none 0 0] 72)) fun e w' => e = .returned (.tuple #[.int .i64 1, .int .i64 0]) ∧ ∃ v', Mg w' w1.heap.size p b v' [1] ∧ Fm w1.heap.size mts (w2.alloc (.cells #[.slice none 0 0] 72)) w' := mbegin_ok M2.out (by decide) (by decide)
      go_wp2_with fail
      refine c1.mono ?_
      rintro e w3 ⟨rfl, v3, hm, hf⟩
      have M3 := Lib.hid hm
      have F3 := Lib.hid (F2.out.trans (hf.mono (Nat.le_refl _) (fun _ h => List.mem_append.2 (.inr h))))
      have Q3 := Lib.hid (Q2.out.frame hf (by decide) (by decide))
      clear hm hf c1
      have c2 : Calls Try.prog 42 #[.pointer (some ⟨w2.heap.size, 0, none⟩)] w3 fun e w' => e = .returned (.tuple #[.int .i64 1, .int .i64 0]) ∧ ∃ v', Rm w' w1.heap.size w2.heap.size v' [1] ∧ Fr w1.heap.size rts w3 w' := rbegin_ok Q3.out (by decide) (by decide)
      go_wp2_with fail
      refine c2.mono ?_
      rintro e w4 ⟨rfl, v4, hm, hf⟩
      have Q4 := Lib.hid hm
      have M4 := Lib.hid (M3.out.frame hf (by decide) (by decide))
      have F4 := Lib.hid (F3.out.trans (Fm.ofFr (hf.mono (Nat.le_refl _) (fun _ h => List.mem_append.2 (.inl h)))))
      have R4 := Lib.hid (R1.out.keep (F4.out.kept (Nat.le_refl _)))
      clear hm hf c2
      go_wp2_with fail
      refine (mload_any M4.out N _ l R4.out).mono ?_
      rintro e w5 (⟨hok, rfl, ⟨b5, v5, hm⟩, hf⟩ | ⟨hok, rfl, hm, hk⟩)
      · have M5 := Lib.hid hm
        have F5 := Lib.hid (F4.out.trans (hf.mono (Nat.le_refl _) (fun _ h => List.mem_append.2 (.inr h))))
        have Q5 := Lib.hid (Q4.out.frame hf (by decide) (by decide))
        have R5 := Lib.hid (R1.out.keep (F5.out.kept (Nat.le_refl _)))
        have Hok := Lib.hid hok
        clear hm hf hok
        go_wp2_with fail
        refine (rload_any Q5.out N _ l R5.out).mono ?_
        rintro e w6 (⟨_, rfl, ⟨v6, hm⟩, hf⟩ | ⟨h0, _, _⟩)
        case inr => exact absurd (Hok.out.symm.trans h0) (by decide)
        have Q6 := Lib.hid hm
        have M6 := Lib.hid (M5.out.frame hf (by decide) (by decide))
        have F6 := Lib.hid (F5.out.trans (Fm.ofFr (hf.mono (Nat.le_refl _) (fun _ h => List.mem_append.2 (.inl h)))))
        clear hm hf
        go_wp2_with fail
        refine (mnext_any M6.out).mono ?_
        rintro e w7 ⟨rfl, rfl⟩
        go_wp2_with fail
        refine (rnext_any Q6.out).mono ?_
        rintro e w7 ⟨rfl, rfl⟩
        go_wp2_with fail
        refine (mstate_any M6.out 1 (by decide)).mono ?_
        rintro e w7 ⟨rfl, rfl⟩
        go_wp2_with fail
        refine (rstate_any Q6.out 1).mono ?_
        rintro e w7 ⟨rfl, rfl⟩
        go_wp2_with fail
        refine (mstate_any M6.out _ ?hw).mono ?_
        case hw => exact WF.out
        rintro e w7 ⟨rfl, rfl⟩
        go_wp2_with fail
        refine (rstate_any Q6.out _).mono ?_
        rintro e w7 ⟨rfl, rfl⟩
        go_wp2
        go_ret
        exact ⟨ret_bool' (by simp), (K1.out.trans (F6.out.kept (Nat.le_refl _)) (by simp)).below (Nat.le_refl _) (by simp)⟩
      · have M5 := Lib.hid hm
        have F5 := Lib.hid (F4.out.trans (Fm.ofKept hk w1.heap.size _))
        have Q5 := Lib.hid (Q4.out.keep hk)
        have R5 := Lib.hid (R1.out.keep (F5.out.kept (Nat.le_refl _)))
        have Hok := Lib.hid hok
        clear hm hk hok
        go_wp2_with fail
        refine (rload_any Q5.out N _ l R5.out).mono ?_
        rintro e w6 (⟨h0, _, _⟩ | ⟨_, rfl, rfl⟩)
        case inl => exact absurd (Hok.out.symm.trans h0) (by decide)
        have Q6 := Q5
        have M6 := M5
        have F6 := F5
        go_wp2_with fail
        refine (mnext_any M6.out).mono ?_
        rintro e w7 ⟨rfl, rfl⟩
        go_wp2_with fail
        refine (rnext_any Q6.out).mono ?_
        rintro e w7 ⟨rfl, rfl⟩
        go_wp2_with fail
        refine (mstate_any M6.out 1 (by decide)).mono ?_
        rintro e w7 ⟨rfl, rfl⟩
        go_wp2_with fail
        refine (rstate_any Q6.out 1).mono ?_
        rintro e w7 ⟨rfl, rfl⟩
        go_wp2_with fail
        refine (mstate_any M6.out _ ?hw).mono ?_
        case hw => exact WF.out
        rintro e w7 ⟨rfl, rfl⟩
        go_wp2_with fail
        refine (rstate_any Q6.out _).mono ?_
        rintro e w7 ⟨rfl, rfl⟩
        go_wp2
        go_ret
        exact ⟨ret_bool' (by simp), (K1.out.trans (F6.out.kept (Nat.le_refl _)) (by simp)).below (Nat.le_refl _) (by simp)⟩

set_option maxRecDepth 100000 in
theorem lifted (os : Os) (started : os.Started) (H : Type) (enc : TypeId × Value → H) :
    ReturnsInHanded {} Try.checked os 11 .any (Rows.txnLoadsSpec.pre6 enc Try.prog Try.f11 Rows.txnLoadsRow.domain false) (Rows.txnLoadsSpec.post enc Try.prog Try.f11 false true false false) := by
  refine returnsInHanded_of_change (C := Try.checked) own started (by kernel_rfl) Try.func11
    (ChangeSpec.witness6 (enc := enc) (C := Try.checked) false ⟨#[], #[.int .i64 0, .slice none 0 0, .bool false], []⟩ 8 (by kernel_rfl) (by kernel_rfl) (by kernel_rfl) (by kernel_rfl)) ?_
  intro W base args ds gs before hval0 hW hcnd _
  have hval : ∀ (j : Nat) t v, Try.f11.params[j]? = some t → args[j]? = some v → Value.okWide Try.prog W .any base t v := hval0
  have hW' := hW
  obtain ⟨p, q, hA0, hV, rfl, hfz, hnd⟩ := hW
  have hA : DataW.TrodAll enc Try.prog W 0 (fun _ => true) true Try.f11.params.toList args.toList ds p := hA0
  rw [Try.params11] at hA hval
  obtain ⟨v0, vs0, d0, ds0, p0, q0, hargs, rfl, rfl, h0, r0⟩ := trodAll_cons hA
  obtain ⟨v1, vs1, d1, ds1, p1, q1, rfl, rfl, rfl, h1, r1⟩ := trodAll_cons r0
  obtain ⟨v2, vs2, d2, ds2, p2, q2, rfl, rfl, rfl, h2, r2⟩ := trodAll_cons r1
  obtain ⟨rfl, rfl, rfl⟩ := trodAll_nil r2
  obtain rfl : args = #[v0, v1, v2] := by cases args; simp_all
  obtain ⟨rfl, rfl⟩ := trodVars_none hV
  obtain ⟨a0, rfl, rfl, rfl, w0⟩ := open_int Try.underlying2 (hval 0 2 v0 rfl rfl) h0
  obtain ⟨a1, len1, cap1, rfl⟩ := okWide_slice Try.underlying73 (hval 1 73 v1 rfl rfl)
  have k1 := h1
  have lt1 : ∀ x ∈ p1, x.block < W.heap.size := by obtain ⟨m, hm⟩ := k1; exact DataW.trod_lt m _ _ _ hm
  obtain ⟨z1, w1⟩ : ∃ zs, IsRow .i64 W a1 len1 cap1 zs := by
    obtain ⟨fuel, hf⟩ := h1
    rcases open_ints Try.underlying73 Try.underlying2 (by kernel_rfl) hf with ⟨hcs, _⟩ | ⟨x, l, c, zs, hcs, _, hl, hm, hz, _, hcell, hwz⟩
    · simp [Value.cells] at hcs
      obtain ⟨rfl, rfl, rfl⟩ := hcs
      exact ⟨[], .inl ⟨rfl, rfl, rfl, rfl⟩⟩
    · simp [Value.cells] at hcs
      obtain ⟨rfl, rfl, rfl⟩ := hcs
      exact ⟨zs, .inr ⟨_, rfl, hl, hm, by simpa using hz, hcell, hwz⟩⟩
  obtain ⟨a2, rfl, rfl, rfl⟩ := open_bool Try.underlying4 (hval 2 4 v2 rfl rfl) h2
  clear hA0 hval0
  refine (walk a0 a1 len1 cap1 z1 a2 W w0 w1).mono fun e W' ⟨he, bel⟩ => ?_
  subst he
  exact ⟨_, rfl, _, _, _, [], _, [], hW', trodAll_mk1 (shut_bool Try.underlying4 _), (trodAll_cons_mk (shut_int Try.underlying2 w0) (trodAll_cons_mk (Below.trod laidOut (by kernel_rfl) (of_decide_eq_true (by kernel_rfl)) k1 bel lt1) (trodAll_cons_mk (shut_bool Try.underlying4 a2) trodAll_mk0))), rfl, bel.frame _, fun h => by cases h⟩

theorem over : Rows.txnLoadsRow.holds Try.pinned (OpenSpec.ofChange Rows.txnLoadsSpec) :=
  OpenClaim.holds_of_wide 11 Try.f11 rfl rfl rfl rfl rfl rfl rfl ⟨rfl, rfl, rfl, rfl, rfl⟩ rfl rfl rfl rfl rfl (by kernel_rfl) Try.func11 (by kernel_rfl)
    (of_decide_eq_true (by kernel_rfl)) (by unfold Func.isWrapper; first | (rw [if_pos (by decide +kernel)]; kernel_rfl) | (rw [if_neg (by decide +kernel)]; exact ⟨rfl, rfl⟩))
    (fun os started H enc _ => lifted os started H enc)

theorem proved : Rows.TxnLoadsSaid :=
  over
end Go.Proofs.Ytfhdblbiamdplaa.txnLoads

namespace Go.Proofs.Ytfhdblbiamdplaa
theorem txnLoads_holds : Rows.TxnLoadsSaid := txnLoads.proved
#print axioms txnLoads_holds
end Go.Proofs.Ytfhdblbiamdplaa

