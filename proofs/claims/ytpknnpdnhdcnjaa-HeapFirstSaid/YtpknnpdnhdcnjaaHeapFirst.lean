/-
  Proved: whatever the arguments are, carrierlaw07.HeapFirst answers true and leaves its arguments as they were. No condition.
-/
import Derived.Test.YtpknnpdnhdcnjaaHq
import Derived.ProofKit
import Derived.OpenShut
import Derived.ChangeOld
import Derived.Below
namespace Go.Proofs.Ytpknnpdnhdcnjaa.heapFirst
open Go.ChangeShapes Go.WideShapes Go.ChangeAt Go.RowKit
set_option linter.unusedVariables false

theorem own : ownKnob Try.prog.godebug = none := by kernel_rfl
theorem laidOut : laidOutB Try.prog = true := by kernel_rfl

set_option maxHeartbeats 4000000 in
set_option maxRecDepth 100000 in
theorem way000 (a0 a1 a2 a3 : Int) (w0 : (Lit.int .i64 a0).wf = true) (e1 : a1 % 2 = 0) (e1' : a1.tmod 2 = 0) (e2 : a2 % 3 = 0) (e2' : a2.tmod 3 = 0) (e3 : a3 % 3 = 0) (e3' : a3.tmod 3 = 0) (W : World) :
    Calls Try.prog 4 #[.int .i64 a0, .int .u8 a1, .int .u8 a2, .int .u8 a3] W fun e w' => e = .returned (.bool true) ∧ Below W.heap.size W w' := by
  have W0 := Lib.hid w0
  clear w0
  go_enter Try.func4, Try.ntmps4
  go_wp2_with fail
  refine (clash_any W).mono ?_
  rintro e w1 ⟨rfl, hk⟩
  have K1 := Lib.hid hk; clear hk
  go_wp2_with fail
  refine (mnew_any w1).mono ?_
  rintro e w2 ⟨p, b, v1, rfl, hm, hk⟩
  have M2 := Lib.hid hm; have K2 := Lib.hid hk
  clear hm hk
  go_wp2_with fail
  refine (hnew_sd M2.out).mono ?_
  rintro e w3 ⟨h, O3, rfl, s, hk, _⟩
  have S3 := Lib.hid s; have L3 := Lib.hid (show Below w1.heap.size w1 w3 from (K2.out.trans hk (by simp)).below (Nat.le_refl _) (by simp))
  clear s hk
  have c : Calls Try.prog 12 #[.pointer (some ⟨p, 0, none⟩)] w3 fun e w' => e = .returned (.tuple #[.int .i64 1, .int .i64 0]) ∧ ∃ O', Sd w' w1.heap.size p h O' [1] [] (fun _ => []) ∧ Stp O3 O' w3 w' := begin_sd S3.out (by decide) (by decide)
  go_wp2_with fail
  refine c.mono ?_
  rintro e w4 ⟨rfl, O4, s, f⟩
  have S4 := Lib.hid s; have L4 := Lib.hid (L3.out.trans (S3.out.below f.1))
  clear s f c
  have c : Calls Try.prog 13 #[.pointer (some ⟨p, 0, none⟩)] w4 fun e w' => ∃ u c, e = .returned (.agg #[.int .i64 2, .slice u 1 c]) ∧ Vo w' (.slice u 1 c) [1] ∧ Kept w4 w' [] := now_sd S4.out
  go_wp2_with fail
  refine c.mono ?_
  rintro e w5 ⟨u5, d5, rfl, vo, hk⟩
  have S5 := Lib.hid (S4.out.keep hk); have L5 := Lib.hid (L4.out.trans (hk.below (B := w1.heap.size) S4.out.size (by simp))); have V5 := Lib.hid vo
  obtain ⟨O5, hO⟩ : ∃ O5, O5 = O4 := ⟨_, rfl⟩
  rw [← hO] at S5
  clear vo hk c hO
  have c : Calls Try.prog 14 #[.pointer (some ⟨h, 0, none⟩), .agg #[.int .i64 2, .slice u5 1 d5, .int .i64 1], .agg #[.int .i64 a0, .string ⟨#[97]⟩]] w5 fun e w' => e = .returned (.int .i64 0) ∧ ∃ O', Sd w' w1.heap.size p h O' [1] [a0] (one a0 [⟨⟨#[97]⟩, 1, 0⟩]) ∧ Stp O5 O' w5 w' := insert_one S5.out 2 1 u5 1 d5 [1] V5.out (by decide) a0 _ W0.out (by decide)
  go_wp2_with fail
  refine c.mono ?_
  rintro e w6 ⟨rfl, O6, s, f⟩
  have S6 := Lib.hid s; have L6 := Lib.hid (L5.out.trans (S5.out.below f.1))
  clear s f c
  have c : Calls Try.prog 15 #[.pointer (some ⟨p, 0, none⟩), .int .i64 1] w6 fun e w' => e = .returned (.int .i64 0) ∧ Sd w' w1.heap.size p h O6 [2] [a0] (one a0 [⟨⟨#[97]⟩, 1, 0⟩]) ∧ Stp O6 O6 w6 w' := commit_sd S6.out 1 (by decide) (by decide)
  go_wp2_with fail
  refine c.mono ?_
  rintro e w7 ⟨rfl, s, f⟩
  obtain ⟨O7, hO⟩ : ∃ O7, O7 = O6 := ⟨_, rfl⟩
  rw [← hO] at s
  have S7 := Lib.hid s; have L7 := Lib.hid (L6.out.trans (S6.out.below f.1))
  clear s f c hO
  have c : Calls Try.prog 12 #[.pointer (some ⟨p, 0, none⟩)] w7 fun e w' => e = .returned (.tuple #[.int .i64 2, .int .i64 0]) ∧ ∃ O', Sd w' w1.heap.size p h O' [2, 1] [a0] (one a0 [⟨⟨#[97]⟩, 1, 0⟩]) ∧ Stp O7 O' w7 w' := begin_sd S7.out (by decide) (by decide)
  go_wp2_with fail
  refine c.mono ?_
  rintro e w8 ⟨rfl, O8, s, f⟩
  have S8 := Lib.hid s; have L8 := Lib.hid (L7.out.trans (S7.out.below f.1))
  clear s f c
  have c : Calls Try.prog 13 #[.pointer (some ⟨p, 0, none⟩)] w8 fun e w' => ∃ u c, e = .returned (.agg #[.int .i64 3, .slice u 1 c]) ∧ Vo w' (.slice u 1 c) [2] ∧ Kept w8 w' [] := now_sd S8.out
  go_wp2_with fail
  refine c.mono ?_
  rintro e x9 ⟨u9, d9, rfl, vo, hk⟩
  obtain ⟨w9, hW⟩ : ∃ w9, w9 = x9.alloc (.cells #[.int .i64 3, .slice u9 1 d9, .int .i64 2] 37) := ⟨_, rfl⟩
  obtain ⟨g1, hg⟩ : ∃ g1, g1 = x9.heap.size := ⟨_, rfl⟩
  have V9 : Hid (Bv w9 g1 3 2 (.slice u9 1 d9) [2]) := Lib.hid (by rw [hW, hg]; exact Bv.make vo)
  have k : Kept w8 w9 [] := by rw [hW]; exact hk.alloc _
  have S9 := Lib.hid (S8.out.keep k); have L9 := Lib.hid (L8.out.trans (k.below (B := w1.heap.size) S8.out.size (by simp)))
  obtain ⟨O9, hO⟩ : ∃ O9, O9 = O8 := ⟨_, rfl⟩
  rw [← hO] at S9
  clear vo hk k c hO
  have c : Calls Try.prog 12 #[.pointer (some ⟨p, 0, none⟩)] w9 fun e w' => e = .returned (.tuple #[.int .i64 3, .int .i64 0]) ∧ ∃ O', Sd w' w1.heap.size p h O' [2, 1, 1] [a0] (one a0 [⟨⟨#[97]⟩, 1, 0⟩]) ∧ Stp O9 O' w9 w' := begin_sd S9.out (by decide) (by decide)
  go_wp2_with fail
  rw [← hW, ← hg]
  clear hW hg
  refine c.mono ?_
  rintro e w10 ⟨rfl, O10, s, f⟩
  have S10 := Lib.hid s; have L10 := Lib.hid (L9.out.trans (S9.out.below f.1)); have V10 := Lib.hid (V9.out.fo S9.out f.1)
  clear s f c
  have c : Calls Try.prog 13 #[.pointer (some ⟨p, 0, none⟩)] w10 fun e w' => ∃ u c, e = .returned (.agg #[.int .i64 4, .slice u 2 c]) ∧ Vo w' (.slice u 2 c) [2, 3] ∧ Kept w10 w' [] := now_sd S10.out
  go_wp2_with fail
  refine c.mono ?_
  rintro e x11 ⟨u11, d11, rfl, vo, hk⟩
  obtain ⟨w11, hW⟩ : ∃ w11, w11 = x11.alloc (.cells #[.int .i64 4, .slice u11 2 d11, .int .i64 3] 37) := ⟨_, rfl⟩
  obtain ⟨g2, hg⟩ : ∃ g2, g2 = x11.heap.size := ⟨_, rfl⟩
  have U11 : Hid (Bv w11 g2 4 3 (.slice u11 2 d11) [2, 3]) := Lib.hid (by rw [hW, hg]; exact Bv.make vo)
  have k : Kept w10 w11 [] := by rw [hW]; exact hk.alloc _
  have S11 := Lib.hid (S10.out.keep k); have L11 := Lib.hid (L10.out.trans (k.below (B := w1.heap.size) S10.out.size (by simp)))
  have V11 := Lib.hid (V10.out.keep k)
  obtain ⟨O11, hO⟩ : ∃ O11, O11 = O10 := ⟨_, rfl⟩
  rw [← hO] at S11
  clear vo hk k c hO
  have y0 : (x11.alloc (.cells #[.int .i64 4, .slice u11 2 d11, .int .i64 3] 37)).cell? ⟨g1, 0, none⟩ = some (.int .i64 3) := by rw [← hW]; exact V11.out.cells.1
  have y1 : (x11.alloc (.cells #[.int .i64 4, .slice u11 2 d11, .int .i64 3] 37)).cell? ⟨g1, 1, none⟩ = some (.slice u9 1 d9) := by rw [← hW]; exact V11.out.cells.2.1
  have y2 : (x11.alloc (.cells #[.int .i64 4, .slice u11 2 d11, .int .i64 3] 37)).cell? ⟨g1, 2, none⟩ = some (.int .i64 2) := by rw [← hW]; exact V11.out.cells.2.2
  have c : Calls Try.prog 17 #[.pointer (some ⟨h, 0, none⟩), .agg #[.int .i64 3, .slice u9 1 d9, .int .i64 2], .agg #[.int .i64 a0, .string ⟨#[98]⟩]] w11 fun e w' => e = .returned (.int .i64 0) ∧ ∃ O', Sd w' w1.heap.size p h O' [2, 1, 1] [a0] (one a0 [⟨⟨#[97]⟩, 1, 2⟩, ⟨⟨#[98]⟩, 2, 0⟩]) ∧ Stp O11 O' w11 w' := update_one S11.out 3 2 u9 1 d9 [2] V11.out.2 (by decide) _ W0.out (by decide)
  go_wp2_with fail
  rw [← hW, ← hg]
  clear hW hg y0 y1 y2
  refine c.mono ?_
  rintro e w12 ⟨rfl, O12, s, f⟩
  have S12 := Lib.hid s; have L12 := Lib.hid (L11.out.trans (S11.out.below f.1)); have U12 := Lib.hid (U11.out.fo S11.out f.1)
  clear s f c
  have c : Calls Try.prog 15 #[.pointer (some ⟨p, 0, none⟩), .int .i64 2] w12 fun e w' => e = .returned (.int .i64 0) ∧ Sd w' w1.heap.size p h O12 [2, 2, 1] [a0] (one a0 [⟨⟨#[97]⟩, 1, 2⟩, ⟨⟨#[98]⟩, 2, 0⟩]) ∧ Stp O12 O12 w12 w' := commit_sd S12.out 2 (by decide) (by decide)
  go_wp2_with fail
  refine c.mono ?_
  rintro e w13 ⟨rfl, s, f⟩
  obtain ⟨O13, hO⟩ : ∃ O13, O13 = O12 := ⟨_, rfl⟩
  rw [← hO] at s
  have S13 := Lib.hid s; have L13 := Lib.hid (L12.out.trans (S12.out.below f.1))
  have U13 := Lib.hid (U12.out.fo S12.out f.1)
  clear s f c hO
  obtain ⟨z0, z1, z2⟩ := U13.out.cells
  have c : Calls Try.prog 17 #[.pointer (some ⟨h, 0, none⟩), .agg #[.int .i64 4, .slice u11 2 d11, .int .i64 3], .agg #[.int .i64 a0, .string ⟨#[99]⟩]] w13 fun e w' => e = .returned (.int .i64 6) ∧ ∃ O', Sd w' w1.heap.size p h O' [2, 2, 1] [a0] (one a0 [⟨⟨#[97]⟩, 1, 2⟩, ⟨⟨#[98]⟩, 2, 0⟩]) ∧ Stp O13 O' w13 w' := update_one S13.out 4 3 u11 2 d11 [2, 3] U13.out.2 (by decide) _ W0.out (by decide)
  go_wp2_with fail
  refine c.mono ?_
  rintro e w14 ⟨rfl, O14, s, f⟩
  have F14 : Hid (one a0 [⟨⟨#[97]⟩, 1, 2⟩, ⟨⟨#[98]⟩, 2, 0⟩] = one a0 [⟨⟨#[97]⟩, 1, 2⟩, ⟨⟨#[98]⟩, 2, 0⟩]) := Lib.hid rfl
  have S14 := Lib.hid s; have L14 := Lib.hid (L13.out.trans (S13.out.below f.1)); have U14 := Lib.hid (U13.out.fo S13.out f.1)
  clear s f c z0 z1 z2
  obtain ⟨z0, z1, z2⟩ := U14.out.cells
  have c := get_sd S14.out 4 3 u11 2 d11 [2, 3] U14.out.2 a0 W0.out
  rw [one_same] at c
  have c' : Calls Try.prog 22 #[.pointer (some ⟨h, 0, none⟩), .agg #[.int .i64 4, .slice u11 2 d11, .int .i64 3], .int .i64 a0] w14 fun e w' => e = .returned (.tuple #[.agg #[.int .i64 a0, .string ⟨#[97]⟩], .bool true]) ∧ Kept w14 w' [] := c
  clear c
  go_wp2_with fail
  refine c'.mono ?_
  rintro e w15 ⟨rfl, hk⟩
  have L15 := Lib.hid (L14.out.trans (hk.below (B := w1.heap.size) S14.out.size (by simp)))
  clear hk c' z0 z1 z2
  go_wp2
  go_ret
  exact ⟨rfl, (K1.out.below (Nat.le_refl _) (by simp)).trans ((L15.out.alloc L15.out.size _).mono K1.out.size)⟩

set_option maxHeartbeats 4000000 in
set_option maxRecDepth 100000 in
theorem way001 (a0 a1 a2 a3 : Int) (w0 : (Lit.int .i64 a0).wf = true) (e1 : a1 % 2 = 0) (e1' : a1.tmod 2 = 0) (e2 : a2 % 3 = 0) (e2' : a2.tmod 3 = 0) (e3 : a3 % 3 = 1) (e3' : a3.tmod 3 = 1) (W : World) :
    Calls Try.prog 4 #[.int .i64 a0, .int .u8 a1, .int .u8 a2, .int .u8 a3] W fun e w' => e = .returned (.bool true) ∧ Below W.heap.size W w' := by
  have W0 := Lib.hid w0
  clear w0
  go_enter Try.func4, Try.ntmps4
  go_wp2_with fail
  refine (clash_any W).mono ?_
  rintro e w1 ⟨rfl, hk⟩
  have K1 := Lib.hid hk; clear hk
  go_wp2_with fail
  refine (mnew_any w1).mono ?_
  rintro e w2 ⟨p, b, v1, rfl, hm, hk⟩
  have M2 := Lib.hid hm; have K2 := Lib.hid hk
  clear hm hk
  go_wp2_with fail
  refine (hnew_sd M2.out).mono ?_
  rintro e w3 ⟨h, O3, rfl, s, hk, _⟩
  have S3 := Lib.hid s; have L3 := Lib.hid (show Below w1.heap.size w1 w3 from (K2.out.trans hk (by simp)).below (Nat.le_refl _) (by simp))
  clear s hk
  have c : Calls Try.prog 12 #[.pointer (some ⟨p, 0, none⟩)] w3 fun e w' => e = .returned (.tuple #[.int .i64 1, .int .i64 0]) ∧ ∃ O', Sd w' w1.heap.size p h O' [1] [] (fun _ => []) ∧ Stp O3 O' w3 w' := begin_sd S3.out (by decide) (by decide)
  go_wp2_with fail
  refine c.mono ?_
  rintro e w4 ⟨rfl, O4, s, f⟩
  have S4 := Lib.hid s; have L4 := Lib.hid (L3.out.trans (S3.out.below f.1))
  clear s f c
  have c : Calls Try.prog 13 #[.pointer (some ⟨p, 0, none⟩)] w4 fun e w' => ∃ u c, e = .returned (.agg #[.int .i64 2, .slice u 1 c]) ∧ Vo w' (.slice u 1 c) [1] ∧ Kept w4 w' [] := now_sd S4.out
  go_wp2_with fail
  refine c.mono ?_
  rintro e w5 ⟨u5, d5, rfl, vo, hk⟩
  have S5 := Lib.hid (S4.out.keep hk); have L5 := Lib.hid (L4.out.trans (hk.below (B := w1.heap.size) S4.out.size (by simp))); have V5 := Lib.hid vo
  obtain ⟨O5, hO⟩ : ∃ O5, O5 = O4 := ⟨_, rfl⟩
  rw [← hO] at S5
  clear vo hk c hO
  have c : Calls Try.prog 14 #[.pointer (some ⟨h, 0, none⟩), .agg #[.int .i64 2, .slice u5 1 d5, .int .i64 1], .agg #[.int .i64 a0, .string ⟨#[97]⟩]] w5 fun e w' => e = .returned (.int .i64 0) ∧ ∃ O', Sd w' w1.heap.size p h O' [1] [a0] (one a0 [⟨⟨#[97]⟩, 1, 0⟩]) ∧ Stp O5 O' w5 w' := insert_one S5.out 2 1 u5 1 d5 [1] V5.out (by decide) a0 _ W0.out (by decide)
  go_wp2_with fail
  refine c.mono ?_
  rintro e w6 ⟨rfl, O6, s, f⟩
  have S6 := Lib.hid s; have L6 := Lib.hid (L5.out.trans (S5.out.below f.1))
  clear s f c
  have c : Calls Try.prog 15 #[.pointer (some ⟨p, 0, none⟩), .int .i64 1] w6 fun e w' => e = .returned (.int .i64 0) ∧ Sd w' w1.heap.size p h O6 [2] [a0] (one a0 [⟨⟨#[97]⟩, 1, 0⟩]) ∧ Stp O6 O6 w6 w' := commit_sd S6.out 1 (by decide) (by decide)
  go_wp2_with fail
  refine c.mono ?_
  rintro e w7 ⟨rfl, s, f⟩
  obtain ⟨O7, hO⟩ : ∃ O7, O7 = O6 := ⟨_, rfl⟩
  rw [← hO] at s
  have S7 := Lib.hid s; have L7 := Lib.hid (L6.out.trans (S6.out.below f.1))
  clear s f c hO
  have c : Calls Try.prog 12 #[.pointer (some ⟨p, 0, none⟩)] w7 fun e w' => e = .returned (.tuple #[.int .i64 2, .int .i64 0]) ∧ ∃ O', Sd w' w1.heap.size p h O' [2, 1] [a0] (one a0 [⟨⟨#[97]⟩, 1, 0⟩]) ∧ Stp O7 O' w7 w' := begin_sd S7.out (by decide) (by decide)
  go_wp2_with fail
  refine c.mono ?_
  rintro e w8 ⟨rfl, O8, s, f⟩
  have S8 := Lib.hid s; have L8 := Lib.hid (L7.out.trans (S7.out.below f.1))
  clear s f c
  have c : Calls Try.prog 13 #[.pointer (some ⟨p, 0, none⟩)] w8 fun e w' => ∃ u c, e = .returned (.agg #[.int .i64 3, .slice u 1 c]) ∧ Vo w' (.slice u 1 c) [2] ∧ Kept w8 w' [] := now_sd S8.out
  go_wp2_with fail
  refine c.mono ?_
  rintro e x9 ⟨u9, d9, rfl, vo, hk⟩
  obtain ⟨w9, hW⟩ : ∃ w9, w9 = x9.alloc (.cells #[.int .i64 3, .slice u9 1 d9, .int .i64 2] 37) := ⟨_, rfl⟩
  obtain ⟨g1, hg⟩ : ∃ g1, g1 = x9.heap.size := ⟨_, rfl⟩
  have V9 : Hid (Bv w9 g1 3 2 (.slice u9 1 d9) [2]) := Lib.hid (by rw [hW, hg]; exact Bv.make vo)
  have k : Kept w8 w9 [] := by rw [hW]; exact hk.alloc _
  have S9 := Lib.hid (S8.out.keep k); have L9 := Lib.hid (L8.out.trans (k.below (B := w1.heap.size) S8.out.size (by simp)))
  obtain ⟨O9, hO⟩ : ∃ O9, O9 = O8 := ⟨_, rfl⟩
  rw [← hO] at S9
  clear vo hk k c hO
  have c : Calls Try.prog 12 #[.pointer (some ⟨p, 0, none⟩)] w9 fun e w' => e = .returned (.tuple #[.int .i64 3, .int .i64 0]) ∧ ∃ O', Sd w' w1.heap.size p h O' [2, 1, 1] [a0] (one a0 [⟨⟨#[97]⟩, 1, 0⟩]) ∧ Stp O9 O' w9 w' := begin_sd S9.out (by decide) (by decide)
  go_wp2_with fail
  rw [← hW, ← hg]
  clear hW hg
  refine c.mono ?_
  rintro e w10 ⟨rfl, O10, s, f⟩
  have S10 := Lib.hid s; have L10 := Lib.hid (L9.out.trans (S9.out.below f.1)); have V10 := Lib.hid (V9.out.fo S9.out f.1)
  clear s f c
  have c : Calls Try.prog 13 #[.pointer (some ⟨p, 0, none⟩)] w10 fun e w' => ∃ u c, e = .returned (.agg #[.int .i64 4, .slice u 2 c]) ∧ Vo w' (.slice u 2 c) [2, 3] ∧ Kept w10 w' [] := now_sd S10.out
  go_wp2_with fail
  refine c.mono ?_
  rintro e x11 ⟨u11, d11, rfl, vo, hk⟩
  obtain ⟨w11, hW⟩ : ∃ w11, w11 = x11.alloc (.cells #[.int .i64 4, .slice u11 2 d11, .int .i64 3] 37) := ⟨_, rfl⟩
  obtain ⟨g2, hg⟩ : ∃ g2, g2 = x11.heap.size := ⟨_, rfl⟩
  have U11 : Hid (Bv w11 g2 4 3 (.slice u11 2 d11) [2, 3]) := Lib.hid (by rw [hW, hg]; exact Bv.make vo)
  have k : Kept w10 w11 [] := by rw [hW]; exact hk.alloc _
  have S11 := Lib.hid (S10.out.keep k); have L11 := Lib.hid (L10.out.trans (k.below (B := w1.heap.size) S10.out.size (by simp)))
  have V11 := Lib.hid (V10.out.keep k)
  obtain ⟨O11, hO⟩ : ∃ O11, O11 = O10 := ⟨_, rfl⟩
  rw [← hO] at S11
  clear vo hk k c hO
  have y0 : (x11.alloc (.cells #[.int .i64 4, .slice u11 2 d11, .int .i64 3] 37)).cell? ⟨g1, 0, none⟩ = some (.int .i64 3) := by rw [← hW]; exact V11.out.cells.1
  have y1 : (x11.alloc (.cells #[.int .i64 4, .slice u11 2 d11, .int .i64 3] 37)).cell? ⟨g1, 1, none⟩ = some (.slice u9 1 d9) := by rw [← hW]; exact V11.out.cells.2.1
  have y2 : (x11.alloc (.cells #[.int .i64 4, .slice u11 2 d11, .int .i64 3] 37)).cell? ⟨g1, 2, none⟩ = some (.int .i64 2) := by rw [← hW]; exact V11.out.cells.2.2
  have c : Calls Try.prog 17 #[.pointer (some ⟨h, 0, none⟩), .agg #[.int .i64 3, .slice u9 1 d9, .int .i64 2], .agg #[.int .i64 a0, .string ⟨#[98]⟩]] w11 fun e w' => e = .returned (.int .i64 0) ∧ ∃ O', Sd w' w1.heap.size p h O' [2, 1, 1] [a0] (one a0 [⟨⟨#[97]⟩, 1, 2⟩, ⟨⟨#[98]⟩, 2, 0⟩]) ∧ Stp O11 O' w11 w' := update_one S11.out 3 2 u9 1 d9 [2] V11.out.2 (by decide) _ W0.out (by decide)
  go_wp2_with fail
  rw [← hW, ← hg]
  clear hW hg y0 y1 y2
  refine c.mono ?_
  rintro e w12 ⟨rfl, O12, s, f⟩
  have S12 := Lib.hid s; have L12 := Lib.hid (L11.out.trans (S11.out.below f.1)); have U12 := Lib.hid (U11.out.fo S11.out f.1)
  clear s f c
  have c : Calls Try.prog 20 #[.pointer (some ⟨p, 0, none⟩), .int .i64 2] w12 fun e w' => e = .returned (.int .i64 0) ∧ Sd w' w1.heap.size p h O12 [2, 3, 1] [a0] (one a0 [⟨⟨#[97]⟩, 1, 2⟩, ⟨⟨#[98]⟩, 2, 0⟩]) ∧ Stp O12 O12 w12 w' := abort_sd S12.out 2 (by decide) (by decide)
  go_wp2_with fail
  refine c.mono ?_
  rintro e w13 ⟨rfl, s, f⟩
  obtain ⟨O13, hO⟩ : ∃ O13, O13 = O12 := ⟨_, rfl⟩
  rw [← hO] at s
  have S13 := Lib.hid s; have L13 := Lib.hid (L12.out.trans (S12.out.below f.1))
  have U13 := Lib.hid (U12.out.fo S12.out f.1)
  clear s f c hO
  obtain ⟨z0, z1, z2⟩ := U13.out.cells
  have c : Calls Try.prog 17 #[.pointer (some ⟨h, 0, none⟩), .agg #[.int .i64 4, .slice u11 2 d11, .int .i64 3], .agg #[.int .i64 a0, .string ⟨#[99]⟩]] w13 fun e w' => e = .returned (.int .i64 0) ∧ ∃ O', Sd w' w1.heap.size p h O' [2, 3, 1] [a0] (one a0 [⟨⟨#[97]⟩, 1, 3⟩, ⟨⟨#[98]⟩, 2, 0⟩, ⟨⟨#[99]⟩, 3, 0⟩]) ∧ Stp O13 O' w13 w' := update_one S13.out 4 3 u11 2 d11 [2, 3] U13.out.2 (by decide) _ W0.out (by decide)
  go_wp2_with fail
  refine c.mono ?_
  rintro e w14 ⟨rfl, O14, s, f⟩
  have F14 : Hid (one a0 [⟨⟨#[97]⟩, 1, 3⟩, ⟨⟨#[98]⟩, 2, 0⟩, ⟨⟨#[99]⟩, 3, 0⟩] = one a0 [⟨⟨#[97]⟩, 1, 3⟩, ⟨⟨#[98]⟩, 2, 0⟩, ⟨⟨#[99]⟩, 3, 0⟩]) := Lib.hid rfl
  have S14 := Lib.hid s; have L14 := Lib.hid (L13.out.trans (S13.out.below f.1)); have U14 := Lib.hid (U13.out.fo S13.out f.1)
  clear s f c z0 z1 z2
  obtain ⟨z0, z1, z2⟩ := U14.out.cells
  have c := get_sd S14.out 4 3 u11 2 d11 [2, 3] U14.out.2 a0 W0.out
  obtain ⟨gk, gt, gf, hgt⟩ := getT_form [2, 3, 1] ⟨4, [2, 3], 3⟩ a0 ((one a0 [⟨⟨#[97]⟩, 1, 3⟩, ⟨⟨#[98]⟩, 2, 0⟩, ⟨⟨#[99]⟩, 3, 0⟩]) a0)
  rw [hgt] at c
  clear hgt
  have C := Lib.hid c
  clear c
  go_wp2_with fail
  refine C.out.mono ?_
  rintro e w15 ⟨rfl, hk⟩
  have L15 := Lib.hid (L14.out.trans (hk.below (B := w1.heap.size) S14.out.size (by simp)))
  clear hk C z0 z1 z2
  go_wp2
  go_ret
  exact ⟨rfl, (K1.out.below (Nat.le_refl _) (by simp)).trans ((L15.out.alloc L15.out.size _).mono K1.out.size)⟩

set_option maxHeartbeats 4000000 in
set_option maxRecDepth 100000 in
theorem way002 (a0 a1 a2 a3 : Int) (w0 : (Lit.int .i64 a0).wf = true) (e1 : a1 % 2 = 0) (e1' : a1.tmod 2 = 0) (e2 : a2 % 3 = 0) (e2' : a2.tmod 3 = 0) (e3 : a3 % 3 = 2) (e3' : a3.tmod 3 = 2) (W : World) :
    Calls Try.prog 4 #[.int .i64 a0, .int .u8 a1, .int .u8 a2, .int .u8 a3] W fun e w' => e = .returned (.bool true) ∧ Below W.heap.size W w' := by
  have W0 := Lib.hid w0
  clear w0
  go_enter Try.func4, Try.ntmps4
  go_wp2_with fail
  refine (clash_any W).mono ?_
  rintro e w1 ⟨rfl, hk⟩
  have K1 := Lib.hid hk; clear hk
  go_wp2_with fail
  refine (mnew_any w1).mono ?_
  rintro e w2 ⟨p, b, v1, rfl, hm, hk⟩
  have M2 := Lib.hid hm; have K2 := Lib.hid hk
  clear hm hk
  go_wp2_with fail
  refine (hnew_sd M2.out).mono ?_
  rintro e w3 ⟨h, O3, rfl, s, hk, _⟩
  have S3 := Lib.hid s; have L3 := Lib.hid (show Below w1.heap.size w1 w3 from (K2.out.trans hk (by simp)).below (Nat.le_refl _) (by simp))
  clear s hk
  have c : Calls Try.prog 12 #[.pointer (some ⟨p, 0, none⟩)] w3 fun e w' => e = .returned (.tuple #[.int .i64 1, .int .i64 0]) ∧ ∃ O', Sd w' w1.heap.size p h O' [1] [] (fun _ => []) ∧ Stp O3 O' w3 w' := begin_sd S3.out (by decide) (by decide)
  go_wp2_with fail
  refine c.mono ?_
  rintro e w4 ⟨rfl, O4, s, f⟩
  have S4 := Lib.hid s; have L4 := Lib.hid (L3.out.trans (S3.out.below f.1))
  clear s f c
  have c : Calls Try.prog 13 #[.pointer (some ⟨p, 0, none⟩)] w4 fun e w' => ∃ u c, e = .returned (.agg #[.int .i64 2, .slice u 1 c]) ∧ Vo w' (.slice u 1 c) [1] ∧ Kept w4 w' [] := now_sd S4.out
  go_wp2_with fail
  refine c.mono ?_
  rintro e w5 ⟨u5, d5, rfl, vo, hk⟩
  have S5 := Lib.hid (S4.out.keep hk); have L5 := Lib.hid (L4.out.trans (hk.below (B := w1.heap.size) S4.out.size (by simp))); have V5 := Lib.hid vo
  obtain ⟨O5, hO⟩ : ∃ O5, O5 = O4 := ⟨_, rfl⟩
  rw [← hO] at S5
  clear vo hk c hO
  have c : Calls Try.prog 14 #[.pointer (some ⟨h, 0, none⟩), .agg #[.int .i64 2, .slice u5 1 d5, .int .i64 1], .agg #[.int .i64 a0, .string ⟨#[97]⟩]] w5 fun e w' => e = .returned (.int .i64 0) ∧ ∃ O', Sd w' w1.heap.size p h O' [1] [a0] (one a0 [⟨⟨#[97]⟩, 1, 0⟩]) ∧ Stp O5 O' w5 w' := insert_one S5.out 2 1 u5 1 d5 [1] V5.out (by decide) a0 _ W0.out (by decide)
  go_wp2_with fail
  refine c.mono ?_
  rintro e w6 ⟨rfl, O6, s, f⟩
  have S6 := Lib.hid s; have L6 := Lib.hid (L5.out.trans (S5.out.below f.1))
  clear s f c
  have c : Calls Try.prog 15 #[.pointer (some ⟨p, 0, none⟩), .int .i64 1] w6 fun e w' => e = .returned (.int .i64 0) ∧ Sd w' w1.heap.size p h O6 [2] [a0] (one a0 [⟨⟨#[97]⟩, 1, 0⟩]) ∧ Stp O6 O6 w6 w' := commit_sd S6.out 1 (by decide) (by decide)
  go_wp2_with fail
  refine c.mono ?_
  rintro e w7 ⟨rfl, s, f⟩
  obtain ⟨O7, hO⟩ : ∃ O7, O7 = O6 := ⟨_, rfl⟩
  rw [← hO] at s
  have S7 := Lib.hid s; have L7 := Lib.hid (L6.out.trans (S6.out.below f.1))
  clear s f c hO
  have c : Calls Try.prog 12 #[.pointer (some ⟨p, 0, none⟩)] w7 fun e w' => e = .returned (.tuple #[.int .i64 2, .int .i64 0]) ∧ ∃ O', Sd w' w1.heap.size p h O' [2, 1] [a0] (one a0 [⟨⟨#[97]⟩, 1, 0⟩]) ∧ Stp O7 O' w7 w' := begin_sd S7.out (by decide) (by decide)
  go_wp2_with fail
  refine c.mono ?_
  rintro e w8 ⟨rfl, O8, s, f⟩
  have S8 := Lib.hid s; have L8 := Lib.hid (L7.out.trans (S7.out.below f.1))
  clear s f c
  have c : Calls Try.prog 13 #[.pointer (some ⟨p, 0, none⟩)] w8 fun e w' => ∃ u c, e = .returned (.agg #[.int .i64 3, .slice u 1 c]) ∧ Vo w' (.slice u 1 c) [2] ∧ Kept w8 w' [] := now_sd S8.out
  go_wp2_with fail
  refine c.mono ?_
  rintro e x9 ⟨u9, d9, rfl, vo, hk⟩
  obtain ⟨w9, hW⟩ : ∃ w9, w9 = x9.alloc (.cells #[.int .i64 3, .slice u9 1 d9, .int .i64 2] 37) := ⟨_, rfl⟩
  obtain ⟨g1, hg⟩ : ∃ g1, g1 = x9.heap.size := ⟨_, rfl⟩
  have V9 : Hid (Bv w9 g1 3 2 (.slice u9 1 d9) [2]) := Lib.hid (by rw [hW, hg]; exact Bv.make vo)
  have k : Kept w8 w9 [] := by rw [hW]; exact hk.alloc _
  have S9 := Lib.hid (S8.out.keep k); have L9 := Lib.hid (L8.out.trans (k.below (B := w1.heap.size) S8.out.size (by simp)))
  obtain ⟨O9, hO⟩ : ∃ O9, O9 = O8 := ⟨_, rfl⟩
  rw [← hO] at S9
  clear vo hk k c hO
  have c : Calls Try.prog 12 #[.pointer (some ⟨p, 0, none⟩)] w9 fun e w' => e = .returned (.tuple #[.int .i64 3, .int .i64 0]) ∧ ∃ O', Sd w' w1.heap.size p h O' [2, 1, 1] [a0] (one a0 [⟨⟨#[97]⟩, 1, 0⟩]) ∧ Stp O9 O' w9 w' := begin_sd S9.out (by decide) (by decide)
  go_wp2_with fail
  rw [← hW, ← hg]
  clear hW hg
  refine c.mono ?_
  rintro e w10 ⟨rfl, O10, s, f⟩
  have S10 := Lib.hid s; have L10 := Lib.hid (L9.out.trans (S9.out.below f.1)); have V10 := Lib.hid (V9.out.fo S9.out f.1)
  clear s f c
  have c : Calls Try.prog 13 #[.pointer (some ⟨p, 0, none⟩)] w10 fun e w' => ∃ u c, e = .returned (.agg #[.int .i64 4, .slice u 2 c]) ∧ Vo w' (.slice u 2 c) [2, 3] ∧ Kept w10 w' [] := now_sd S10.out
  go_wp2_with fail
  refine c.mono ?_
  rintro e x11 ⟨u11, d11, rfl, vo, hk⟩
  obtain ⟨w11, hW⟩ : ∃ w11, w11 = x11.alloc (.cells #[.int .i64 4, .slice u11 2 d11, .int .i64 3] 37) := ⟨_, rfl⟩
  obtain ⟨g2, hg⟩ : ∃ g2, g2 = x11.heap.size := ⟨_, rfl⟩
  have U11 : Hid (Bv w11 g2 4 3 (.slice u11 2 d11) [2, 3]) := Lib.hid (by rw [hW, hg]; exact Bv.make vo)
  have k : Kept w10 w11 [] := by rw [hW]; exact hk.alloc _
  have S11 := Lib.hid (S10.out.keep k); have L11 := Lib.hid (L10.out.trans (k.below (B := w1.heap.size) S10.out.size (by simp)))
  have V11 := Lib.hid (V10.out.keep k)
  obtain ⟨O11, hO⟩ : ∃ O11, O11 = O10 := ⟨_, rfl⟩
  rw [← hO] at S11
  clear vo hk k c hO
  have y0 : (x11.alloc (.cells #[.int .i64 4, .slice u11 2 d11, .int .i64 3] 37)).cell? ⟨g1, 0, none⟩ = some (.int .i64 3) := by rw [← hW]; exact V11.out.cells.1
  have y1 : (x11.alloc (.cells #[.int .i64 4, .slice u11 2 d11, .int .i64 3] 37)).cell? ⟨g1, 1, none⟩ = some (.slice u9 1 d9) := by rw [← hW]; exact V11.out.cells.2.1
  have y2 : (x11.alloc (.cells #[.int .i64 4, .slice u11 2 d11, .int .i64 3] 37)).cell? ⟨g1, 2, none⟩ = some (.int .i64 2) := by rw [← hW]; exact V11.out.cells.2.2
  have c : Calls Try.prog 17 #[.pointer (some ⟨h, 0, none⟩), .agg #[.int .i64 3, .slice u9 1 d9, .int .i64 2], .agg #[.int .i64 a0, .string ⟨#[98]⟩]] w11 fun e w' => e = .returned (.int .i64 0) ∧ ∃ O', Sd w' w1.heap.size p h O' [2, 1, 1] [a0] (one a0 [⟨⟨#[97]⟩, 1, 2⟩, ⟨⟨#[98]⟩, 2, 0⟩]) ∧ Stp O11 O' w11 w' := update_one S11.out 3 2 u9 1 d9 [2] V11.out.2 (by decide) _ W0.out (by decide)
  go_wp2_with fail
  rw [← hW, ← hg]
  clear hW hg y0 y1 y2
  refine c.mono ?_
  rintro e w12 ⟨rfl, O12, s, f⟩
  have S12 := Lib.hid s; have L12 := Lib.hid (L11.out.trans (S11.out.below f.1)); have U12 := Lib.hid (U11.out.fo S11.out f.1)
  clear s f c
  obtain ⟨z0, z1, z2⟩ := U12.out.cells
  have c : Calls Try.prog 17 #[.pointer (some ⟨h, 0, none⟩), .agg #[.int .i64 4, .slice u11 2 d11, .int .i64 3], .agg #[.int .i64 a0, .string ⟨#[99]⟩]] w12 fun e w' => e = .returned (.int .i64 6) ∧ ∃ O', Sd w' w1.heap.size p h O' [2, 1, 1] [a0] (one a0 [⟨⟨#[97]⟩, 1, 2⟩, ⟨⟨#[98]⟩, 2, 0⟩]) ∧ Stp O12 O' w12 w' := update_one S12.out 4 3 u11 2 d11 [2, 3] U12.out.2 (by decide) _ W0.out (by decide)
  go_wp2_with fail
  refine c.mono ?_
  rintro e w13 ⟨rfl, O13, s, f⟩
  have F13 : Hid (one a0 [⟨⟨#[97]⟩, 1, 2⟩, ⟨⟨#[98]⟩, 2, 0⟩] = one a0 [⟨⟨#[97]⟩, 1, 2⟩, ⟨⟨#[98]⟩, 2, 0⟩]) := Lib.hid rfl
  have S13 := Lib.hid s; have L13 := Lib.hid (L12.out.trans (S12.out.below f.1)); have U13 := Lib.hid (U12.out.fo S12.out f.1)
  clear s f c z0 z1 z2
  obtain ⟨z0, z1, z2⟩ := U13.out.cells
  have c := get_sd S13.out 4 3 u11 2 d11 [2, 3] U13.out.2 a0 W0.out
  rw [one_same] at c
  have c' : Calls Try.prog 22 #[.pointer (some ⟨h, 0, none⟩), .agg #[.int .i64 4, .slice u11 2 d11, .int .i64 3], .int .i64 a0] w13 fun e w' => e = .returned (.tuple #[.agg #[.int .i64 a0, .string ⟨#[97]⟩], .bool true]) ∧ Kept w13 w' [] := c
  clear c
  go_wp2_with fail
  refine c'.mono ?_
  rintro e w14 ⟨rfl, hk⟩
  have L14 := Lib.hid (L13.out.trans (hk.below (B := w1.heap.size) S13.out.size (by simp)))
  clear hk c' z0 z1 z2
  go_wp2
  go_ret
  exact ⟨rfl, (K1.out.below (Nat.le_refl _) (by simp)).trans ((L14.out.alloc L14.out.size _).mono K1.out.size)⟩

set_option maxHeartbeats 4000000 in
set_option maxRecDepth 100000 in
theorem way010 (a0 a1 a2 a3 : Int) (w0 : (Lit.int .i64 a0).wf = true) (e1 : a1 % 2 = 0) (e1' : a1.tmod 2 = 0) (e2 : a2 % 3 = 1) (e2' : a2.tmod 3 = 1) (e3 : a3 % 3 = 0) (e3' : a3.tmod 3 = 0) (W : World) :
    Calls Try.prog 4 #[.int .i64 a0, .int .u8 a1, .int .u8 a2, .int .u8 a3] W fun e w' => e = .returned (.bool true) ∧ Below W.heap.size W w' := by
  have W0 := Lib.hid w0
  clear w0
  go_enter Try.func4, Try.ntmps4
  go_wp2_with fail
  refine (clash_any W).mono ?_
  rintro e w1 ⟨rfl, hk⟩
  have K1 := Lib.hid hk; clear hk
  go_wp2_with fail
  refine (mnew_any w1).mono ?_
  rintro e w2 ⟨p, b, v1, rfl, hm, hk⟩
  have M2 := Lib.hid hm; have K2 := Lib.hid hk
  clear hm hk
  go_wp2_with fail
  refine (hnew_sd M2.out).mono ?_
  rintro e w3 ⟨h, O3, rfl, s, hk, _⟩
  have S3 := Lib.hid s; have L3 := Lib.hid (show Below w1.heap.size w1 w3 from (K2.out.trans hk (by simp)).below (Nat.le_refl _) (by simp))
  clear s hk
  have c : Calls Try.prog 12 #[.pointer (some ⟨p, 0, none⟩)] w3 fun e w' => e = .returned (.tuple #[.int .i64 1, .int .i64 0]) ∧ ∃ O', Sd w' w1.heap.size p h O' [1] [] (fun _ => []) ∧ Stp O3 O' w3 w' := begin_sd S3.out (by decide) (by decide)
  go_wp2_with fail
  refine c.mono ?_
  rintro e w4 ⟨rfl, O4, s, f⟩
  have S4 := Lib.hid s; have L4 := Lib.hid (L3.out.trans (S3.out.below f.1))
  clear s f c
  have c : Calls Try.prog 13 #[.pointer (some ⟨p, 0, none⟩)] w4 fun e w' => ∃ u c, e = .returned (.agg #[.int .i64 2, .slice u 1 c]) ∧ Vo w' (.slice u 1 c) [1] ∧ Kept w4 w' [] := now_sd S4.out
  go_wp2_with fail
  refine c.mono ?_
  rintro e w5 ⟨u5, d5, rfl, vo, hk⟩
  have S5 := Lib.hid (S4.out.keep hk); have L5 := Lib.hid (L4.out.trans (hk.below (B := w1.heap.size) S4.out.size (by simp))); have V5 := Lib.hid vo
  obtain ⟨O5, hO⟩ : ∃ O5, O5 = O4 := ⟨_, rfl⟩
  rw [← hO] at S5
  clear vo hk c hO
  have c : Calls Try.prog 14 #[.pointer (some ⟨h, 0, none⟩), .agg #[.int .i64 2, .slice u5 1 d5, .int .i64 1], .agg #[.int .i64 a0, .string ⟨#[97]⟩]] w5 fun e w' => e = .returned (.int .i64 0) ∧ ∃ O', Sd w' w1.heap.size p h O' [1] [a0] (one a0 [⟨⟨#[97]⟩, 1, 0⟩]) ∧ Stp O5 O' w5 w' := insert_one S5.out 2 1 u5 1 d5 [1] V5.out (by decide) a0 _ W0.out (by decide)
  go_wp2_with fail
  refine c.mono ?_
  rintro e w6 ⟨rfl, O6, s, f⟩
  have S6 := Lib.hid s; have L6 := Lib.hid (L5.out.trans (S5.out.below f.1))
  clear s f c
  have c : Calls Try.prog 15 #[.pointer (some ⟨p, 0, none⟩), .int .i64 1] w6 fun e w' => e = .returned (.int .i64 0) ∧ Sd w' w1.heap.size p h O6 [2] [a0] (one a0 [⟨⟨#[97]⟩, 1, 0⟩]) ∧ Stp O6 O6 w6 w' := commit_sd S6.out 1 (by decide) (by decide)
  go_wp2_with fail
  refine c.mono ?_
  rintro e w7 ⟨rfl, s, f⟩
  obtain ⟨O7, hO⟩ : ∃ O7, O7 = O6 := ⟨_, rfl⟩
  rw [← hO] at s
  have S7 := Lib.hid s; have L7 := Lib.hid (L6.out.trans (S6.out.below f.1))
  clear s f c hO
  have c : Calls Try.prog 12 #[.pointer (some ⟨p, 0, none⟩)] w7 fun e w' => e = .returned (.tuple #[.int .i64 2, .int .i64 0]) ∧ ∃ O', Sd w' w1.heap.size p h O' [2, 1] [a0] (one a0 [⟨⟨#[97]⟩, 1, 0⟩]) ∧ Stp O7 O' w7 w' := begin_sd S7.out (by decide) (by decide)
  go_wp2_with fail
  refine c.mono ?_
  rintro e w8 ⟨rfl, O8, s, f⟩
  have S8 := Lib.hid s; have L8 := Lib.hid (L7.out.trans (S7.out.below f.1))
  clear s f c
  have c : Calls Try.prog 13 #[.pointer (some ⟨p, 0, none⟩)] w8 fun e w' => ∃ u c, e = .returned (.agg #[.int .i64 3, .slice u 1 c]) ∧ Vo w' (.slice u 1 c) [2] ∧ Kept w8 w' [] := now_sd S8.out
  go_wp2_with fail
  refine c.mono ?_
  rintro e x9 ⟨u9, d9, rfl, vo, hk⟩
  obtain ⟨w9, hW⟩ : ∃ w9, w9 = x9.alloc (.cells #[.int .i64 3, .slice u9 1 d9, .int .i64 2] 37) := ⟨_, rfl⟩
  obtain ⟨g1, hg⟩ : ∃ g1, g1 = x9.heap.size := ⟨_, rfl⟩
  have V9 : Hid (Bv w9 g1 3 2 (.slice u9 1 d9) [2]) := Lib.hid (by rw [hW, hg]; exact Bv.make vo)
  have k : Kept w8 w9 [] := by rw [hW]; exact hk.alloc _
  have S9 := Lib.hid (S8.out.keep k); have L9 := Lib.hid (L8.out.trans (k.below (B := w1.heap.size) S8.out.size (by simp)))
  obtain ⟨O9, hO⟩ : ∃ O9, O9 = O8 := ⟨_, rfl⟩
  rw [← hO] at S9
  clear vo hk k c hO
  have c : Calls Try.prog 12 #[.pointer (some ⟨p, 0, none⟩)] w9 fun e w' => e = .returned (.tuple #[.int .i64 3, .int .i64 0]) ∧ ∃ O', Sd w' w1.heap.size p h O' [2, 1, 1] [a0] (one a0 [⟨⟨#[97]⟩, 1, 0⟩]) ∧ Stp O9 O' w9 w' := begin_sd S9.out (by decide) (by decide)
  go_wp2_with fail
  rw [← hW, ← hg]
  clear hW hg
  refine c.mono ?_
  rintro e w10 ⟨rfl, O10, s, f⟩
  have S10 := Lib.hid s; have L10 := Lib.hid (L9.out.trans (S9.out.below f.1)); have V10 := Lib.hid (V9.out.fo S9.out f.1)
  clear s f c
  have c : Calls Try.prog 13 #[.pointer (some ⟨p, 0, none⟩)] w10 fun e w' => ∃ u c, e = .returned (.agg #[.int .i64 4, .slice u 2 c]) ∧ Vo w' (.slice u 2 c) [2, 3] ∧ Kept w10 w' [] := now_sd S10.out
  go_wp2_with fail
  refine c.mono ?_
  rintro e x11 ⟨u11, d11, rfl, vo, hk⟩
  obtain ⟨w11, hW⟩ : ∃ w11, w11 = x11.alloc (.cells #[.int .i64 4, .slice u11 2 d11, .int .i64 3] 37) := ⟨_, rfl⟩
  obtain ⟨g2, hg⟩ : ∃ g2, g2 = x11.heap.size := ⟨_, rfl⟩
  have U11 : Hid (Bv w11 g2 4 3 (.slice u11 2 d11) [2, 3]) := Lib.hid (by rw [hW, hg]; exact Bv.make vo)
  have k : Kept w10 w11 [] := by rw [hW]; exact hk.alloc _
  have S11 := Lib.hid (S10.out.keep k); have L11 := Lib.hid (L10.out.trans (k.below (B := w1.heap.size) S10.out.size (by simp)))
  have V11 := Lib.hid (V10.out.keep k)
  obtain ⟨O11, hO⟩ : ∃ O11, O11 = O10 := ⟨_, rfl⟩
  rw [← hO] at S11
  clear vo hk k c hO
  have y0 : (x11.alloc (.cells #[.int .i64 4, .slice u11 2 d11, .int .i64 3] 37)).cell? ⟨g1, 0, none⟩ = some (.int .i64 3) := by rw [← hW]; exact V11.out.cells.1
  have y1 : (x11.alloc (.cells #[.int .i64 4, .slice u11 2 d11, .int .i64 3] 37)).cell? ⟨g1, 1, none⟩ = some (.slice u9 1 d9) := by rw [← hW]; exact V11.out.cells.2.1
  have y2 : (x11.alloc (.cells #[.int .i64 4, .slice u11 2 d11, .int .i64 3] 37)).cell? ⟨g1, 2, none⟩ = some (.int .i64 2) := by rw [← hW]; exact V11.out.cells.2.2
  have c : Calls Try.prog 17 #[.pointer (some ⟨h, 0, none⟩), .agg #[.int .i64 3, .slice u9 1 d9, .int .i64 2], .agg #[.int .i64 a0, .string ⟨#[98]⟩]] w11 fun e w' => e = .returned (.int .i64 0) ∧ ∃ O', Sd w' w1.heap.size p h O' [2, 1, 1] [a0] (one a0 [⟨⟨#[97]⟩, 1, 2⟩, ⟨⟨#[98]⟩, 2, 0⟩]) ∧ Stp O11 O' w11 w' := update_one S11.out 3 2 u9 1 d9 [2] V11.out.2 (by decide) _ W0.out (by decide)
  go_wp2_with fail
  rw [← hW, ← hg]
  clear hW hg y0 y1 y2
  refine c.mono ?_
  rintro e w12 ⟨rfl, O12, s, f⟩
  have S12 := Lib.hid s; have L12 := Lib.hid (L11.out.trans (S11.out.below f.1)); have U12 := Lib.hid (U11.out.fo S11.out f.1)
  clear s f c
  have c : Calls Try.prog 15 #[.pointer (some ⟨p, 0, none⟩), .int .i64 2] w12 fun e w' => e = .returned (.int .i64 0) ∧ Sd w' w1.heap.size p h O12 [2, 2, 1] [a0] (one a0 [⟨⟨#[97]⟩, 1, 2⟩, ⟨⟨#[98]⟩, 2, 0⟩]) ∧ Stp O12 O12 w12 w' := commit_sd S12.out 2 (by decide) (by decide)
  go_wp2_with fail
  refine c.mono ?_
  rintro e w13 ⟨rfl, s, f⟩
  obtain ⟨O13, hO⟩ : ∃ O13, O13 = O12 := ⟨_, rfl⟩
  rw [← hO] at s
  have S13 := Lib.hid s; have L13 := Lib.hid (L12.out.trans (S12.out.below f.1))
  have U13 := Lib.hid (U12.out.fo S12.out f.1)
  clear s f c hO
  obtain ⟨z0, z1, z2⟩ := U13.out.cells
  have c : Calls Try.prog 18 #[.pointer (some ⟨h, 0, none⟩), .agg #[.int .i64 4, .slice u11 2 d11, .int .i64 3], .int .i64 a0] w13 fun e w' => e = .returned (.int .i64 6) ∧ ∃ O', Sd w' w1.heap.size p h O' [2, 2, 1] [a0] (one a0 [⟨⟨#[97]⟩, 1, 2⟩, ⟨⟨#[98]⟩, 2, 0⟩]) ∧ Stp O13 O' w13 w' := delete_one S13.out 4 3 u11 2 d11 [2, 3] U13.out.2 (by decide) W0.out
  go_wp2_with fail
  refine c.mono ?_
  rintro e w14 ⟨rfl, O14, s, f⟩
  have F14 : Hid (one a0 [⟨⟨#[97]⟩, 1, 2⟩, ⟨⟨#[98]⟩, 2, 0⟩] = one a0 [⟨⟨#[97]⟩, 1, 2⟩, ⟨⟨#[98]⟩, 2, 0⟩]) := Lib.hid rfl
  have S14 := Lib.hid s; have L14 := Lib.hid (L13.out.trans (S13.out.below f.1)); have U14 := Lib.hid (U13.out.fo S13.out f.1)
  clear s f c z0 z1 z2
  obtain ⟨z0, z1, z2⟩ := U14.out.cells
  have c := get_sd S14.out 4 3 u11 2 d11 [2, 3] U14.out.2 a0 W0.out
  rw [one_same] at c
  have c' : Calls Try.prog 22 #[.pointer (some ⟨h, 0, none⟩), .agg #[.int .i64 4, .slice u11 2 d11, .int .i64 3], .int .i64 a0] w14 fun e w' => e = .returned (.tuple #[.agg #[.int .i64 a0, .string ⟨#[97]⟩], .bool true]) ∧ Kept w14 w' [] := c
  clear c
  go_wp2_with fail
  refine c'.mono ?_
  rintro e w15 ⟨rfl, hk⟩
  have L15 := Lib.hid (L14.out.trans (hk.below (B := w1.heap.size) S14.out.size (by simp)))
  clear hk c' z0 z1 z2
  go_wp2
  go_ret
  exact ⟨rfl, (K1.out.below (Nat.le_refl _) (by simp)).trans ((L15.out.alloc L15.out.size _).mono K1.out.size)⟩

set_option maxHeartbeats 4000000 in
set_option maxRecDepth 100000 in
theorem way011 (a0 a1 a2 a3 : Int) (w0 : (Lit.int .i64 a0).wf = true) (e1 : a1 % 2 = 0) (e1' : a1.tmod 2 = 0) (e2 : a2 % 3 = 1) (e2' : a2.tmod 3 = 1) (e3 : a3 % 3 = 1) (e3' : a3.tmod 3 = 1) (W : World) :
    Calls Try.prog 4 #[.int .i64 a0, .int .u8 a1, .int .u8 a2, .int .u8 a3] W fun e w' => e = .returned (.bool true) ∧ Below W.heap.size W w' := by
  have W0 := Lib.hid w0
  clear w0
  go_enter Try.func4, Try.ntmps4
  go_wp2_with fail
  refine (clash_any W).mono ?_
  rintro e w1 ⟨rfl, hk⟩
  have K1 := Lib.hid hk; clear hk
  go_wp2_with fail
  refine (mnew_any w1).mono ?_
  rintro e w2 ⟨p, b, v1, rfl, hm, hk⟩
  have M2 := Lib.hid hm; have K2 := Lib.hid hk
  clear hm hk
  go_wp2_with fail
  refine (hnew_sd M2.out).mono ?_
  rintro e w3 ⟨h, O3, rfl, s, hk, _⟩
  have S3 := Lib.hid s; have L3 := Lib.hid (show Below w1.heap.size w1 w3 from (K2.out.trans hk (by simp)).below (Nat.le_refl _) (by simp))
  clear s hk
  have c : Calls Try.prog 12 #[.pointer (some ⟨p, 0, none⟩)] w3 fun e w' => e = .returned (.tuple #[.int .i64 1, .int .i64 0]) ∧ ∃ O', Sd w' w1.heap.size p h O' [1] [] (fun _ => []) ∧ Stp O3 O' w3 w' := begin_sd S3.out (by decide) (by decide)
  go_wp2_with fail
  refine c.mono ?_
  rintro e w4 ⟨rfl, O4, s, f⟩
  have S4 := Lib.hid s; have L4 := Lib.hid (L3.out.trans (S3.out.below f.1))
  clear s f c
  have c : Calls Try.prog 13 #[.pointer (some ⟨p, 0, none⟩)] w4 fun e w' => ∃ u c, e = .returned (.agg #[.int .i64 2, .slice u 1 c]) ∧ Vo w' (.slice u 1 c) [1] ∧ Kept w4 w' [] := now_sd S4.out
  go_wp2_with fail
  refine c.mono ?_
  rintro e w5 ⟨u5, d5, rfl, vo, hk⟩
  have S5 := Lib.hid (S4.out.keep hk); have L5 := Lib.hid (L4.out.trans (hk.below (B := w1.heap.size) S4.out.size (by simp))); have V5 := Lib.hid vo
  obtain ⟨O5, hO⟩ : ∃ O5, O5 = O4 := ⟨_, rfl⟩
  rw [← hO] at S5
  clear vo hk c hO
  have c : Calls Try.prog 14 #[.pointer (some ⟨h, 0, none⟩), .agg #[.int .i64 2, .slice u5 1 d5, .int .i64 1], .agg #[.int .i64 a0, .string ⟨#[97]⟩]] w5 fun e w' => e = .returned (.int .i64 0) ∧ ∃ O', Sd w' w1.heap.size p h O' [1] [a0] (one a0 [⟨⟨#[97]⟩, 1, 0⟩]) ∧ Stp O5 O' w5 w' := insert_one S5.out 2 1 u5 1 d5 [1] V5.out (by decide) a0 _ W0.out (by decide)
  go_wp2_with fail
  refine c.mono ?_
  rintro e w6 ⟨rfl, O6, s, f⟩
  have S6 := Lib.hid s; have L6 := Lib.hid (L5.out.trans (S5.out.below f.1))
  clear s f c
  have c : Calls Try.prog 15 #[.pointer (some ⟨p, 0, none⟩), .int .i64 1] w6 fun e w' => e = .returned (.int .i64 0) ∧ Sd w' w1.heap.size p h O6 [2] [a0] (one a0 [⟨⟨#[97]⟩, 1, 0⟩]) ∧ Stp O6 O6 w6 w' := commit_sd S6.out 1 (by decide) (by decide)
  go_wp2_with fail
  refine c.mono ?_
  rintro e w7 ⟨rfl, s, f⟩
  obtain ⟨O7, hO⟩ : ∃ O7, O7 = O6 := ⟨_, rfl⟩
  rw [← hO] at s
  have S7 := Lib.hid s; have L7 := Lib.hid (L6.out.trans (S6.out.below f.1))
  clear s f c hO
  have c : Calls Try.prog 12 #[.pointer (some ⟨p, 0, none⟩)] w7 fun e w' => e = .returned (.tuple #[.int .i64 2, .int .i64 0]) ∧ ∃ O', Sd w' w1.heap.size p h O' [2, 1] [a0] (one a0 [⟨⟨#[97]⟩, 1, 0⟩]) ∧ Stp O7 O' w7 w' := begin_sd S7.out (by decide) (by decide)
  go_wp2_with fail
  refine c.mono ?_
  rintro e w8 ⟨rfl, O8, s, f⟩
  have S8 := Lib.hid s; have L8 := Lib.hid (L7.out.trans (S7.out.below f.1))
  clear s f c
  have c : Calls Try.prog 13 #[.pointer (some ⟨p, 0, none⟩)] w8 fun e w' => ∃ u c, e = .returned (.agg #[.int .i64 3, .slice u 1 c]) ∧ Vo w' (.slice u 1 c) [2] ∧ Kept w8 w' [] := now_sd S8.out
  go_wp2_with fail
  refine c.mono ?_
  rintro e x9 ⟨u9, d9, rfl, vo, hk⟩
  obtain ⟨w9, hW⟩ : ∃ w9, w9 = x9.alloc (.cells #[.int .i64 3, .slice u9 1 d9, .int .i64 2] 37) := ⟨_, rfl⟩
  obtain ⟨g1, hg⟩ : ∃ g1, g1 = x9.heap.size := ⟨_, rfl⟩
  have V9 : Hid (Bv w9 g1 3 2 (.slice u9 1 d9) [2]) := Lib.hid (by rw [hW, hg]; exact Bv.make vo)
  have k : Kept w8 w9 [] := by rw [hW]; exact hk.alloc _
  have S9 := Lib.hid (S8.out.keep k); have L9 := Lib.hid (L8.out.trans (k.below (B := w1.heap.size) S8.out.size (by simp)))
  obtain ⟨O9, hO⟩ : ∃ O9, O9 = O8 := ⟨_, rfl⟩
  rw [← hO] at S9
  clear vo hk k c hO
  have c : Calls Try.prog 12 #[.pointer (some ⟨p, 0, none⟩)] w9 fun e w' => e = .returned (.tuple #[.int .i64 3, .int .i64 0]) ∧ ∃ O', Sd w' w1.heap.size p h O' [2, 1, 1] [a0] (one a0 [⟨⟨#[97]⟩, 1, 0⟩]) ∧ Stp O9 O' w9 w' := begin_sd S9.out (by decide) (by decide)
  go_wp2_with fail
  rw [← hW, ← hg]
  clear hW hg
  refine c.mono ?_
  rintro e w10 ⟨rfl, O10, s, f⟩
  have S10 := Lib.hid s; have L10 := Lib.hid (L9.out.trans (S9.out.below f.1)); have V10 := Lib.hid (V9.out.fo S9.out f.1)
  clear s f c
  have c : Calls Try.prog 13 #[.pointer (some ⟨p, 0, none⟩)] w10 fun e w' => ∃ u c, e = .returned (.agg #[.int .i64 4, .slice u 2 c]) ∧ Vo w' (.slice u 2 c) [2, 3] ∧ Kept w10 w' [] := now_sd S10.out
  go_wp2_with fail
  refine c.mono ?_
  rintro e x11 ⟨u11, d11, rfl, vo, hk⟩
  obtain ⟨w11, hW⟩ : ∃ w11, w11 = x11.alloc (.cells #[.int .i64 4, .slice u11 2 d11, .int .i64 3] 37) := ⟨_, rfl⟩
  obtain ⟨g2, hg⟩ : ∃ g2, g2 = x11.heap.size := ⟨_, rfl⟩
  have U11 : Hid (Bv w11 g2 4 3 (.slice u11 2 d11) [2, 3]) := Lib.hid (by rw [hW, hg]; exact Bv.make vo)
  have k : Kept w10 w11 [] := by rw [hW]; exact hk.alloc _
  have S11 := Lib.hid (S10.out.keep k); have L11 := Lib.hid (L10.out.trans (k.below (B := w1.heap.size) S10.out.size (by simp)))
  have V11 := Lib.hid (V10.out.keep k)
  obtain ⟨O11, hO⟩ : ∃ O11, O11 = O10 := ⟨_, rfl⟩
  rw [← hO] at S11
  clear vo hk k c hO
  have y0 : (x11.alloc (.cells #[.int .i64 4, .slice u11 2 d11, .int .i64 3] 37)).cell? ⟨g1, 0, none⟩ = some (.int .i64 3) := by rw [← hW]; exact V11.out.cells.1
  have y1 : (x11.alloc (.cells #[.int .i64 4, .slice u11 2 d11, .int .i64 3] 37)).cell? ⟨g1, 1, none⟩ = some (.slice u9 1 d9) := by rw [← hW]; exact V11.out.cells.2.1
  have y2 : (x11.alloc (.cells #[.int .i64 4, .slice u11 2 d11, .int .i64 3] 37)).cell? ⟨g1, 2, none⟩ = some (.int .i64 2) := by rw [← hW]; exact V11.out.cells.2.2
  have c : Calls Try.prog 17 #[.pointer (some ⟨h, 0, none⟩), .agg #[.int .i64 3, .slice u9 1 d9, .int .i64 2], .agg #[.int .i64 a0, .string ⟨#[98]⟩]] w11 fun e w' => e = .returned (.int .i64 0) ∧ ∃ O', Sd w' w1.heap.size p h O' [2, 1, 1] [a0] (one a0 [⟨⟨#[97]⟩, 1, 2⟩, ⟨⟨#[98]⟩, 2, 0⟩]) ∧ Stp O11 O' w11 w' := update_one S11.out 3 2 u9 1 d9 [2] V11.out.2 (by decide) _ W0.out (by decide)
  go_wp2_with fail
  rw [← hW, ← hg]
  clear hW hg y0 y1 y2
  refine c.mono ?_
  rintro e w12 ⟨rfl, O12, s, f⟩
  have S12 := Lib.hid s; have L12 := Lib.hid (L11.out.trans (S11.out.below f.1)); have U12 := Lib.hid (U11.out.fo S11.out f.1)
  clear s f c
  have c : Calls Try.prog 20 #[.pointer (some ⟨p, 0, none⟩), .int .i64 2] w12 fun e w' => e = .returned (.int .i64 0) ∧ Sd w' w1.heap.size p h O12 [2, 3, 1] [a0] (one a0 [⟨⟨#[97]⟩, 1, 2⟩, ⟨⟨#[98]⟩, 2, 0⟩]) ∧ Stp O12 O12 w12 w' := abort_sd S12.out 2 (by decide) (by decide)
  go_wp2_with fail
  refine c.mono ?_
  rintro e w13 ⟨rfl, s, f⟩
  obtain ⟨O13, hO⟩ : ∃ O13, O13 = O12 := ⟨_, rfl⟩
  rw [← hO] at s
  have S13 := Lib.hid s; have L13 := Lib.hid (L12.out.trans (S12.out.below f.1))
  have U13 := Lib.hid (U12.out.fo S12.out f.1)
  clear s f c hO
  obtain ⟨z0, z1, z2⟩ := U13.out.cells
  have c : Calls Try.prog 18 #[.pointer (some ⟨h, 0, none⟩), .agg #[.int .i64 4, .slice u11 2 d11, .int .i64 3], .int .i64 a0] w13 fun e w' => e = .returned (.int .i64 0) ∧ ∃ O', Sd w' w1.heap.size p h O' [2, 3, 1] [a0] (one a0 [⟨⟨#[97]⟩, 1, 3⟩, ⟨⟨#[98]⟩, 2, 0⟩]) ∧ Stp O13 O' w13 w' := delete_one S13.out 4 3 u11 2 d11 [2, 3] U13.out.2 (by decide) W0.out
  go_wp2_with fail
  refine c.mono ?_
  rintro e w14 ⟨rfl, O14, s, f⟩
  have F14 : Hid (one a0 [⟨⟨#[97]⟩, 1, 3⟩, ⟨⟨#[98]⟩, 2, 0⟩] = one a0 [⟨⟨#[97]⟩, 1, 3⟩, ⟨⟨#[98]⟩, 2, 0⟩]) := Lib.hid rfl
  have S14 := Lib.hid s; have L14 := Lib.hid (L13.out.trans (S13.out.below f.1)); have U14 := Lib.hid (U13.out.fo S13.out f.1)
  clear s f c z0 z1 z2
  obtain ⟨z0, z1, z2⟩ := U14.out.cells
  have c := get_sd S14.out 4 3 u11 2 d11 [2, 3] U14.out.2 a0 W0.out
  obtain ⟨gk, gt, gf, hgt⟩ := getT_form [2, 3, 1] ⟨4, [2, 3], 3⟩ a0 ((one a0 [⟨⟨#[97]⟩, 1, 3⟩, ⟨⟨#[98]⟩, 2, 0⟩]) a0)
  rw [hgt] at c
  clear hgt
  have C := Lib.hid c
  clear c
  go_wp2_with fail
  refine C.out.mono ?_
  rintro e w15 ⟨rfl, hk⟩
  have L15 := Lib.hid (L14.out.trans (hk.below (B := w1.heap.size) S14.out.size (by simp)))
  clear hk C z0 z1 z2
  go_wp2
  go_ret
  exact ⟨rfl, (K1.out.below (Nat.le_refl _) (by simp)).trans ((L15.out.alloc L15.out.size _).mono K1.out.size)⟩

set_option maxHeartbeats 4000000 in
set_option maxRecDepth 100000 in
theorem way012 (a0 a1 a2 a3 : Int) (w0 : (Lit.int .i64 a0).wf = true) (e1 : a1 % 2 = 0) (e1' : a1.tmod 2 = 0) (e2 : a2 % 3 = 1) (e2' : a2.tmod 3 = 1) (e3 : a3 % 3 = 2) (e3' : a3.tmod 3 = 2) (W : World) :
    Calls Try.prog 4 #[.int .i64 a0, .int .u8 a1, .int .u8 a2, .int .u8 a3] W fun e w' => e = .returned (.bool true) ∧ Below W.heap.size W w' := by
  have W0 := Lib.hid w0
  clear w0
  go_enter Try.func4, Try.ntmps4
  go_wp2_with fail
  refine (clash_any W).mono ?_
  rintro e w1 ⟨rfl, hk⟩
  have K1 := Lib.hid hk; clear hk
  go_wp2_with fail
  refine (mnew_any w1).mono ?_
  rintro e w2 ⟨p, b, v1, rfl, hm, hk⟩
  have M2 := Lib.hid hm; have K2 := Lib.hid hk
  clear hm hk
  go_wp2_with fail
  refine (hnew_sd M2.out).mono ?_
  rintro e w3 ⟨h, O3, rfl, s, hk, _⟩
  have S3 := Lib.hid s; have L3 := Lib.hid (show Below w1.heap.size w1 w3 from (K2.out.trans hk (by simp)).below (Nat.le_refl _) (by simp))
  clear s hk
  have c : Calls Try.prog 12 #[.pointer (some ⟨p, 0, none⟩)] w3 fun e w' => e = .returned (.tuple #[.int .i64 1, .int .i64 0]) ∧ ∃ O', Sd w' w1.heap.size p h O' [1] [] (fun _ => []) ∧ Stp O3 O' w3 w' := begin_sd S3.out (by decide) (by decide)
  go_wp2_with fail
  refine c.mono ?_
  rintro e w4 ⟨rfl, O4, s, f⟩
  have S4 := Lib.hid s; have L4 := Lib.hid (L3.out.trans (S3.out.below f.1))
  clear s f c
  have c : Calls Try.prog 13 #[.pointer (some ⟨p, 0, none⟩)] w4 fun e w' => ∃ u c, e = .returned (.agg #[.int .i64 2, .slice u 1 c]) ∧ Vo w' (.slice u 1 c) [1] ∧ Kept w4 w' [] := now_sd S4.out
  go_wp2_with fail
  refine c.mono ?_
  rintro e w5 ⟨u5, d5, rfl, vo, hk⟩
  have S5 := Lib.hid (S4.out.keep hk); have L5 := Lib.hid (L4.out.trans (hk.below (B := w1.heap.size) S4.out.size (by simp))); have V5 := Lib.hid vo
  obtain ⟨O5, hO⟩ : ∃ O5, O5 = O4 := ⟨_, rfl⟩
  rw [← hO] at S5
  clear vo hk c hO
  have c : Calls Try.prog 14 #[.pointer (some ⟨h, 0, none⟩), .agg #[.int .i64 2, .slice u5 1 d5, .int .i64 1], .agg #[.int .i64 a0, .string ⟨#[97]⟩]] w5 fun e w' => e = .returned (.int .i64 0) ∧ ∃ O', Sd w' w1.heap.size p h O' [1] [a0] (one a0 [⟨⟨#[97]⟩, 1, 0⟩]) ∧ Stp O5 O' w5 w' := insert_one S5.out 2 1 u5 1 d5 [1] V5.out (by decide) a0 _ W0.out (by decide)
  go_wp2_with fail
  refine c.mono ?_
  rintro e w6 ⟨rfl, O6, s, f⟩
  have S6 := Lib.hid s; have L6 := Lib.hid (L5.out.trans (S5.out.below f.1))
  clear s f c
  have c : Calls Try.prog 15 #[.pointer (some ⟨p, 0, none⟩), .int .i64 1] w6 fun e w' => e = .returned (.int .i64 0) ∧ Sd w' w1.heap.size p h O6 [2] [a0] (one a0 [⟨⟨#[97]⟩, 1, 0⟩]) ∧ Stp O6 O6 w6 w' := commit_sd S6.out 1 (by decide) (by decide)
  go_wp2_with fail
  refine c.mono ?_
  rintro e w7 ⟨rfl, s, f⟩
  obtain ⟨O7, hO⟩ : ∃ O7, O7 = O6 := ⟨_, rfl⟩
  rw [← hO] at s
  have S7 := Lib.hid s; have L7 := Lib.hid (L6.out.trans (S6.out.below f.1))
  clear s f c hO
  have c : Calls Try.prog 12 #[.pointer (some ⟨p, 0, none⟩)] w7 fun e w' => e = .returned (.tuple #[.int .i64 2, .int .i64 0]) ∧ ∃ O', Sd w' w1.heap.size p h O' [2, 1] [a0] (one a0 [⟨⟨#[97]⟩, 1, 0⟩]) ∧ Stp O7 O' w7 w' := begin_sd S7.out (by decide) (by decide)
  go_wp2_with fail
  refine c.mono ?_
  rintro e w8 ⟨rfl, O8, s, f⟩
  have S8 := Lib.hid s; have L8 := Lib.hid (L7.out.trans (S7.out.below f.1))
  clear s f c
  have c : Calls Try.prog 13 #[.pointer (some ⟨p, 0, none⟩)] w8 fun e w' => ∃ u c, e = .returned (.agg #[.int .i64 3, .slice u 1 c]) ∧ Vo w' (.slice u 1 c) [2] ∧ Kept w8 w' [] := now_sd S8.out
  go_wp2_with fail
  refine c.mono ?_
  rintro e x9 ⟨u9, d9, rfl, vo, hk⟩
  obtain ⟨w9, hW⟩ : ∃ w9, w9 = x9.alloc (.cells #[.int .i64 3, .slice u9 1 d9, .int .i64 2] 37) := ⟨_, rfl⟩
  obtain ⟨g1, hg⟩ : ∃ g1, g1 = x9.heap.size := ⟨_, rfl⟩
  have V9 : Hid (Bv w9 g1 3 2 (.slice u9 1 d9) [2]) := Lib.hid (by rw [hW, hg]; exact Bv.make vo)
  have k : Kept w8 w9 [] := by rw [hW]; exact hk.alloc _
  have S9 := Lib.hid (S8.out.keep k); have L9 := Lib.hid (L8.out.trans (k.below (B := w1.heap.size) S8.out.size (by simp)))
  obtain ⟨O9, hO⟩ : ∃ O9, O9 = O8 := ⟨_, rfl⟩
  rw [← hO] at S9
  clear vo hk k c hO
  have c : Calls Try.prog 12 #[.pointer (some ⟨p, 0, none⟩)] w9 fun e w' => e = .returned (.tuple #[.int .i64 3, .int .i64 0]) ∧ ∃ O', Sd w' w1.heap.size p h O' [2, 1, 1] [a0] (one a0 [⟨⟨#[97]⟩, 1, 0⟩]) ∧ Stp O9 O' w9 w' := begin_sd S9.out (by decide) (by decide)
  go_wp2_with fail
  rw [← hW, ← hg]
  clear hW hg
  refine c.mono ?_
  rintro e w10 ⟨rfl, O10, s, f⟩
  have S10 := Lib.hid s; have L10 := Lib.hid (L9.out.trans (S9.out.below f.1)); have V10 := Lib.hid (V9.out.fo S9.out f.1)
  clear s f c
  have c : Calls Try.prog 13 #[.pointer (some ⟨p, 0, none⟩)] w10 fun e w' => ∃ u c, e = .returned (.agg #[.int .i64 4, .slice u 2 c]) ∧ Vo w' (.slice u 2 c) [2, 3] ∧ Kept w10 w' [] := now_sd S10.out
  go_wp2_with fail
  refine c.mono ?_
  rintro e x11 ⟨u11, d11, rfl, vo, hk⟩
  obtain ⟨w11, hW⟩ : ∃ w11, w11 = x11.alloc (.cells #[.int .i64 4, .slice u11 2 d11, .int .i64 3] 37) := ⟨_, rfl⟩
  obtain ⟨g2, hg⟩ : ∃ g2, g2 = x11.heap.size := ⟨_, rfl⟩
  have U11 : Hid (Bv w11 g2 4 3 (.slice u11 2 d11) [2, 3]) := Lib.hid (by rw [hW, hg]; exact Bv.make vo)
  have k : Kept w10 w11 [] := by rw [hW]; exact hk.alloc _
  have S11 := Lib.hid (S10.out.keep k); have L11 := Lib.hid (L10.out.trans (k.below (B := w1.heap.size) S10.out.size (by simp)))
  have V11 := Lib.hid (V10.out.keep k)
  obtain ⟨O11, hO⟩ : ∃ O11, O11 = O10 := ⟨_, rfl⟩
  rw [← hO] at S11
  clear vo hk k c hO
  have y0 : (x11.alloc (.cells #[.int .i64 4, .slice u11 2 d11, .int .i64 3] 37)).cell? ⟨g1, 0, none⟩ = some (.int .i64 3) := by rw [← hW]; exact V11.out.cells.1
  have y1 : (x11.alloc (.cells #[.int .i64 4, .slice u11 2 d11, .int .i64 3] 37)).cell? ⟨g1, 1, none⟩ = some (.slice u9 1 d9) := by rw [← hW]; exact V11.out.cells.2.1
  have y2 : (x11.alloc (.cells #[.int .i64 4, .slice u11 2 d11, .int .i64 3] 37)).cell? ⟨g1, 2, none⟩ = some (.int .i64 2) := by rw [← hW]; exact V11.out.cells.2.2
  have c : Calls Try.prog 17 #[.pointer (some ⟨h, 0, none⟩), .agg #[.int .i64 3, .slice u9 1 d9, .int .i64 2], .agg #[.int .i64 a0, .string ⟨#[98]⟩]] w11 fun e w' => e = .returned (.int .i64 0) ∧ ∃ O', Sd w' w1.heap.size p h O' [2, 1, 1] [a0] (one a0 [⟨⟨#[97]⟩, 1, 2⟩, ⟨⟨#[98]⟩, 2, 0⟩]) ∧ Stp O11 O' w11 w' := update_one S11.out 3 2 u9 1 d9 [2] V11.out.2 (by decide) _ W0.out (by decide)
  go_wp2_with fail
  rw [← hW, ← hg]
  clear hW hg y0 y1 y2
  refine c.mono ?_
  rintro e w12 ⟨rfl, O12, s, f⟩
  have S12 := Lib.hid s; have L12 := Lib.hid (L11.out.trans (S11.out.below f.1)); have U12 := Lib.hid (U11.out.fo S11.out f.1)
  clear s f c
  obtain ⟨z0, z1, z2⟩ := U12.out.cells
  have c : Calls Try.prog 18 #[.pointer (some ⟨h, 0, none⟩), .agg #[.int .i64 4, .slice u11 2 d11, .int .i64 3], .int .i64 a0] w12 fun e w' => e = .returned (.int .i64 6) ∧ ∃ O', Sd w' w1.heap.size p h O' [2, 1, 1] [a0] (one a0 [⟨⟨#[97]⟩, 1, 2⟩, ⟨⟨#[98]⟩, 2, 0⟩]) ∧ Stp O12 O' w12 w' := delete_one S12.out 4 3 u11 2 d11 [2, 3] U12.out.2 (by decide) W0.out
  go_wp2_with fail
  refine c.mono ?_
  rintro e w13 ⟨rfl, O13, s, f⟩
  have F13 : Hid (one a0 [⟨⟨#[97]⟩, 1, 2⟩, ⟨⟨#[98]⟩, 2, 0⟩] = one a0 [⟨⟨#[97]⟩, 1, 2⟩, ⟨⟨#[98]⟩, 2, 0⟩]) := Lib.hid rfl
  have S13 := Lib.hid s; have L13 := Lib.hid (L12.out.trans (S12.out.below f.1)); have U13 := Lib.hid (U12.out.fo S12.out f.1)
  clear s f c z0 z1 z2
  obtain ⟨z0, z1, z2⟩ := U13.out.cells
  have c := get_sd S13.out 4 3 u11 2 d11 [2, 3] U13.out.2 a0 W0.out
  rw [one_same] at c
  have c' : Calls Try.prog 22 #[.pointer (some ⟨h, 0, none⟩), .agg #[.int .i64 4, .slice u11 2 d11, .int .i64 3], .int .i64 a0] w13 fun e w' => e = .returned (.tuple #[.agg #[.int .i64 a0, .string ⟨#[97]⟩], .bool true]) ∧ Kept w13 w' [] := c
  clear c
  go_wp2_with fail
  refine c'.mono ?_
  rintro e w14 ⟨rfl, hk⟩
  have L14 := Lib.hid (L13.out.trans (hk.below (B := w1.heap.size) S13.out.size (by simp)))
  clear hk c' z0 z1 z2
  go_wp2
  go_ret
  exact ⟨rfl, (K1.out.below (Nat.le_refl _) (by simp)).trans ((L14.out.alloc L14.out.size _).mono K1.out.size)⟩

set_option maxHeartbeats 4000000 in
set_option maxRecDepth 100000 in
theorem way020 (a0 a1 a2 a3 : Int) (w0 : (Lit.int .i64 a0).wf = true) (e1 : a1 % 2 = 0) (e1' : a1.tmod 2 = 0) (e2 : a2 % 3 = 2) (e2' : a2.tmod 3 = 2) (e3 : a3 % 3 = 0) (e3' : a3.tmod 3 = 0) (W : World) :
    Calls Try.prog 4 #[.int .i64 a0, .int .u8 a1, .int .u8 a2, .int .u8 a3] W fun e w' => e = .returned (.bool true) ∧ Below W.heap.size W w' := by
  have W0 := Lib.hid w0
  clear w0
  go_enter Try.func4, Try.ntmps4
  go_wp2_with fail
  refine (clash_any W).mono ?_
  rintro e w1 ⟨rfl, hk⟩
  have K1 := Lib.hid hk; clear hk
  go_wp2_with fail
  refine (mnew_any w1).mono ?_
  rintro e w2 ⟨p, b, v1, rfl, hm, hk⟩
  have M2 := Lib.hid hm; have K2 := Lib.hid hk
  clear hm hk
  go_wp2_with fail
  refine (hnew_sd M2.out).mono ?_
  rintro e w3 ⟨h, O3, rfl, s, hk, _⟩
  have S3 := Lib.hid s; have L3 := Lib.hid (show Below w1.heap.size w1 w3 from (K2.out.trans hk (by simp)).below (Nat.le_refl _) (by simp))
  clear s hk
  have c : Calls Try.prog 12 #[.pointer (some ⟨p, 0, none⟩)] w3 fun e w' => e = .returned (.tuple #[.int .i64 1, .int .i64 0]) ∧ ∃ O', Sd w' w1.heap.size p h O' [1] [] (fun _ => []) ∧ Stp O3 O' w3 w' := begin_sd S3.out (by decide) (by decide)
  go_wp2_with fail
  refine c.mono ?_
  rintro e w4 ⟨rfl, O4, s, f⟩
  have S4 := Lib.hid s; have L4 := Lib.hid (L3.out.trans (S3.out.below f.1))
  clear s f c
  have c : Calls Try.prog 13 #[.pointer (some ⟨p, 0, none⟩)] w4 fun e w' => ∃ u c, e = .returned (.agg #[.int .i64 2, .slice u 1 c]) ∧ Vo w' (.slice u 1 c) [1] ∧ Kept w4 w' [] := now_sd S4.out
  go_wp2_with fail
  refine c.mono ?_
  rintro e w5 ⟨u5, d5, rfl, vo, hk⟩
  have S5 := Lib.hid (S4.out.keep hk); have L5 := Lib.hid (L4.out.trans (hk.below (B := w1.heap.size) S4.out.size (by simp))); have V5 := Lib.hid vo
  obtain ⟨O5, hO⟩ : ∃ O5, O5 = O4 := ⟨_, rfl⟩
  rw [← hO] at S5
  clear vo hk c hO
  have c : Calls Try.prog 14 #[.pointer (some ⟨h, 0, none⟩), .agg #[.int .i64 2, .slice u5 1 d5, .int .i64 1], .agg #[.int .i64 a0, .string ⟨#[97]⟩]] w5 fun e w' => e = .returned (.int .i64 0) ∧ ∃ O', Sd w' w1.heap.size p h O' [1] [a0] (one a0 [⟨⟨#[97]⟩, 1, 0⟩]) ∧ Stp O5 O' w5 w' := insert_one S5.out 2 1 u5 1 d5 [1] V5.out (by decide) a0 _ W0.out (by decide)
  go_wp2_with fail
  refine c.mono ?_
  rintro e w6 ⟨rfl, O6, s, f⟩
  have S6 := Lib.hid s; have L6 := Lib.hid (L5.out.trans (S5.out.below f.1))
  clear s f c
  have c : Calls Try.prog 15 #[.pointer (some ⟨p, 0, none⟩), .int .i64 1] w6 fun e w' => e = .returned (.int .i64 0) ∧ Sd w' w1.heap.size p h O6 [2] [a0] (one a0 [⟨⟨#[97]⟩, 1, 0⟩]) ∧ Stp O6 O6 w6 w' := commit_sd S6.out 1 (by decide) (by decide)
  go_wp2_with fail
  refine c.mono ?_
  rintro e w7 ⟨rfl, s, f⟩
  obtain ⟨O7, hO⟩ : ∃ O7, O7 = O6 := ⟨_, rfl⟩
  rw [← hO] at s
  have S7 := Lib.hid s; have L7 := Lib.hid (L6.out.trans (S6.out.below f.1))
  clear s f c hO
  have c : Calls Try.prog 12 #[.pointer (some ⟨p, 0, none⟩)] w7 fun e w' => e = .returned (.tuple #[.int .i64 2, .int .i64 0]) ∧ ∃ O', Sd w' w1.heap.size p h O' [2, 1] [a0] (one a0 [⟨⟨#[97]⟩, 1, 0⟩]) ∧ Stp O7 O' w7 w' := begin_sd S7.out (by decide) (by decide)
  go_wp2_with fail
  refine c.mono ?_
  rintro e w8 ⟨rfl, O8, s, f⟩
  have S8 := Lib.hid s; have L8 := Lib.hid (L7.out.trans (S7.out.below f.1))
  clear s f c
  have c : Calls Try.prog 13 #[.pointer (some ⟨p, 0, none⟩)] w8 fun e w' => ∃ u c, e = .returned (.agg #[.int .i64 3, .slice u 1 c]) ∧ Vo w' (.slice u 1 c) [2] ∧ Kept w8 w' [] := now_sd S8.out
  go_wp2_with fail
  refine c.mono ?_
  rintro e x9 ⟨u9, d9, rfl, vo, hk⟩
  obtain ⟨w9, hW⟩ : ∃ w9, w9 = x9.alloc (.cells #[.int .i64 3, .slice u9 1 d9, .int .i64 2] 37) := ⟨_, rfl⟩
  obtain ⟨g1, hg⟩ : ∃ g1, g1 = x9.heap.size := ⟨_, rfl⟩
  have V9 : Hid (Bv w9 g1 3 2 (.slice u9 1 d9) [2]) := Lib.hid (by rw [hW, hg]; exact Bv.make vo)
  have k : Kept w8 w9 [] := by rw [hW]; exact hk.alloc _
  have S9 := Lib.hid (S8.out.keep k); have L9 := Lib.hid (L8.out.trans (k.below (B := w1.heap.size) S8.out.size (by simp)))
  obtain ⟨O9, hO⟩ : ∃ O9, O9 = O8 := ⟨_, rfl⟩
  rw [← hO] at S9
  clear vo hk k c hO
  have c : Calls Try.prog 12 #[.pointer (some ⟨p, 0, none⟩)] w9 fun e w' => e = .returned (.tuple #[.int .i64 3, .int .i64 0]) ∧ ∃ O', Sd w' w1.heap.size p h O' [2, 1, 1] [a0] (one a0 [⟨⟨#[97]⟩, 1, 0⟩]) ∧ Stp O9 O' w9 w' := begin_sd S9.out (by decide) (by decide)
  go_wp2_with fail
  rw [← hW, ← hg]
  clear hW hg
  refine c.mono ?_
  rintro e w10 ⟨rfl, O10, s, f⟩
  have S10 := Lib.hid s; have L10 := Lib.hid (L9.out.trans (S9.out.below f.1)); have V10 := Lib.hid (V9.out.fo S9.out f.1)
  clear s f c
  have c : Calls Try.prog 13 #[.pointer (some ⟨p, 0, none⟩)] w10 fun e w' => ∃ u c, e = .returned (.agg #[.int .i64 4, .slice u 2 c]) ∧ Vo w' (.slice u 2 c) [2, 3] ∧ Kept w10 w' [] := now_sd S10.out
  go_wp2_with fail
  refine c.mono ?_
  rintro e x11 ⟨u11, d11, rfl, vo, hk⟩
  obtain ⟨w11, hW⟩ : ∃ w11, w11 = x11.alloc (.cells #[.int .i64 4, .slice u11 2 d11, .int .i64 3] 37) := ⟨_, rfl⟩
  obtain ⟨g2, hg⟩ : ∃ g2, g2 = x11.heap.size := ⟨_, rfl⟩
  have U11 : Hid (Bv w11 g2 4 3 (.slice u11 2 d11) [2, 3]) := Lib.hid (by rw [hW, hg]; exact Bv.make vo)
  have k : Kept w10 w11 [] := by rw [hW]; exact hk.alloc _
  have S11 := Lib.hid (S10.out.keep k); have L11 := Lib.hid (L10.out.trans (k.below (B := w1.heap.size) S10.out.size (by simp)))
  have V11 := Lib.hid (V10.out.keep k)
  obtain ⟨O11, hO⟩ : ∃ O11, O11 = O10 := ⟨_, rfl⟩
  rw [← hO] at S11
  clear vo hk k c hO
  have y0 : (x11.alloc (.cells #[.int .i64 4, .slice u11 2 d11, .int .i64 3] 37)).cell? ⟨g1, 0, none⟩ = some (.int .i64 3) := by rw [← hW]; exact V11.out.cells.1
  have y1 : (x11.alloc (.cells #[.int .i64 4, .slice u11 2 d11, .int .i64 3] 37)).cell? ⟨g1, 1, none⟩ = some (.slice u9 1 d9) := by rw [← hW]; exact V11.out.cells.2.1
  have y2 : (x11.alloc (.cells #[.int .i64 4, .slice u11 2 d11, .int .i64 3] 37)).cell? ⟨g1, 2, none⟩ = some (.int .i64 2) := by rw [← hW]; exact V11.out.cells.2.2
  have c : Calls Try.prog 17 #[.pointer (some ⟨h, 0, none⟩), .agg #[.int .i64 3, .slice u9 1 d9, .int .i64 2], .agg #[.int .i64 a0, .string ⟨#[98]⟩]] w11 fun e w' => e = .returned (.int .i64 0) ∧ ∃ O', Sd w' w1.heap.size p h O' [2, 1, 1] [a0] (one a0 [⟨⟨#[97]⟩, 1, 2⟩, ⟨⟨#[98]⟩, 2, 0⟩]) ∧ Stp O11 O' w11 w' := update_one S11.out 3 2 u9 1 d9 [2] V11.out.2 (by decide) _ W0.out (by decide)
  go_wp2_with fail
  rw [← hW, ← hg]
  clear hW hg y0 y1 y2
  refine c.mono ?_
  rintro e w12 ⟨rfl, O12, s, f⟩
  have S12 := Lib.hid s; have L12 := Lib.hid (L11.out.trans (S11.out.below f.1)); have U12 := Lib.hid (U11.out.fo S11.out f.1)
  clear s f c
  have c : Calls Try.prog 15 #[.pointer (some ⟨p, 0, none⟩), .int .i64 2] w12 fun e w' => e = .returned (.int .i64 0) ∧ Sd w' w1.heap.size p h O12 [2, 2, 1] [a0] (one a0 [⟨⟨#[97]⟩, 1, 2⟩, ⟨⟨#[98]⟩, 2, 0⟩]) ∧ Stp O12 O12 w12 w' := commit_sd S12.out 2 (by decide) (by decide)
  go_wp2_with fail
  refine c.mono ?_
  rintro e w13 ⟨rfl, s, f⟩
  obtain ⟨O13, hO⟩ : ∃ O13, O13 = O12 := ⟨_, rfl⟩
  rw [← hO] at s
  have S13 := Lib.hid s; have L13 := Lib.hid (L12.out.trans (S12.out.below f.1))
  have U13 := Lib.hid (U12.out.fo S12.out f.1)
  clear s f c hO
  obtain ⟨z0, z1, z2⟩ := U13.out.cells
  have c : Calls Try.prog 19 #[.pointer (some ⟨h, 0, none⟩), .agg #[.int .i64 4, .slice u11 2 d11, .int .i64 3]] w13 fun e w' => ∃ u' n' c', e = .returned (.tuple #[.slice u' n' c', .int .i64 6]) ∧ ∃ O' F', Sd w' w1.heap.size p h O' [2, 2, 1] [a0] F' ∧ Stp O13 O' w13 w' ∧ ((6 : Int) ≠ 0 → F' = one a0 [⟨⟨#[97]⟩, 1, 2⟩, ⟨⟨#[98]⟩, 2, 0⟩]) := truncate_one S13.out 4 3 u11 2 d11 [2, 3] U13.out.2 (by decide) (by decide)
  go_wp2_with fail
  refine c.mono ?_
  rintro e w14 ⟨u', n', c', rfl, O14, F', s, f, hF⟩
  obtain rfl := hF (by decide)
  have S14 := Lib.hid s; have L14 := Lib.hid (L13.out.trans (S13.out.below f.1)); have U14 := Lib.hid (U13.out.fo S13.out f.1)
  clear s f c z0 z1 z2
  obtain ⟨z0, z1, z2⟩ := U14.out.cells
  have c := get_sd S14.out 4 3 u11 2 d11 [2, 3] U14.out.2 a0 W0.out
  rw [one_same] at c
  have c' : Calls Try.prog 22 #[.pointer (some ⟨h, 0, none⟩), .agg #[.int .i64 4, .slice u11 2 d11, .int .i64 3], .int .i64 a0] w14 fun e w' => e = .returned (.tuple #[.agg #[.int .i64 a0, .string ⟨#[97]⟩], .bool true]) ∧ Kept w14 w' [] := c
  clear c
  go_wp2_with fail
  refine c'.mono ?_
  rintro e w15 ⟨rfl, hk⟩
  have L15 := Lib.hid (L14.out.trans (hk.below (B := w1.heap.size) S14.out.size (by simp)))
  clear hk c' z0 z1 z2
  go_wp2
  go_ret
  exact ⟨rfl, (K1.out.below (Nat.le_refl _) (by simp)).trans ((L15.out.alloc L15.out.size _).mono K1.out.size)⟩

set_option maxHeartbeats 4000000 in
set_option maxRecDepth 100000 in
theorem way021 (a0 a1 a2 a3 : Int) (w0 : (Lit.int .i64 a0).wf = true) (e1 : a1 % 2 = 0) (e1' : a1.tmod 2 = 0) (e2 : a2 % 3 = 2) (e2' : a2.tmod 3 = 2) (e3 : a3 % 3 = 1) (e3' : a3.tmod 3 = 1) (W : World) :
    Calls Try.prog 4 #[.int .i64 a0, .int .u8 a1, .int .u8 a2, .int .u8 a3] W fun e w' => e = .returned (.bool true) ∧ Below W.heap.size W w' := by
  have W0 := Lib.hid w0
  clear w0
  go_enter Try.func4, Try.ntmps4
  go_wp2_with fail
  refine (clash_any W).mono ?_
  rintro e w1 ⟨rfl, hk⟩
  have K1 := Lib.hid hk; clear hk
  go_wp2_with fail
  refine (mnew_any w1).mono ?_
  rintro e w2 ⟨p, b, v1, rfl, hm, hk⟩
  have M2 := Lib.hid hm; have K2 := Lib.hid hk
  clear hm hk
  go_wp2_with fail
  refine (hnew_sd M2.out).mono ?_
  rintro e w3 ⟨h, O3, rfl, s, hk, _⟩
  have S3 := Lib.hid s; have L3 := Lib.hid (show Below w1.heap.size w1 w3 from (K2.out.trans hk (by simp)).below (Nat.le_refl _) (by simp))
  clear s hk
  have c : Calls Try.prog 12 #[.pointer (some ⟨p, 0, none⟩)] w3 fun e w' => e = .returned (.tuple #[.int .i64 1, .int .i64 0]) ∧ ∃ O', Sd w' w1.heap.size p h O' [1] [] (fun _ => []) ∧ Stp O3 O' w3 w' := begin_sd S3.out (by decide) (by decide)
  go_wp2_with fail
  refine c.mono ?_
  rintro e w4 ⟨rfl, O4, s, f⟩
  have S4 := Lib.hid s; have L4 := Lib.hid (L3.out.trans (S3.out.below f.1))
  clear s f c
  have c : Calls Try.prog 13 #[.pointer (some ⟨p, 0, none⟩)] w4 fun e w' => ∃ u c, e = .returned (.agg #[.int .i64 2, .slice u 1 c]) ∧ Vo w' (.slice u 1 c) [1] ∧ Kept w4 w' [] := now_sd S4.out
  go_wp2_with fail
  refine c.mono ?_
  rintro e w5 ⟨u5, d5, rfl, vo, hk⟩
  have S5 := Lib.hid (S4.out.keep hk); have L5 := Lib.hid (L4.out.trans (hk.below (B := w1.heap.size) S4.out.size (by simp))); have V5 := Lib.hid vo
  obtain ⟨O5, hO⟩ : ∃ O5, O5 = O4 := ⟨_, rfl⟩
  rw [← hO] at S5
  clear vo hk c hO
  have c : Calls Try.prog 14 #[.pointer (some ⟨h, 0, none⟩), .agg #[.int .i64 2, .slice u5 1 d5, .int .i64 1], .agg #[.int .i64 a0, .string ⟨#[97]⟩]] w5 fun e w' => e = .returned (.int .i64 0) ∧ ∃ O', Sd w' w1.heap.size p h O' [1] [a0] (one a0 [⟨⟨#[97]⟩, 1, 0⟩]) ∧ Stp O5 O' w5 w' := insert_one S5.out 2 1 u5 1 d5 [1] V5.out (by decide) a0 _ W0.out (by decide)
  go_wp2_with fail
  refine c.mono ?_
  rintro e w6 ⟨rfl, O6, s, f⟩
  have S6 := Lib.hid s; have L6 := Lib.hid (L5.out.trans (S5.out.below f.1))
  clear s f c
  have c : Calls Try.prog 15 #[.pointer (some ⟨p, 0, none⟩), .int .i64 1] w6 fun e w' => e = .returned (.int .i64 0) ∧ Sd w' w1.heap.size p h O6 [2] [a0] (one a0 [⟨⟨#[97]⟩, 1, 0⟩]) ∧ Stp O6 O6 w6 w' := commit_sd S6.out 1 (by decide) (by decide)
  go_wp2_with fail
  refine c.mono ?_
  rintro e w7 ⟨rfl, s, f⟩
  obtain ⟨O7, hO⟩ : ∃ O7, O7 = O6 := ⟨_, rfl⟩
  rw [← hO] at s
  have S7 := Lib.hid s; have L7 := Lib.hid (L6.out.trans (S6.out.below f.1))
  clear s f c hO
  have c : Calls Try.prog 12 #[.pointer (some ⟨p, 0, none⟩)] w7 fun e w' => e = .returned (.tuple #[.int .i64 2, .int .i64 0]) ∧ ∃ O', Sd w' w1.heap.size p h O' [2, 1] [a0] (one a0 [⟨⟨#[97]⟩, 1, 0⟩]) ∧ Stp O7 O' w7 w' := begin_sd S7.out (by decide) (by decide)
  go_wp2_with fail
  refine c.mono ?_
  rintro e w8 ⟨rfl, O8, s, f⟩
  have S8 := Lib.hid s; have L8 := Lib.hid (L7.out.trans (S7.out.below f.1))
  clear s f c
  have c : Calls Try.prog 13 #[.pointer (some ⟨p, 0, none⟩)] w8 fun e w' => ∃ u c, e = .returned (.agg #[.int .i64 3, .slice u 1 c]) ∧ Vo w' (.slice u 1 c) [2] ∧ Kept w8 w' [] := now_sd S8.out
  go_wp2_with fail
  refine c.mono ?_
  rintro e x9 ⟨u9, d9, rfl, vo, hk⟩
  obtain ⟨w9, hW⟩ : ∃ w9, w9 = x9.alloc (.cells #[.int .i64 3, .slice u9 1 d9, .int .i64 2] 37) := ⟨_, rfl⟩
  obtain ⟨g1, hg⟩ : ∃ g1, g1 = x9.heap.size := ⟨_, rfl⟩
  have V9 : Hid (Bv w9 g1 3 2 (.slice u9 1 d9) [2]) := Lib.hid (by rw [hW, hg]; exact Bv.make vo)
  have k : Kept w8 w9 [] := by rw [hW]; exact hk.alloc _
  have S9 := Lib.hid (S8.out.keep k); have L9 := Lib.hid (L8.out.trans (k.below (B := w1.heap.size) S8.out.size (by simp)))
  obtain ⟨O9, hO⟩ : ∃ O9, O9 = O8 := ⟨_, rfl⟩
  rw [← hO] at S9
  clear vo hk k c hO
  have c : Calls Try.prog 12 #[.pointer (some ⟨p, 0, none⟩)] w9 fun e w' => e = .returned (.tuple #[.int .i64 3, .int .i64 0]) ∧ ∃ O', Sd w' w1.heap.size p h O' [2, 1, 1] [a0] (one a0 [⟨⟨#[97]⟩, 1, 0⟩]) ∧ Stp O9 O' w9 w' := begin_sd S9.out (by decide) (by decide)
  go_wp2_with fail
  rw [← hW, ← hg]
  clear hW hg
  refine c.mono ?_
  rintro e w10 ⟨rfl, O10, s, f⟩
  have S10 := Lib.hid s; have L10 := Lib.hid (L9.out.trans (S9.out.below f.1)); have V10 := Lib.hid (V9.out.fo S9.out f.1)
  clear s f c
  have c : Calls Try.prog 13 #[.pointer (some ⟨p, 0, none⟩)] w10 fun e w' => ∃ u c, e = .returned (.agg #[.int .i64 4, .slice u 2 c]) ∧ Vo w' (.slice u 2 c) [2, 3] ∧ Kept w10 w' [] := now_sd S10.out
  go_wp2_with fail
  refine c.mono ?_
  rintro e x11 ⟨u11, d11, rfl, vo, hk⟩
  obtain ⟨w11, hW⟩ : ∃ w11, w11 = x11.alloc (.cells #[.int .i64 4, .slice u11 2 d11, .int .i64 3] 37) := ⟨_, rfl⟩
  obtain ⟨g2, hg⟩ : ∃ g2, g2 = x11.heap.size := ⟨_, rfl⟩
  have U11 : Hid (Bv w11 g2 4 3 (.slice u11 2 d11) [2, 3]) := Lib.hid (by rw [hW, hg]; exact Bv.make vo)
  have k : Kept w10 w11 [] := by rw [hW]; exact hk.alloc _
  have S11 := Lib.hid (S10.out.keep k); have L11 := Lib.hid (L10.out.trans (k.below (B := w1.heap.size) S10.out.size (by simp)))
  have V11 := Lib.hid (V10.out.keep k)
  obtain ⟨O11, hO⟩ : ∃ O11, O11 = O10 := ⟨_, rfl⟩
  rw [← hO] at S11
  clear vo hk k c hO
  have y0 : (x11.alloc (.cells #[.int .i64 4, .slice u11 2 d11, .int .i64 3] 37)).cell? ⟨g1, 0, none⟩ = some (.int .i64 3) := by rw [← hW]; exact V11.out.cells.1
  have y1 : (x11.alloc (.cells #[.int .i64 4, .slice u11 2 d11, .int .i64 3] 37)).cell? ⟨g1, 1, none⟩ = some (.slice u9 1 d9) := by rw [← hW]; exact V11.out.cells.2.1
  have y2 : (x11.alloc (.cells #[.int .i64 4, .slice u11 2 d11, .int .i64 3] 37)).cell? ⟨g1, 2, none⟩ = some (.int .i64 2) := by rw [← hW]; exact V11.out.cells.2.2
  have c : Calls Try.prog 17 #[.pointer (some ⟨h, 0, none⟩), .agg #[.int .i64 3, .slice u9 1 d9, .int .i64 2], .agg #[.int .i64 a0, .string ⟨#[98]⟩]] w11 fun e w' => e = .returned (.int .i64 0) ∧ ∃ O', Sd w' w1.heap.size p h O' [2, 1, 1] [a0] (one a0 [⟨⟨#[97]⟩, 1, 2⟩, ⟨⟨#[98]⟩, 2, 0⟩]) ∧ Stp O11 O' w11 w' := update_one S11.out 3 2 u9 1 d9 [2] V11.out.2 (by decide) _ W0.out (by decide)
  go_wp2_with fail
  rw [← hW, ← hg]
  clear hW hg y0 y1 y2
  refine c.mono ?_
  rintro e w12 ⟨rfl, O12, s, f⟩
  have S12 := Lib.hid s; have L12 := Lib.hid (L11.out.trans (S11.out.below f.1)); have U12 := Lib.hid (U11.out.fo S11.out f.1)
  clear s f c
  have c : Calls Try.prog 20 #[.pointer (some ⟨p, 0, none⟩), .int .i64 2] w12 fun e w' => e = .returned (.int .i64 0) ∧ Sd w' w1.heap.size p h O12 [2, 3, 1] [a0] (one a0 [⟨⟨#[97]⟩, 1, 2⟩, ⟨⟨#[98]⟩, 2, 0⟩]) ∧ Stp O12 O12 w12 w' := abort_sd S12.out 2 (by decide) (by decide)
  go_wp2_with fail
  refine c.mono ?_
  rintro e w13 ⟨rfl, s, f⟩
  obtain ⟨O13, hO⟩ : ∃ O13, O13 = O12 := ⟨_, rfl⟩
  rw [← hO] at s
  have S13 := Lib.hid s; have L13 := Lib.hid (L12.out.trans (S12.out.below f.1))
  have U13 := Lib.hid (U12.out.fo S12.out f.1)
  clear s f c hO
  obtain ⟨z0, z1, z2⟩ := U13.out.cells
  have c : Calls Try.prog 19 #[.pointer (some ⟨h, 0, none⟩), .agg #[.int .i64 4, .slice u11 2 d11, .int .i64 3]] w13 fun e w' => ∃ u' n' c', e = .returned (.tuple #[.slice u' n' c', .int .i64 0]) ∧ ∃ O' F', Sd w' w1.heap.size p h O' [2, 3, 1] [a0] F' ∧ Stp O13 O' w13 w' ∧ ((0 : Int) ≠ 0 → F' = one a0 [⟨⟨#[97]⟩, 1, 2⟩, ⟨⟨#[98]⟩, 2, 0⟩]) := truncate_one S13.out 4 3 u11 2 d11 [2, 3] U13.out.2 (by decide) (by decide)
  go_wp2_with fail
  refine c.mono ?_
  rintro e w14 ⟨u', n', c', rfl, O14, F', s, f, hF⟩
  clear hF
  have S14 := Lib.hid s; have L14 := Lib.hid (L13.out.trans (S13.out.below f.1)); have U14 := Lib.hid (U13.out.fo S13.out f.1)
  clear s f c z0 z1 z2
  obtain ⟨z0, z1, z2⟩ := U14.out.cells
  have c := get_sd S14.out 4 3 u11 2 d11 [2, 3] U14.out.2 a0 W0.out
  obtain ⟨gk, gt, gf, hgt⟩ := getT_form [2, 3, 1] ⟨4, [2, 3], 3⟩ a0 (F' a0)
  rw [hgt] at c
  clear hgt
  have C := Lib.hid c
  clear c
  go_wp2_with fail
  refine C.out.mono ?_
  rintro e w15 ⟨rfl, hk⟩
  have L15 := Lib.hid (L14.out.trans (hk.below (B := w1.heap.size) S14.out.size (by simp)))
  clear hk C z0 z1 z2
  go_wp2
  go_ret
  exact ⟨rfl, (K1.out.below (Nat.le_refl _) (by simp)).trans ((L15.out.alloc L15.out.size _).mono K1.out.size)⟩

set_option maxHeartbeats 4000000 in
set_option maxRecDepth 100000 in
theorem way022 (a0 a1 a2 a3 : Int) (w0 : (Lit.int .i64 a0).wf = true) (e1 : a1 % 2 = 0) (e1' : a1.tmod 2 = 0) (e2 : a2 % 3 = 2) (e2' : a2.tmod 3 = 2) (e3 : a3 % 3 = 2) (e3' : a3.tmod 3 = 2) (W : World) :
    Calls Try.prog 4 #[.int .i64 a0, .int .u8 a1, .int .u8 a2, .int .u8 a3] W fun e w' => e = .returned (.bool true) ∧ Below W.heap.size W w' := by
  have W0 := Lib.hid w0
  clear w0
  go_enter Try.func4, Try.ntmps4
  go_wp2_with fail
  refine (clash_any W).mono ?_
  rintro e w1 ⟨rfl, hk⟩
  have K1 := Lib.hid hk; clear hk
  go_wp2_with fail
  refine (mnew_any w1).mono ?_
  rintro e w2 ⟨p, b, v1, rfl, hm, hk⟩
  have M2 := Lib.hid hm; have K2 := Lib.hid hk
  clear hm hk
  go_wp2_with fail
  refine (hnew_sd M2.out).mono ?_
  rintro e w3 ⟨h, O3, rfl, s, hk, _⟩
  have S3 := Lib.hid s; have L3 := Lib.hid (show Below w1.heap.size w1 w3 from (K2.out.trans hk (by simp)).below (Nat.le_refl _) (by simp))
  clear s hk
  have c : Calls Try.prog 12 #[.pointer (some ⟨p, 0, none⟩)] w3 fun e w' => e = .returned (.tuple #[.int .i64 1, .int .i64 0]) ∧ ∃ O', Sd w' w1.heap.size p h O' [1] [] (fun _ => []) ∧ Stp O3 O' w3 w' := begin_sd S3.out (by decide) (by decide)
  go_wp2_with fail
  refine c.mono ?_
  rintro e w4 ⟨rfl, O4, s, f⟩
  have S4 := Lib.hid s; have L4 := Lib.hid (L3.out.trans (S3.out.below f.1))
  clear s f c
  have c : Calls Try.prog 13 #[.pointer (some ⟨p, 0, none⟩)] w4 fun e w' => ∃ u c, e = .returned (.agg #[.int .i64 2, .slice u 1 c]) ∧ Vo w' (.slice u 1 c) [1] ∧ Kept w4 w' [] := now_sd S4.out
  go_wp2_with fail
  refine c.mono ?_
  rintro e w5 ⟨u5, d5, rfl, vo, hk⟩
  have S5 := Lib.hid (S4.out.keep hk); have L5 := Lib.hid (L4.out.trans (hk.below (B := w1.heap.size) S4.out.size (by simp))); have V5 := Lib.hid vo
  obtain ⟨O5, hO⟩ : ∃ O5, O5 = O4 := ⟨_, rfl⟩
  rw [← hO] at S5
  clear vo hk c hO
  have c : Calls Try.prog 14 #[.pointer (some ⟨h, 0, none⟩), .agg #[.int .i64 2, .slice u5 1 d5, .int .i64 1], .agg #[.int .i64 a0, .string ⟨#[97]⟩]] w5 fun e w' => e = .returned (.int .i64 0) ∧ ∃ O', Sd w' w1.heap.size p h O' [1] [a0] (one a0 [⟨⟨#[97]⟩, 1, 0⟩]) ∧ Stp O5 O' w5 w' := insert_one S5.out 2 1 u5 1 d5 [1] V5.out (by decide) a0 _ W0.out (by decide)
  go_wp2_with fail
  refine c.mono ?_
  rintro e w6 ⟨rfl, O6, s, f⟩
  have S6 := Lib.hid s; have L6 := Lib.hid (L5.out.trans (S5.out.below f.1))
  clear s f c
  have c : Calls Try.prog 15 #[.pointer (some ⟨p, 0, none⟩), .int .i64 1] w6 fun e w' => e = .returned (.int .i64 0) ∧ Sd w' w1.heap.size p h O6 [2] [a0] (one a0 [⟨⟨#[97]⟩, 1, 0⟩]) ∧ Stp O6 O6 w6 w' := commit_sd S6.out 1 (by decide) (by decide)
  go_wp2_with fail
  refine c.mono ?_
  rintro e w7 ⟨rfl, s, f⟩
  obtain ⟨O7, hO⟩ : ∃ O7, O7 = O6 := ⟨_, rfl⟩
  rw [← hO] at s
  have S7 := Lib.hid s; have L7 := Lib.hid (L6.out.trans (S6.out.below f.1))
  clear s f c hO
  have c : Calls Try.prog 12 #[.pointer (some ⟨p, 0, none⟩)] w7 fun e w' => e = .returned (.tuple #[.int .i64 2, .int .i64 0]) ∧ ∃ O', Sd w' w1.heap.size p h O' [2, 1] [a0] (one a0 [⟨⟨#[97]⟩, 1, 0⟩]) ∧ Stp O7 O' w7 w' := begin_sd S7.out (by decide) (by decide)
  go_wp2_with fail
  refine c.mono ?_
  rintro e w8 ⟨rfl, O8, s, f⟩
  have S8 := Lib.hid s; have L8 := Lib.hid (L7.out.trans (S7.out.below f.1))
  clear s f c
  have c : Calls Try.prog 13 #[.pointer (some ⟨p, 0, none⟩)] w8 fun e w' => ∃ u c, e = .returned (.agg #[.int .i64 3, .slice u 1 c]) ∧ Vo w' (.slice u 1 c) [2] ∧ Kept w8 w' [] := now_sd S8.out
  go_wp2_with fail
  refine c.mono ?_
  rintro e x9 ⟨u9, d9, rfl, vo, hk⟩
  obtain ⟨w9, hW⟩ : ∃ w9, w9 = x9.alloc (.cells #[.int .i64 3, .slice u9 1 d9, .int .i64 2] 37) := ⟨_, rfl⟩
  obtain ⟨g1, hg⟩ : ∃ g1, g1 = x9.heap.size := ⟨_, rfl⟩
  have V9 : Hid (Bv w9 g1 3 2 (.slice u9 1 d9) [2]) := Lib.hid (by rw [hW, hg]; exact Bv.make vo)
  have k : Kept w8 w9 [] := by rw [hW]; exact hk.alloc _
  have S9 := Lib.hid (S8.out.keep k); have L9 := Lib.hid (L8.out.trans (k.below (B := w1.heap.size) S8.out.size (by simp)))
  obtain ⟨O9, hO⟩ : ∃ O9, O9 = O8 := ⟨_, rfl⟩
  rw [← hO] at S9
  clear vo hk k c hO
  have c : Calls Try.prog 12 #[.pointer (some ⟨p, 0, none⟩)] w9 fun e w' => e = .returned (.tuple #[.int .i64 3, .int .i64 0]) ∧ ∃ O', Sd w' w1.heap.size p h O' [2, 1, 1] [a0] (one a0 [⟨⟨#[97]⟩, 1, 0⟩]) ∧ Stp O9 O' w9 w' := begin_sd S9.out (by decide) (by decide)
  go_wp2_with fail
  rw [← hW, ← hg]
  clear hW hg
  refine c.mono ?_
  rintro e w10 ⟨rfl, O10, s, f⟩
  have S10 := Lib.hid s; have L10 := Lib.hid (L9.out.trans (S9.out.below f.1)); have V10 := Lib.hid (V9.out.fo S9.out f.1)
  clear s f c
  have c : Calls Try.prog 13 #[.pointer (some ⟨p, 0, none⟩)] w10 fun e w' => ∃ u c, e = .returned (.agg #[.int .i64 4, .slice u 2 c]) ∧ Vo w' (.slice u 2 c) [2, 3] ∧ Kept w10 w' [] := now_sd S10.out
  go_wp2_with fail
  refine c.mono ?_
  rintro e x11 ⟨u11, d11, rfl, vo, hk⟩
  obtain ⟨w11, hW⟩ : ∃ w11, w11 = x11.alloc (.cells #[.int .i64 4, .slice u11 2 d11, .int .i64 3] 37) := ⟨_, rfl⟩
  obtain ⟨g2, hg⟩ : ∃ g2, g2 = x11.heap.size := ⟨_, rfl⟩
  have U11 : Hid (Bv w11 g2 4 3 (.slice u11 2 d11) [2, 3]) := Lib.hid (by rw [hW, hg]; exact Bv.make vo)
  have k : Kept w10 w11 [] := by rw [hW]; exact hk.alloc _
  have S11 := Lib.hid (S10.out.keep k); have L11 := Lib.hid (L10.out.trans (k.below (B := w1.heap.size) S10.out.size (by simp)))
  have V11 := Lib.hid (V10.out.keep k)
  obtain ⟨O11, hO⟩ : ∃ O11, O11 = O10 := ⟨_, rfl⟩
  rw [← hO] at S11
  clear vo hk k c hO
  have y0 : (x11.alloc (.cells #[.int .i64 4, .slice u11 2 d11, .int .i64 3] 37)).cell? ⟨g1, 0, none⟩ = some (.int .i64 3) := by rw [← hW]; exact V11.out.cells.1
  have y1 : (x11.alloc (.cells #[.int .i64 4, .slice u11 2 d11, .int .i64 3] 37)).cell? ⟨g1, 1, none⟩ = some (.slice u9 1 d9) := by rw [← hW]; exact V11.out.cells.2.1
  have y2 : (x11.alloc (.cells #[.int .i64 4, .slice u11 2 d11, .int .i64 3] 37)).cell? ⟨g1, 2, none⟩ = some (.int .i64 2) := by rw [← hW]; exact V11.out.cells.2.2
  have c : Calls Try.prog 17 #[.pointer (some ⟨h, 0, none⟩), .agg #[.int .i64 3, .slice u9 1 d9, .int .i64 2], .agg #[.int .i64 a0, .string ⟨#[98]⟩]] w11 fun e w' => e = .returned (.int .i64 0) ∧ ∃ O', Sd w' w1.heap.size p h O' [2, 1, 1] [a0] (one a0 [⟨⟨#[97]⟩, 1, 2⟩, ⟨⟨#[98]⟩, 2, 0⟩]) ∧ Stp O11 O' w11 w' := update_one S11.out 3 2 u9 1 d9 [2] V11.out.2 (by decide) _ W0.out (by decide)
  go_wp2_with fail
  rw [← hW, ← hg]
  clear hW hg y0 y1 y2
  refine c.mono ?_
  rintro e w12 ⟨rfl, O12, s, f⟩
  have S12 := Lib.hid s; have L12 := Lib.hid (L11.out.trans (S11.out.below f.1)); have U12 := Lib.hid (U11.out.fo S11.out f.1)
  clear s f c
  obtain ⟨z0, z1, z2⟩ := U12.out.cells
  have c : Calls Try.prog 19 #[.pointer (some ⟨h, 0, none⟩), .agg #[.int .i64 4, .slice u11 2 d11, .int .i64 3]] w12 fun e w' => ∃ u' n' c', e = .returned (.tuple #[.slice u' n' c', .int .i64 6]) ∧ ∃ O' F', Sd w' w1.heap.size p h O' [2, 1, 1] [a0] F' ∧ Stp O12 O' w12 w' ∧ ((6 : Int) ≠ 0 → F' = one a0 [⟨⟨#[97]⟩, 1, 2⟩, ⟨⟨#[98]⟩, 2, 0⟩]) := truncate_one S12.out 4 3 u11 2 d11 [2, 3] U12.out.2 (by decide) (by decide)
  go_wp2_with fail
  refine c.mono ?_
  rintro e w13 ⟨u', n', c', rfl, O13, F', s, f, hF⟩
  obtain rfl := hF (by decide)
  have S13 := Lib.hid s; have L13 := Lib.hid (L12.out.trans (S12.out.below f.1)); have U13 := Lib.hid (U12.out.fo S12.out f.1)
  clear s f c z0 z1 z2
  obtain ⟨z0, z1, z2⟩ := U13.out.cells
  have c := get_sd S13.out 4 3 u11 2 d11 [2, 3] U13.out.2 a0 W0.out
  rw [one_same] at c
  have c' : Calls Try.prog 22 #[.pointer (some ⟨h, 0, none⟩), .agg #[.int .i64 4, .slice u11 2 d11, .int .i64 3], .int .i64 a0] w13 fun e w' => e = .returned (.tuple #[.agg #[.int .i64 a0, .string ⟨#[97]⟩], .bool true]) ∧ Kept w13 w' [] := c
  clear c
  go_wp2_with fail
  refine c'.mono ?_
  rintro e w14 ⟨rfl, hk⟩
  have L14 := Lib.hid (L13.out.trans (hk.below (B := w1.heap.size) S13.out.size (by simp)))
  clear hk c' z0 z1 z2
  go_wp2
  go_ret
  exact ⟨rfl, (K1.out.below (Nat.le_refl _) (by simp)).trans ((L14.out.alloc L14.out.size _).mono K1.out.size)⟩

set_option maxHeartbeats 4000000 in
set_option maxRecDepth 100000 in
theorem way100 (a0 a1 a2 a3 : Int) (w0 : (Lit.int .i64 a0).wf = true) (e1 : a1 % 2 = 1) (e1' : a1.tmod 2 = 1) (e2 : a2 % 3 = 0) (e2' : a2.tmod 3 = 0) (e3 : a3 % 3 = 0) (e3' : a3.tmod 3 = 0) (W : World) :
    Calls Try.prog 4 #[.int .i64 a0, .int .u8 a1, .int .u8 a2, .int .u8 a3] W fun e w' => e = .returned (.bool true) ∧ Below W.heap.size W w' := by
  have W0 := Lib.hid w0
  clear w0
  go_enter Try.func4, Try.ntmps4
  go_wp2_with fail
  refine (clash_any W).mono ?_
  rintro e w1 ⟨rfl, hk⟩
  have K1 := Lib.hid hk; clear hk
  go_wp2_with fail
  refine (mnew_any w1).mono ?_
  rintro e w2 ⟨p, b, v1, rfl, hm, hk⟩
  have M2 := Lib.hid hm; have K2 := Lib.hid hk
  clear hm hk
  go_wp2_with fail
  refine (hnew_sd M2.out).mono ?_
  rintro e w3 ⟨h, O3, rfl, s, hk, _⟩
  have S3 := Lib.hid s; have L3 := Lib.hid (show Below w1.heap.size w1 w3 from (K2.out.trans hk (by simp)).below (Nat.le_refl _) (by simp))
  clear s hk
  have c : Calls Try.prog 12 #[.pointer (some ⟨p, 0, none⟩)] w3 fun e w' => e = .returned (.tuple #[.int .i64 1, .int .i64 0]) ∧ ∃ O', Sd w' w1.heap.size p h O' [1] [] (fun _ => []) ∧ Stp O3 O' w3 w' := begin_sd S3.out (by decide) (by decide)
  go_wp2_with fail
  refine c.mono ?_
  rintro e w4 ⟨rfl, O4, s, f⟩
  have S4 := Lib.hid s; have L4 := Lib.hid (L3.out.trans (S3.out.below f.1))
  clear s f c
  have c : Calls Try.prog 13 #[.pointer (some ⟨p, 0, none⟩)] w4 fun e w' => ∃ u c, e = .returned (.agg #[.int .i64 2, .slice u 1 c]) ∧ Vo w' (.slice u 1 c) [1] ∧ Kept w4 w' [] := now_sd S4.out
  go_wp2_with fail
  refine c.mono ?_
  rintro e w5 ⟨u5, d5, rfl, vo, hk⟩
  have S5 := Lib.hid (S4.out.keep hk); have L5 := Lib.hid (L4.out.trans (hk.below (B := w1.heap.size) S4.out.size (by simp))); have V5 := Lib.hid vo
  obtain ⟨O5, hO⟩ : ∃ O5, O5 = O4 := ⟨_, rfl⟩
  rw [← hO] at S5
  clear vo hk c hO
  have c : Calls Try.prog 14 #[.pointer (some ⟨h, 0, none⟩), .agg #[.int .i64 2, .slice u5 1 d5, .int .i64 1], .agg #[.int .i64 a0, .string ⟨#[97]⟩]] w5 fun e w' => e = .returned (.int .i64 0) ∧ ∃ O', Sd w' w1.heap.size p h O' [1] [a0] (one a0 [⟨⟨#[97]⟩, 1, 0⟩]) ∧ Stp O5 O' w5 w' := insert_one S5.out 2 1 u5 1 d5 [1] V5.out (by decide) a0 _ W0.out (by decide)
  go_wp2_with fail
  refine c.mono ?_
  rintro e w6 ⟨rfl, O6, s, f⟩
  have S6 := Lib.hid s; have L6 := Lib.hid (L5.out.trans (S5.out.below f.1))
  clear s f c
  have c : Calls Try.prog 15 #[.pointer (some ⟨p, 0, none⟩), .int .i64 1] w6 fun e w' => e = .returned (.int .i64 0) ∧ Sd w' w1.heap.size p h O6 [2] [a0] (one a0 [⟨⟨#[97]⟩, 1, 0⟩]) ∧ Stp O6 O6 w6 w' := commit_sd S6.out 1 (by decide) (by decide)
  go_wp2_with fail
  refine c.mono ?_
  rintro e w7 ⟨rfl, s, f⟩
  obtain ⟨O7, hO⟩ : ∃ O7, O7 = O6 := ⟨_, rfl⟩
  rw [← hO] at s
  have S7 := Lib.hid s; have L7 := Lib.hid (L6.out.trans (S6.out.below f.1))
  clear s f c hO
  have c : Calls Try.prog 12 #[.pointer (some ⟨p, 0, none⟩)] w7 fun e w' => e = .returned (.tuple #[.int .i64 2, .int .i64 0]) ∧ ∃ O', Sd w' w1.heap.size p h O' [2, 1] [a0] (one a0 [⟨⟨#[97]⟩, 1, 0⟩]) ∧ Stp O7 O' w7 w' := begin_sd S7.out (by decide) (by decide)
  go_wp2_with fail
  refine c.mono ?_
  rintro e w8 ⟨rfl, O8, s, f⟩
  have S8 := Lib.hid s; have L8 := Lib.hid (L7.out.trans (S7.out.below f.1))
  clear s f c
  have c : Calls Try.prog 13 #[.pointer (some ⟨p, 0, none⟩)] w8 fun e w' => ∃ u c, e = .returned (.agg #[.int .i64 3, .slice u 1 c]) ∧ Vo w' (.slice u 1 c) [2] ∧ Kept w8 w' [] := now_sd S8.out
  go_wp2_with fail
  refine c.mono ?_
  rintro e x9 ⟨u9, d9, rfl, vo, hk⟩
  obtain ⟨w9, hW⟩ : ∃ w9, w9 = x9.alloc (.cells #[.int .i64 3, .slice u9 1 d9, .int .i64 2] 37) := ⟨_, rfl⟩
  obtain ⟨g1, hg⟩ : ∃ g1, g1 = x9.heap.size := ⟨_, rfl⟩
  have V9 : Hid (Bv w9 g1 3 2 (.slice u9 1 d9) [2]) := Lib.hid (by rw [hW, hg]; exact Bv.make vo)
  have k : Kept w8 w9 [] := by rw [hW]; exact hk.alloc _
  have S9 := Lib.hid (S8.out.keep k); have L9 := Lib.hid (L8.out.trans (k.below (B := w1.heap.size) S8.out.size (by simp)))
  obtain ⟨O9, hO⟩ : ∃ O9, O9 = O8 := ⟨_, rfl⟩
  rw [← hO] at S9
  clear vo hk k c hO
  have c : Calls Try.prog 12 #[.pointer (some ⟨p, 0, none⟩)] w9 fun e w' => e = .returned (.tuple #[.int .i64 3, .int .i64 0]) ∧ ∃ O', Sd w' w1.heap.size p h O' [2, 1, 1] [a0] (one a0 [⟨⟨#[97]⟩, 1, 0⟩]) ∧ Stp O9 O' w9 w' := begin_sd S9.out (by decide) (by decide)
  go_wp2_with fail
  rw [← hW, ← hg]
  clear hW hg
  refine c.mono ?_
  rintro e w10 ⟨rfl, O10, s, f⟩
  have S10 := Lib.hid s; have L10 := Lib.hid (L9.out.trans (S9.out.below f.1)); have V10 := Lib.hid (V9.out.fo S9.out f.1)
  clear s f c
  have c : Calls Try.prog 13 #[.pointer (some ⟨p, 0, none⟩)] w10 fun e w' => ∃ u c, e = .returned (.agg #[.int .i64 4, .slice u 2 c]) ∧ Vo w' (.slice u 2 c) [2, 3] ∧ Kept w10 w' [] := now_sd S10.out
  go_wp2_with fail
  refine c.mono ?_
  rintro e x11 ⟨u11, d11, rfl, vo, hk⟩
  obtain ⟨w11, hW⟩ : ∃ w11, w11 = x11.alloc (.cells #[.int .i64 4, .slice u11 2 d11, .int .i64 3] 37) := ⟨_, rfl⟩
  obtain ⟨g2, hg⟩ : ∃ g2, g2 = x11.heap.size := ⟨_, rfl⟩
  have U11 : Hid (Bv w11 g2 4 3 (.slice u11 2 d11) [2, 3]) := Lib.hid (by rw [hW, hg]; exact Bv.make vo)
  have k : Kept w10 w11 [] := by rw [hW]; exact hk.alloc _
  have S11 := Lib.hid (S10.out.keep k); have L11 := Lib.hid (L10.out.trans (k.below (B := w1.heap.size) S10.out.size (by simp)))
  have V11 := Lib.hid (V10.out.keep k)
  obtain ⟨O11, hO⟩ : ∃ O11, O11 = O10 := ⟨_, rfl⟩
  rw [← hO] at S11
  clear vo hk k c hO
  have y0 : (x11.alloc (.cells #[.int .i64 4, .slice u11 2 d11, .int .i64 3] 37)).cell? ⟨g1, 0, none⟩ = some (.int .i64 3) := by rw [← hW]; exact V11.out.cells.1
  have y1 : (x11.alloc (.cells #[.int .i64 4, .slice u11 2 d11, .int .i64 3] 37)).cell? ⟨g1, 1, none⟩ = some (.slice u9 1 d9) := by rw [← hW]; exact V11.out.cells.2.1
  have y2 : (x11.alloc (.cells #[.int .i64 4, .slice u11 2 d11, .int .i64 3] 37)).cell? ⟨g1, 2, none⟩ = some (.int .i64 2) := by rw [← hW]; exact V11.out.cells.2.2
  have c : Calls Try.prog 18 #[.pointer (some ⟨h, 0, none⟩), .agg #[.int .i64 3, .slice u9 1 d9, .int .i64 2], .int .i64 a0] w11 fun e w' => e = .returned (.int .i64 0) ∧ ∃ O', Sd w' w1.heap.size p h O' [2, 1, 1] [a0] (one a0 [⟨⟨#[97]⟩, 1, 2⟩]) ∧ Stp O11 O' w11 w' := delete_one S11.out 3 2 u9 1 d9 [2] V11.out.2 (by decide) W0.out
  go_wp2_with fail
  rw [← hW, ← hg]
  clear hW hg y0 y1 y2
  refine c.mono ?_
  rintro e w12 ⟨rfl, O12, s, f⟩
  have S12 := Lib.hid s; have L12 := Lib.hid (L11.out.trans (S11.out.below f.1)); have U12 := Lib.hid (U11.out.fo S11.out f.1)
  clear s f c
  have c : Calls Try.prog 15 #[.pointer (some ⟨p, 0, none⟩), .int .i64 2] w12 fun e w' => e = .returned (.int .i64 0) ∧ Sd w' w1.heap.size p h O12 [2, 2, 1] [a0] (one a0 [⟨⟨#[97]⟩, 1, 2⟩]) ∧ Stp O12 O12 w12 w' := commit_sd S12.out 2 (by decide) (by decide)
  go_wp2_with fail
  refine c.mono ?_
  rintro e w13 ⟨rfl, s, f⟩
  obtain ⟨O13, hO⟩ : ∃ O13, O13 = O12 := ⟨_, rfl⟩
  rw [← hO] at s
  have S13 := Lib.hid s; have L13 := Lib.hid (L12.out.trans (S12.out.below f.1))
  have U13 := Lib.hid (U12.out.fo S12.out f.1)
  clear s f c hO
  obtain ⟨z0, z1, z2⟩ := U13.out.cells
  have c : Calls Try.prog 17 #[.pointer (some ⟨h, 0, none⟩), .agg #[.int .i64 4, .slice u11 2 d11, .int .i64 3], .agg #[.int .i64 a0, .string ⟨#[99]⟩]] w13 fun e w' => e = .returned (.int .i64 6) ∧ ∃ O', Sd w' w1.heap.size p h O' [2, 2, 1] [a0] (one a0 [⟨⟨#[97]⟩, 1, 2⟩]) ∧ Stp O13 O' w13 w' := update_one S13.out 4 3 u11 2 d11 [2, 3] U13.out.2 (by decide) _ W0.out (by decide)
  go_wp2_with fail
  refine c.mono ?_
  rintro e w14 ⟨rfl, O14, s, f⟩
  have F14 : Hid (one a0 [⟨⟨#[97]⟩, 1, 2⟩] = one a0 [⟨⟨#[97]⟩, 1, 2⟩]) := Lib.hid rfl
  have S14 := Lib.hid s; have L14 := Lib.hid (L13.out.trans (S13.out.below f.1)); have U14 := Lib.hid (U13.out.fo S13.out f.1)
  clear s f c z0 z1 z2
  obtain ⟨z0, z1, z2⟩ := U14.out.cells
  have c := get_sd S14.out 4 3 u11 2 d11 [2, 3] U14.out.2 a0 W0.out
  rw [one_same] at c
  have c' : Calls Try.prog 22 #[.pointer (some ⟨h, 0, none⟩), .agg #[.int .i64 4, .slice u11 2 d11, .int .i64 3], .int .i64 a0] w14 fun e w' => e = .returned (.tuple #[.agg #[.int .i64 a0, .string ⟨#[97]⟩], .bool true]) ∧ Kept w14 w' [] := c
  clear c
  go_wp2_with fail
  refine c'.mono ?_
  rintro e w15 ⟨rfl, hk⟩
  have L15 := Lib.hid (L14.out.trans (hk.below (B := w1.heap.size) S14.out.size (by simp)))
  clear hk c' z0 z1 z2
  go_wp2
  go_ret
  exact ⟨rfl, (K1.out.below (Nat.le_refl _) (by simp)).trans ((L15.out.alloc L15.out.size _).mono K1.out.size)⟩

set_option maxHeartbeats 4000000 in
set_option maxRecDepth 100000 in
theorem way101 (a0 a1 a2 a3 : Int) (w0 : (Lit.int .i64 a0).wf = true) (e1 : a1 % 2 = 1) (e1' : a1.tmod 2 = 1) (e2 : a2 % 3 = 0) (e2' : a2.tmod 3 = 0) (e3 : a3 % 3 = 1) (e3' : a3.tmod 3 = 1) (W : World) :
    Calls Try.prog 4 #[.int .i64 a0, .int .u8 a1, .int .u8 a2, .int .u8 a3] W fun e w' => e = .returned (.bool true) ∧ Below W.heap.size W w' := by
  have W0 := Lib.hid w0
  clear w0
  go_enter Try.func4, Try.ntmps4
  go_wp2_with fail
  refine (clash_any W).mono ?_
  rintro e w1 ⟨rfl, hk⟩
  have K1 := Lib.hid hk; clear hk
  go_wp2_with fail
  refine (mnew_any w1).mono ?_
  rintro e w2 ⟨p, b, v1, rfl, hm, hk⟩
  have M2 := Lib.hid hm; have K2 := Lib.hid hk
  clear hm hk
  go_wp2_with fail
  refine (hnew_sd M2.out).mono ?_
  rintro e w3 ⟨h, O3, rfl, s, hk, _⟩
  have S3 := Lib.hid s; have L3 := Lib.hid (show Below w1.heap.size w1 w3 from (K2.out.trans hk (by simp)).below (Nat.le_refl _) (by simp))
  clear s hk
  have c : Calls Try.prog 12 #[.pointer (some ⟨p, 0, none⟩)] w3 fun e w' => e = .returned (.tuple #[.int .i64 1, .int .i64 0]) ∧ ∃ O', Sd w' w1.heap.size p h O' [1] [] (fun _ => []) ∧ Stp O3 O' w3 w' := begin_sd S3.out (by decide) (by decide)
  go_wp2_with fail
  refine c.mono ?_
  rintro e w4 ⟨rfl, O4, s, f⟩
  have S4 := Lib.hid s; have L4 := Lib.hid (L3.out.trans (S3.out.below f.1))
  clear s f c
  have c : Calls Try.prog 13 #[.pointer (some ⟨p, 0, none⟩)] w4 fun e w' => ∃ u c, e = .returned (.agg #[.int .i64 2, .slice u 1 c]) ∧ Vo w' (.slice u 1 c) [1] ∧ Kept w4 w' [] := now_sd S4.out
  go_wp2_with fail
  refine c.mono ?_
  rintro e w5 ⟨u5, d5, rfl, vo, hk⟩
  have S5 := Lib.hid (S4.out.keep hk); have L5 := Lib.hid (L4.out.trans (hk.below (B := w1.heap.size) S4.out.size (by simp))); have V5 := Lib.hid vo
  obtain ⟨O5, hO⟩ : ∃ O5, O5 = O4 := ⟨_, rfl⟩
  rw [← hO] at S5
  clear vo hk c hO
  have c : Calls Try.prog 14 #[.pointer (some ⟨h, 0, none⟩), .agg #[.int .i64 2, .slice u5 1 d5, .int .i64 1], .agg #[.int .i64 a0, .string ⟨#[97]⟩]] w5 fun e w' => e = .returned (.int .i64 0) ∧ ∃ O', Sd w' w1.heap.size p h O' [1] [a0] (one a0 [⟨⟨#[97]⟩, 1, 0⟩]) ∧ Stp O5 O' w5 w' := insert_one S5.out 2 1 u5 1 d5 [1] V5.out (by decide) a0 _ W0.out (by decide)
  go_wp2_with fail
  refine c.mono ?_
  rintro e w6 ⟨rfl, O6, s, f⟩
  have S6 := Lib.hid s; have L6 := Lib.hid (L5.out.trans (S5.out.below f.1))
  clear s f c
  have c : Calls Try.prog 15 #[.pointer (some ⟨p, 0, none⟩), .int .i64 1] w6 fun e w' => e = .returned (.int .i64 0) ∧ Sd w' w1.heap.size p h O6 [2] [a0] (one a0 [⟨⟨#[97]⟩, 1, 0⟩]) ∧ Stp O6 O6 w6 w' := commit_sd S6.out 1 (by decide) (by decide)
  go_wp2_with fail
  refine c.mono ?_
  rintro e w7 ⟨rfl, s, f⟩
  obtain ⟨O7, hO⟩ : ∃ O7, O7 = O6 := ⟨_, rfl⟩
  rw [← hO] at s
  have S7 := Lib.hid s; have L7 := Lib.hid (L6.out.trans (S6.out.below f.1))
  clear s f c hO
  have c : Calls Try.prog 12 #[.pointer (some ⟨p, 0, none⟩)] w7 fun e w' => e = .returned (.tuple #[.int .i64 2, .int .i64 0]) ∧ ∃ O', Sd w' w1.heap.size p h O' [2, 1] [a0] (one a0 [⟨⟨#[97]⟩, 1, 0⟩]) ∧ Stp O7 O' w7 w' := begin_sd S7.out (by decide) (by decide)
  go_wp2_with fail
  refine c.mono ?_
  rintro e w8 ⟨rfl, O8, s, f⟩
  have S8 := Lib.hid s; have L8 := Lib.hid (L7.out.trans (S7.out.below f.1))
  clear s f c
  have c : Calls Try.prog 13 #[.pointer (some ⟨p, 0, none⟩)] w8 fun e w' => ∃ u c, e = .returned (.agg #[.int .i64 3, .slice u 1 c]) ∧ Vo w' (.slice u 1 c) [2] ∧ Kept w8 w' [] := now_sd S8.out
  go_wp2_with fail
  refine c.mono ?_
  rintro e x9 ⟨u9, d9, rfl, vo, hk⟩
  obtain ⟨w9, hW⟩ : ∃ w9, w9 = x9.alloc (.cells #[.int .i64 3, .slice u9 1 d9, .int .i64 2] 37) := ⟨_, rfl⟩
  obtain ⟨g1, hg⟩ : ∃ g1, g1 = x9.heap.size := ⟨_, rfl⟩
  have V9 : Hid (Bv w9 g1 3 2 (.slice u9 1 d9) [2]) := Lib.hid (by rw [hW, hg]; exact Bv.make vo)
  have k : Kept w8 w9 [] := by rw [hW]; exact hk.alloc _
  have S9 := Lib.hid (S8.out.keep k); have L9 := Lib.hid (L8.out.trans (k.below (B := w1.heap.size) S8.out.size (by simp)))
  obtain ⟨O9, hO⟩ : ∃ O9, O9 = O8 := ⟨_, rfl⟩
  rw [← hO] at S9
  clear vo hk k c hO
  have c : Calls Try.prog 12 #[.pointer (some ⟨p, 0, none⟩)] w9 fun e w' => e = .returned (.tuple #[.int .i64 3, .int .i64 0]) ∧ ∃ O', Sd w' w1.heap.size p h O' [2, 1, 1] [a0] (one a0 [⟨⟨#[97]⟩, 1, 0⟩]) ∧ Stp O9 O' w9 w' := begin_sd S9.out (by decide) (by decide)
  go_wp2_with fail
  rw [← hW, ← hg]
  clear hW hg
  refine c.mono ?_
  rintro e w10 ⟨rfl, O10, s, f⟩
  have S10 := Lib.hid s; have L10 := Lib.hid (L9.out.trans (S9.out.below f.1)); have V10 := Lib.hid (V9.out.fo S9.out f.1)
  clear s f c
  have c : Calls Try.prog 13 #[.pointer (some ⟨p, 0, none⟩)] w10 fun e w' => ∃ u c, e = .returned (.agg #[.int .i64 4, .slice u 2 c]) ∧ Vo w' (.slice u 2 c) [2, 3] ∧ Kept w10 w' [] := now_sd S10.out
  go_wp2_with fail
  refine c.mono ?_
  rintro e x11 ⟨u11, d11, rfl, vo, hk⟩
  obtain ⟨w11, hW⟩ : ∃ w11, w11 = x11.alloc (.cells #[.int .i64 4, .slice u11 2 d11, .int .i64 3] 37) := ⟨_, rfl⟩
  obtain ⟨g2, hg⟩ : ∃ g2, g2 = x11.heap.size := ⟨_, rfl⟩
  have U11 : Hid (Bv w11 g2 4 3 (.slice u11 2 d11) [2, 3]) := Lib.hid (by rw [hW, hg]; exact Bv.make vo)
  have k : Kept w10 w11 [] := by rw [hW]; exact hk.alloc _
  have S11 := Lib.hid (S10.out.keep k); have L11 := Lib.hid (L10.out.trans (k.below (B := w1.heap.size) S10.out.size (by simp)))
  have V11 := Lib.hid (V10.out.keep k)
  obtain ⟨O11, hO⟩ : ∃ O11, O11 = O10 := ⟨_, rfl⟩
  rw [← hO] at S11
  clear vo hk k c hO
  have y0 : (x11.alloc (.cells #[.int .i64 4, .slice u11 2 d11, .int .i64 3] 37)).cell? ⟨g1, 0, none⟩ = some (.int .i64 3) := by rw [← hW]; exact V11.out.cells.1
  have y1 : (x11.alloc (.cells #[.int .i64 4, .slice u11 2 d11, .int .i64 3] 37)).cell? ⟨g1, 1, none⟩ = some (.slice u9 1 d9) := by rw [← hW]; exact V11.out.cells.2.1
  have y2 : (x11.alloc (.cells #[.int .i64 4, .slice u11 2 d11, .int .i64 3] 37)).cell? ⟨g1, 2, none⟩ = some (.int .i64 2) := by rw [← hW]; exact V11.out.cells.2.2
  have c : Calls Try.prog 18 #[.pointer (some ⟨h, 0, none⟩), .agg #[.int .i64 3, .slice u9 1 d9, .int .i64 2], .int .i64 a0] w11 fun e w' => e = .returned (.int .i64 0) ∧ ∃ O', Sd w' w1.heap.size p h O' [2, 1, 1] [a0] (one a0 [⟨⟨#[97]⟩, 1, 2⟩]) ∧ Stp O11 O' w11 w' := delete_one S11.out 3 2 u9 1 d9 [2] V11.out.2 (by decide) W0.out
  go_wp2_with fail
  rw [← hW, ← hg]
  clear hW hg y0 y1 y2
  refine c.mono ?_
  rintro e w12 ⟨rfl, O12, s, f⟩
  have S12 := Lib.hid s; have L12 := Lib.hid (L11.out.trans (S11.out.below f.1)); have U12 := Lib.hid (U11.out.fo S11.out f.1)
  clear s f c
  have c : Calls Try.prog 20 #[.pointer (some ⟨p, 0, none⟩), .int .i64 2] w12 fun e w' => e = .returned (.int .i64 0) ∧ Sd w' w1.heap.size p h O12 [2, 3, 1] [a0] (one a0 [⟨⟨#[97]⟩, 1, 2⟩]) ∧ Stp O12 O12 w12 w' := abort_sd S12.out 2 (by decide) (by decide)
  go_wp2_with fail
  refine c.mono ?_
  rintro e w13 ⟨rfl, s, f⟩
  obtain ⟨O13, hO⟩ : ∃ O13, O13 = O12 := ⟨_, rfl⟩
  rw [← hO] at s
  have S13 := Lib.hid s; have L13 := Lib.hid (L12.out.trans (S12.out.below f.1))
  have U13 := Lib.hid (U12.out.fo S12.out f.1)
  clear s f c hO
  obtain ⟨z0, z1, z2⟩ := U13.out.cells
  have c : Calls Try.prog 17 #[.pointer (some ⟨h, 0, none⟩), .agg #[.int .i64 4, .slice u11 2 d11, .int .i64 3], .agg #[.int .i64 a0, .string ⟨#[99]⟩]] w13 fun e w' => e = .returned (.int .i64 0) ∧ ∃ O', Sd w' w1.heap.size p h O' [2, 3, 1] [a0] (one a0 [⟨⟨#[97]⟩, 1, 3⟩, ⟨⟨#[99]⟩, 3, 0⟩]) ∧ Stp O13 O' w13 w' := update_one S13.out 4 3 u11 2 d11 [2, 3] U13.out.2 (by decide) _ W0.out (by decide)
  go_wp2_with fail
  refine c.mono ?_
  rintro e w14 ⟨rfl, O14, s, f⟩
  have F14 : Hid (one a0 [⟨⟨#[97]⟩, 1, 3⟩, ⟨⟨#[99]⟩, 3, 0⟩] = one a0 [⟨⟨#[97]⟩, 1, 3⟩, ⟨⟨#[99]⟩, 3, 0⟩]) := Lib.hid rfl
  have S14 := Lib.hid s; have L14 := Lib.hid (L13.out.trans (S13.out.below f.1)); have U14 := Lib.hid (U13.out.fo S13.out f.1)
  clear s f c z0 z1 z2
  obtain ⟨z0, z1, z2⟩ := U14.out.cells
  have c := get_sd S14.out 4 3 u11 2 d11 [2, 3] U14.out.2 a0 W0.out
  obtain ⟨gk, gt, gf, hgt⟩ := getT_form [2, 3, 1] ⟨4, [2, 3], 3⟩ a0 ((one a0 [⟨⟨#[97]⟩, 1, 3⟩, ⟨⟨#[99]⟩, 3, 0⟩]) a0)
  rw [hgt] at c
  clear hgt
  have C := Lib.hid c
  clear c
  go_wp2_with fail
  refine C.out.mono ?_
  rintro e w15 ⟨rfl, hk⟩
  have L15 := Lib.hid (L14.out.trans (hk.below (B := w1.heap.size) S14.out.size (by simp)))
  clear hk C z0 z1 z2
  go_wp2
  go_ret
  exact ⟨rfl, (K1.out.below (Nat.le_refl _) (by simp)).trans ((L15.out.alloc L15.out.size _).mono K1.out.size)⟩

set_option maxHeartbeats 4000000 in
set_option maxRecDepth 100000 in
theorem way102 (a0 a1 a2 a3 : Int) (w0 : (Lit.int .i64 a0).wf = true) (e1 : a1 % 2 = 1) (e1' : a1.tmod 2 = 1) (e2 : a2 % 3 = 0) (e2' : a2.tmod 3 = 0) (e3 : a3 % 3 = 2) (e3' : a3.tmod 3 = 2) (W : World) :
    Calls Try.prog 4 #[.int .i64 a0, .int .u8 a1, .int .u8 a2, .int .u8 a3] W fun e w' => e = .returned (.bool true) ∧ Below W.heap.size W w' := by
  have W0 := Lib.hid w0
  clear w0
  go_enter Try.func4, Try.ntmps4
  go_wp2_with fail
  refine (clash_any W).mono ?_
  rintro e w1 ⟨rfl, hk⟩
  have K1 := Lib.hid hk; clear hk
  go_wp2_with fail
  refine (mnew_any w1).mono ?_
  rintro e w2 ⟨p, b, v1, rfl, hm, hk⟩
  have M2 := Lib.hid hm; have K2 := Lib.hid hk
  clear hm hk
  go_wp2_with fail
  refine (hnew_sd M2.out).mono ?_
  rintro e w3 ⟨h, O3, rfl, s, hk, _⟩
  have S3 := Lib.hid s; have L3 := Lib.hid (show Below w1.heap.size w1 w3 from (K2.out.trans hk (by simp)).below (Nat.le_refl _) (by simp))
  clear s hk
  have c : Calls Try.prog 12 #[.pointer (some ⟨p, 0, none⟩)] w3 fun e w' => e = .returned (.tuple #[.int .i64 1, .int .i64 0]) ∧ ∃ O', Sd w' w1.heap.size p h O' [1] [] (fun _ => []) ∧ Stp O3 O' w3 w' := begin_sd S3.out (by decide) (by decide)
  go_wp2_with fail
  refine c.mono ?_
  rintro e w4 ⟨rfl, O4, s, f⟩
  have S4 := Lib.hid s; have L4 := Lib.hid (L3.out.trans (S3.out.below f.1))
  clear s f c
  have c : Calls Try.prog 13 #[.pointer (some ⟨p, 0, none⟩)] w4 fun e w' => ∃ u c, e = .returned (.agg #[.int .i64 2, .slice u 1 c]) ∧ Vo w' (.slice u 1 c) [1] ∧ Kept w4 w' [] := now_sd S4.out
  go_wp2_with fail
  refine c.mono ?_
  rintro e w5 ⟨u5, d5, rfl, vo, hk⟩
  have S5 := Lib.hid (S4.out.keep hk); have L5 := Lib.hid (L4.out.trans (hk.below (B := w1.heap.size) S4.out.size (by simp))); have V5 := Lib.hid vo
  obtain ⟨O5, hO⟩ : ∃ O5, O5 = O4 := ⟨_, rfl⟩
  rw [← hO] at S5
  clear vo hk c hO
  have c : Calls Try.prog 14 #[.pointer (some ⟨h, 0, none⟩), .agg #[.int .i64 2, .slice u5 1 d5, .int .i64 1], .agg #[.int .i64 a0, .string ⟨#[97]⟩]] w5 fun e w' => e = .returned (.int .i64 0) ∧ ∃ O', Sd w' w1.heap.size p h O' [1] [a0] (one a0 [⟨⟨#[97]⟩, 1, 0⟩]) ∧ Stp O5 O' w5 w' := insert_one S5.out 2 1 u5 1 d5 [1] V5.out (by decide) a0 _ W0.out (by decide)
  go_wp2_with fail
  refine c.mono ?_
  rintro e w6 ⟨rfl, O6, s, f⟩
  have S6 := Lib.hid s; have L6 := Lib.hid (L5.out.trans (S5.out.below f.1))
  clear s f c
  have c : Calls Try.prog 15 #[.pointer (some ⟨p, 0, none⟩), .int .i64 1] w6 fun e w' => e = .returned (.int .i64 0) ∧ Sd w' w1.heap.size p h O6 [2] [a0] (one a0 [⟨⟨#[97]⟩, 1, 0⟩]) ∧ Stp O6 O6 w6 w' := commit_sd S6.out 1 (by decide) (by decide)
  go_wp2_with fail
  refine c.mono ?_
  rintro e w7 ⟨rfl, s, f⟩
  obtain ⟨O7, hO⟩ : ∃ O7, O7 = O6 := ⟨_, rfl⟩
  rw [← hO] at s
  have S7 := Lib.hid s; have L7 := Lib.hid (L6.out.trans (S6.out.below f.1))
  clear s f c hO
  have c : Calls Try.prog 12 #[.pointer (some ⟨p, 0, none⟩)] w7 fun e w' => e = .returned (.tuple #[.int .i64 2, .int .i64 0]) ∧ ∃ O', Sd w' w1.heap.size p h O' [2, 1] [a0] (one a0 [⟨⟨#[97]⟩, 1, 0⟩]) ∧ Stp O7 O' w7 w' := begin_sd S7.out (by decide) (by decide)
  go_wp2_with fail
  refine c.mono ?_
  rintro e w8 ⟨rfl, O8, s, f⟩
  have S8 := Lib.hid s; have L8 := Lib.hid (L7.out.trans (S7.out.below f.1))
  clear s f c
  have c : Calls Try.prog 13 #[.pointer (some ⟨p, 0, none⟩)] w8 fun e w' => ∃ u c, e = .returned (.agg #[.int .i64 3, .slice u 1 c]) ∧ Vo w' (.slice u 1 c) [2] ∧ Kept w8 w' [] := now_sd S8.out
  go_wp2_with fail
  refine c.mono ?_
  rintro e x9 ⟨u9, d9, rfl, vo, hk⟩
  obtain ⟨w9, hW⟩ : ∃ w9, w9 = x9.alloc (.cells #[.int .i64 3, .slice u9 1 d9, .int .i64 2] 37) := ⟨_, rfl⟩
  obtain ⟨g1, hg⟩ : ∃ g1, g1 = x9.heap.size := ⟨_, rfl⟩
  have V9 : Hid (Bv w9 g1 3 2 (.slice u9 1 d9) [2]) := Lib.hid (by rw [hW, hg]; exact Bv.make vo)
  have k : Kept w8 w9 [] := by rw [hW]; exact hk.alloc _
  have S9 := Lib.hid (S8.out.keep k); have L9 := Lib.hid (L8.out.trans (k.below (B := w1.heap.size) S8.out.size (by simp)))
  obtain ⟨O9, hO⟩ : ∃ O9, O9 = O8 := ⟨_, rfl⟩
  rw [← hO] at S9
  clear vo hk k c hO
  have c : Calls Try.prog 12 #[.pointer (some ⟨p, 0, none⟩)] w9 fun e w' => e = .returned (.tuple #[.int .i64 3, .int .i64 0]) ∧ ∃ O', Sd w' w1.heap.size p h O' [2, 1, 1] [a0] (one a0 [⟨⟨#[97]⟩, 1, 0⟩]) ∧ Stp O9 O' w9 w' := begin_sd S9.out (by decide) (by decide)
  go_wp2_with fail
  rw [← hW, ← hg]
  clear hW hg
  refine c.mono ?_
  rintro e w10 ⟨rfl, O10, s, f⟩
  have S10 := Lib.hid s; have L10 := Lib.hid (L9.out.trans (S9.out.below f.1)); have V10 := Lib.hid (V9.out.fo S9.out f.1)
  clear s f c
  have c : Calls Try.prog 13 #[.pointer (some ⟨p, 0, none⟩)] w10 fun e w' => ∃ u c, e = .returned (.agg #[.int .i64 4, .slice u 2 c]) ∧ Vo w' (.slice u 2 c) [2, 3] ∧ Kept w10 w' [] := now_sd S10.out
  go_wp2_with fail
  refine c.mono ?_
  rintro e x11 ⟨u11, d11, rfl, vo, hk⟩
  obtain ⟨w11, hW⟩ : ∃ w11, w11 = x11.alloc (.cells #[.int .i64 4, .slice u11 2 d11, .int .i64 3] 37) := ⟨_, rfl⟩
  obtain ⟨g2, hg⟩ : ∃ g2, g2 = x11.heap.size := ⟨_, rfl⟩
  have U11 : Hid (Bv w11 g2 4 3 (.slice u11 2 d11) [2, 3]) := Lib.hid (by rw [hW, hg]; exact Bv.make vo)
  have k : Kept w10 w11 [] := by rw [hW]; exact hk.alloc _
  have S11 := Lib.hid (S10.out.keep k); have L11 := Lib.hid (L10.out.trans (k.below (B := w1.heap.size) S10.out.size (by simp)))
  have V11 := Lib.hid (V10.out.keep k)
  obtain ⟨O11, hO⟩ : ∃ O11, O11 = O10 := ⟨_, rfl⟩
  rw [← hO] at S11
  clear vo hk k c hO
  have y0 : (x11.alloc (.cells #[.int .i64 4, .slice u11 2 d11, .int .i64 3] 37)).cell? ⟨g1, 0, none⟩ = some (.int .i64 3) := by rw [← hW]; exact V11.out.cells.1
  have y1 : (x11.alloc (.cells #[.int .i64 4, .slice u11 2 d11, .int .i64 3] 37)).cell? ⟨g1, 1, none⟩ = some (.slice u9 1 d9) := by rw [← hW]; exact V11.out.cells.2.1
  have y2 : (x11.alloc (.cells #[.int .i64 4, .slice u11 2 d11, .int .i64 3] 37)).cell? ⟨g1, 2, none⟩ = some (.int .i64 2) := by rw [← hW]; exact V11.out.cells.2.2
  have c : Calls Try.prog 18 #[.pointer (some ⟨h, 0, none⟩), .agg #[.int .i64 3, .slice u9 1 d9, .int .i64 2], .int .i64 a0] w11 fun e w' => e = .returned (.int .i64 0) ∧ ∃ O', Sd w' w1.heap.size p h O' [2, 1, 1] [a0] (one a0 [⟨⟨#[97]⟩, 1, 2⟩]) ∧ Stp O11 O' w11 w' := delete_one S11.out 3 2 u9 1 d9 [2] V11.out.2 (by decide) W0.out
  go_wp2_with fail
  rw [← hW, ← hg]
  clear hW hg y0 y1 y2
  refine c.mono ?_
  rintro e w12 ⟨rfl, O12, s, f⟩
  have S12 := Lib.hid s; have L12 := Lib.hid (L11.out.trans (S11.out.below f.1)); have U12 := Lib.hid (U11.out.fo S11.out f.1)
  clear s f c
  obtain ⟨z0, z1, z2⟩ := U12.out.cells
  have c : Calls Try.prog 17 #[.pointer (some ⟨h, 0, none⟩), .agg #[.int .i64 4, .slice u11 2 d11, .int .i64 3], .agg #[.int .i64 a0, .string ⟨#[99]⟩]] w12 fun e w' => e = .returned (.int .i64 6) ∧ ∃ O', Sd w' w1.heap.size p h O' [2, 1, 1] [a0] (one a0 [⟨⟨#[97]⟩, 1, 2⟩]) ∧ Stp O12 O' w12 w' := update_one S12.out 4 3 u11 2 d11 [2, 3] U12.out.2 (by decide) _ W0.out (by decide)
  go_wp2_with fail
  refine c.mono ?_
  rintro e w13 ⟨rfl, O13, s, f⟩
  have F13 : Hid (one a0 [⟨⟨#[97]⟩, 1, 2⟩] = one a0 [⟨⟨#[97]⟩, 1, 2⟩]) := Lib.hid rfl
  have S13 := Lib.hid s; have L13 := Lib.hid (L12.out.trans (S12.out.below f.1)); have U13 := Lib.hid (U12.out.fo S12.out f.1)
  clear s f c z0 z1 z2
  obtain ⟨z0, z1, z2⟩ := U13.out.cells
  have c := get_sd S13.out 4 3 u11 2 d11 [2, 3] U13.out.2 a0 W0.out
  rw [one_same] at c
  have c' : Calls Try.prog 22 #[.pointer (some ⟨h, 0, none⟩), .agg #[.int .i64 4, .slice u11 2 d11, .int .i64 3], .int .i64 a0] w13 fun e w' => e = .returned (.tuple #[.agg #[.int .i64 a0, .string ⟨#[97]⟩], .bool true]) ∧ Kept w13 w' [] := c
  clear c
  go_wp2_with fail
  refine c'.mono ?_
  rintro e w14 ⟨rfl, hk⟩
  have L14 := Lib.hid (L13.out.trans (hk.below (B := w1.heap.size) S13.out.size (by simp)))
  clear hk c' z0 z1 z2
  go_wp2
  go_ret
  exact ⟨rfl, (K1.out.below (Nat.le_refl _) (by simp)).trans ((L14.out.alloc L14.out.size _).mono K1.out.size)⟩

set_option maxHeartbeats 4000000 in
set_option maxRecDepth 100000 in
theorem way110 (a0 a1 a2 a3 : Int) (w0 : (Lit.int .i64 a0).wf = true) (e1 : a1 % 2 = 1) (e1' : a1.tmod 2 = 1) (e2 : a2 % 3 = 1) (e2' : a2.tmod 3 = 1) (e3 : a3 % 3 = 0) (e3' : a3.tmod 3 = 0) (W : World) :
    Calls Try.prog 4 #[.int .i64 a0, .int .u8 a1, .int .u8 a2, .int .u8 a3] W fun e w' => e = .returned (.bool true) ∧ Below W.heap.size W w' := by
  have W0 := Lib.hid w0
  clear w0
  go_enter Try.func4, Try.ntmps4
  go_wp2_with fail
  refine (clash_any W).mono ?_
  rintro e w1 ⟨rfl, hk⟩
  have K1 := Lib.hid hk; clear hk
  go_wp2_with fail
  refine (mnew_any w1).mono ?_
  rintro e w2 ⟨p, b, v1, rfl, hm, hk⟩
  have M2 := Lib.hid hm; have K2 := Lib.hid hk
  clear hm hk
  go_wp2_with fail
  refine (hnew_sd M2.out).mono ?_
  rintro e w3 ⟨h, O3, rfl, s, hk, _⟩
  have S3 := Lib.hid s; have L3 := Lib.hid (show Below w1.heap.size w1 w3 from (K2.out.trans hk (by simp)).below (Nat.le_refl _) (by simp))
  clear s hk
  have c : Calls Try.prog 12 #[.pointer (some ⟨p, 0, none⟩)] w3 fun e w' => e = .returned (.tuple #[.int .i64 1, .int .i64 0]) ∧ ∃ O', Sd w' w1.heap.size p h O' [1] [] (fun _ => []) ∧ Stp O3 O' w3 w' := begin_sd S3.out (by decide) (by decide)
  go_wp2_with fail
  refine c.mono ?_
  rintro e w4 ⟨rfl, O4, s, f⟩
  have S4 := Lib.hid s; have L4 := Lib.hid (L3.out.trans (S3.out.below f.1))
  clear s f c
  have c : Calls Try.prog 13 #[.pointer (some ⟨p, 0, none⟩)] w4 fun e w' => ∃ u c, e = .returned (.agg #[.int .i64 2, .slice u 1 c]) ∧ Vo w' (.slice u 1 c) [1] ∧ Kept w4 w' [] := now_sd S4.out
  go_wp2_with fail
  refine c.mono ?_
  rintro e w5 ⟨u5, d5, rfl, vo, hk⟩
  have S5 := Lib.hid (S4.out.keep hk); have L5 := Lib.hid (L4.out.trans (hk.below (B := w1.heap.size) S4.out.size (by simp))); have V5 := Lib.hid vo
  obtain ⟨O5, hO⟩ : ∃ O5, O5 = O4 := ⟨_, rfl⟩
  rw [← hO] at S5
  clear vo hk c hO
  have c : Calls Try.prog 14 #[.pointer (some ⟨h, 0, none⟩), .agg #[.int .i64 2, .slice u5 1 d5, .int .i64 1], .agg #[.int .i64 a0, .string ⟨#[97]⟩]] w5 fun e w' => e = .returned (.int .i64 0) ∧ ∃ O', Sd w' w1.heap.size p h O' [1] [a0] (one a0 [⟨⟨#[97]⟩, 1, 0⟩]) ∧ Stp O5 O' w5 w' := insert_one S5.out 2 1 u5 1 d5 [1] V5.out (by decide) a0 _ W0.out (by decide)
  go_wp2_with fail
  refine c.mono ?_
  rintro e w6 ⟨rfl, O6, s, f⟩
  have S6 := Lib.hid s; have L6 := Lib.hid (L5.out.trans (S5.out.below f.1))
  clear s f c
  have c : Calls Try.prog 15 #[.pointer (some ⟨p, 0, none⟩), .int .i64 1] w6 fun e w' => e = .returned (.int .i64 0) ∧ Sd w' w1.heap.size p h O6 [2] [a0] (one a0 [⟨⟨#[97]⟩, 1, 0⟩]) ∧ Stp O6 O6 w6 w' := commit_sd S6.out 1 (by decide) (by decide)
  go_wp2_with fail
  refine c.mono ?_
  rintro e w7 ⟨rfl, s, f⟩
  obtain ⟨O7, hO⟩ : ∃ O7, O7 = O6 := ⟨_, rfl⟩
  rw [← hO] at s
  have S7 := Lib.hid s; have L7 := Lib.hid (L6.out.trans (S6.out.below f.1))
  clear s f c hO
  have c : Calls Try.prog 12 #[.pointer (some ⟨p, 0, none⟩)] w7 fun e w' => e = .returned (.tuple #[.int .i64 2, .int .i64 0]) ∧ ∃ O', Sd w' w1.heap.size p h O' [2, 1] [a0] (one a0 [⟨⟨#[97]⟩, 1, 0⟩]) ∧ Stp O7 O' w7 w' := begin_sd S7.out (by decide) (by decide)
  go_wp2_with fail
  refine c.mono ?_
  rintro e w8 ⟨rfl, O8, s, f⟩
  have S8 := Lib.hid s; have L8 := Lib.hid (L7.out.trans (S7.out.below f.1))
  clear s f c
  have c : Calls Try.prog 13 #[.pointer (some ⟨p, 0, none⟩)] w8 fun e w' => ∃ u c, e = .returned (.agg #[.int .i64 3, .slice u 1 c]) ∧ Vo w' (.slice u 1 c) [2] ∧ Kept w8 w' [] := now_sd S8.out
  go_wp2_with fail
  refine c.mono ?_
  rintro e x9 ⟨u9, d9, rfl, vo, hk⟩
  obtain ⟨w9, hW⟩ : ∃ w9, w9 = x9.alloc (.cells #[.int .i64 3, .slice u9 1 d9, .int .i64 2] 37) := ⟨_, rfl⟩
  obtain ⟨g1, hg⟩ : ∃ g1, g1 = x9.heap.size := ⟨_, rfl⟩
  have V9 : Hid (Bv w9 g1 3 2 (.slice u9 1 d9) [2]) := Lib.hid (by rw [hW, hg]; exact Bv.make vo)
  have k : Kept w8 w9 [] := by rw [hW]; exact hk.alloc _
  have S9 := Lib.hid (S8.out.keep k); have L9 := Lib.hid (L8.out.trans (k.below (B := w1.heap.size) S8.out.size (by simp)))
  obtain ⟨O9, hO⟩ : ∃ O9, O9 = O8 := ⟨_, rfl⟩
  rw [← hO] at S9
  clear vo hk k c hO
  have c : Calls Try.prog 12 #[.pointer (some ⟨p, 0, none⟩)] w9 fun e w' => e = .returned (.tuple #[.int .i64 3, .int .i64 0]) ∧ ∃ O', Sd w' w1.heap.size p h O' [2, 1, 1] [a0] (one a0 [⟨⟨#[97]⟩, 1, 0⟩]) ∧ Stp O9 O' w9 w' := begin_sd S9.out (by decide) (by decide)
  go_wp2_with fail
  rw [← hW, ← hg]
  clear hW hg
  refine c.mono ?_
  rintro e w10 ⟨rfl, O10, s, f⟩
  have S10 := Lib.hid s; have L10 := Lib.hid (L9.out.trans (S9.out.below f.1)); have V10 := Lib.hid (V9.out.fo S9.out f.1)
  clear s f c
  have c : Calls Try.prog 13 #[.pointer (some ⟨p, 0, none⟩)] w10 fun e w' => ∃ u c, e = .returned (.agg #[.int .i64 4, .slice u 2 c]) ∧ Vo w' (.slice u 2 c) [2, 3] ∧ Kept w10 w' [] := now_sd S10.out
  go_wp2_with fail
  refine c.mono ?_
  rintro e x11 ⟨u11, d11, rfl, vo, hk⟩
  obtain ⟨w11, hW⟩ : ∃ w11, w11 = x11.alloc (.cells #[.int .i64 4, .slice u11 2 d11, .int .i64 3] 37) := ⟨_, rfl⟩
  obtain ⟨g2, hg⟩ : ∃ g2, g2 = x11.heap.size := ⟨_, rfl⟩
  have U11 : Hid (Bv w11 g2 4 3 (.slice u11 2 d11) [2, 3]) := Lib.hid (by rw [hW, hg]; exact Bv.make vo)
  have k : Kept w10 w11 [] := by rw [hW]; exact hk.alloc _
  have S11 := Lib.hid (S10.out.keep k); have L11 := Lib.hid (L10.out.trans (k.below (B := w1.heap.size) S10.out.size (by simp)))
  have V11 := Lib.hid (V10.out.keep k)
  obtain ⟨O11, hO⟩ : ∃ O11, O11 = O10 := ⟨_, rfl⟩
  rw [← hO] at S11
  clear vo hk k c hO
  have y0 : (x11.alloc (.cells #[.int .i64 4, .slice u11 2 d11, .int .i64 3] 37)).cell? ⟨g1, 0, none⟩ = some (.int .i64 3) := by rw [← hW]; exact V11.out.cells.1
  have y1 : (x11.alloc (.cells #[.int .i64 4, .slice u11 2 d11, .int .i64 3] 37)).cell? ⟨g1, 1, none⟩ = some (.slice u9 1 d9) := by rw [← hW]; exact V11.out.cells.2.1
  have y2 : (x11.alloc (.cells #[.int .i64 4, .slice u11 2 d11, .int .i64 3] 37)).cell? ⟨g1, 2, none⟩ = some (.int .i64 2) := by rw [← hW]; exact V11.out.cells.2.2
  have c : Calls Try.prog 18 #[.pointer (some ⟨h, 0, none⟩), .agg #[.int .i64 3, .slice u9 1 d9, .int .i64 2], .int .i64 a0] w11 fun e w' => e = .returned (.int .i64 0) ∧ ∃ O', Sd w' w1.heap.size p h O' [2, 1, 1] [a0] (one a0 [⟨⟨#[97]⟩, 1, 2⟩]) ∧ Stp O11 O' w11 w' := delete_one S11.out 3 2 u9 1 d9 [2] V11.out.2 (by decide) W0.out
  go_wp2_with fail
  rw [← hW, ← hg]
  clear hW hg y0 y1 y2
  refine c.mono ?_
  rintro e w12 ⟨rfl, O12, s, f⟩
  have S12 := Lib.hid s; have L12 := Lib.hid (L11.out.trans (S11.out.below f.1)); have U12 := Lib.hid (U11.out.fo S11.out f.1)
  clear s f c
  have c : Calls Try.prog 15 #[.pointer (some ⟨p, 0, none⟩), .int .i64 2] w12 fun e w' => e = .returned (.int .i64 0) ∧ Sd w' w1.heap.size p h O12 [2, 2, 1] [a0] (one a0 [⟨⟨#[97]⟩, 1, 2⟩]) ∧ Stp O12 O12 w12 w' := commit_sd S12.out 2 (by decide) (by decide)
  go_wp2_with fail
  refine c.mono ?_
  rintro e w13 ⟨rfl, s, f⟩
  obtain ⟨O13, hO⟩ : ∃ O13, O13 = O12 := ⟨_, rfl⟩
  rw [← hO] at s
  have S13 := Lib.hid s; have L13 := Lib.hid (L12.out.trans (S12.out.below f.1))
  have U13 := Lib.hid (U12.out.fo S12.out f.1)
  clear s f c hO
  obtain ⟨z0, z1, z2⟩ := U13.out.cells
  have c : Calls Try.prog 18 #[.pointer (some ⟨h, 0, none⟩), .agg #[.int .i64 4, .slice u11 2 d11, .int .i64 3], .int .i64 a0] w13 fun e w' => e = .returned (.int .i64 6) ∧ ∃ O', Sd w' w1.heap.size p h O' [2, 2, 1] [a0] (one a0 [⟨⟨#[97]⟩, 1, 2⟩]) ∧ Stp O13 O' w13 w' := delete_one S13.out 4 3 u11 2 d11 [2, 3] U13.out.2 (by decide) W0.out
  go_wp2_with fail
  refine c.mono ?_
  rintro e w14 ⟨rfl, O14, s, f⟩
  have F14 : Hid (one a0 [⟨⟨#[97]⟩, 1, 2⟩] = one a0 [⟨⟨#[97]⟩, 1, 2⟩]) := Lib.hid rfl
  have S14 := Lib.hid s; have L14 := Lib.hid (L13.out.trans (S13.out.below f.1)); have U14 := Lib.hid (U13.out.fo S13.out f.1)
  clear s f c z0 z1 z2
  obtain ⟨z0, z1, z2⟩ := U14.out.cells
  have c := get_sd S14.out 4 3 u11 2 d11 [2, 3] U14.out.2 a0 W0.out
  rw [one_same] at c
  have c' : Calls Try.prog 22 #[.pointer (some ⟨h, 0, none⟩), .agg #[.int .i64 4, .slice u11 2 d11, .int .i64 3], .int .i64 a0] w14 fun e w' => e = .returned (.tuple #[.agg #[.int .i64 a0, .string ⟨#[97]⟩], .bool true]) ∧ Kept w14 w' [] := c
  clear c
  go_wp2_with fail
  refine c'.mono ?_
  rintro e w15 ⟨rfl, hk⟩
  have L15 := Lib.hid (L14.out.trans (hk.below (B := w1.heap.size) S14.out.size (by simp)))
  clear hk c' z0 z1 z2
  go_wp2
  go_ret
  exact ⟨rfl, (K1.out.below (Nat.le_refl _) (by simp)).trans ((L15.out.alloc L15.out.size _).mono K1.out.size)⟩

set_option maxHeartbeats 4000000 in
set_option maxRecDepth 100000 in
theorem way111 (a0 a1 a2 a3 : Int) (w0 : (Lit.int .i64 a0).wf = true) (e1 : a1 % 2 = 1) (e1' : a1.tmod 2 = 1) (e2 : a2 % 3 = 1) (e2' : a2.tmod 3 = 1) (e3 : a3 % 3 = 1) (e3' : a3.tmod 3 = 1) (W : World) :
    Calls Try.prog 4 #[.int .i64 a0, .int .u8 a1, .int .u8 a2, .int .u8 a3] W fun e w' => e = .returned (.bool true) ∧ Below W.heap.size W w' := by
  have W0 := Lib.hid w0
  clear w0
  go_enter Try.func4, Try.ntmps4
  go_wp2_with fail
  refine (clash_any W).mono ?_
  rintro e w1 ⟨rfl, hk⟩
  have K1 := Lib.hid hk; clear hk
  go_wp2_with fail
  refine (mnew_any w1).mono ?_
  rintro e w2 ⟨p, b, v1, rfl, hm, hk⟩
  have M2 := Lib.hid hm; have K2 := Lib.hid hk
  clear hm hk
  go_wp2_with fail
  refine (hnew_sd M2.out).mono ?_
  rintro e w3 ⟨h, O3, rfl, s, hk, _⟩
  have S3 := Lib.hid s; have L3 := Lib.hid (show Below w1.heap.size w1 w3 from (K2.out.trans hk (by simp)).below (Nat.le_refl _) (by simp))
  clear s hk
  have c : Calls Try.prog 12 #[.pointer (some ⟨p, 0, none⟩)] w3 fun e w' => e = .returned (.tuple #[.int .i64 1, .int .i64 0]) ∧ ∃ O', Sd w' w1.heap.size p h O' [1] [] (fun _ => []) ∧ Stp O3 O' w3 w' := begin_sd S3.out (by decide) (by decide)
  go_wp2_with fail
  refine c.mono ?_
  rintro e w4 ⟨rfl, O4, s, f⟩
  have S4 := Lib.hid s; have L4 := Lib.hid (L3.out.trans (S3.out.below f.1))
  clear s f c
  have c : Calls Try.prog 13 #[.pointer (some ⟨p, 0, none⟩)] w4 fun e w' => ∃ u c, e = .returned (.agg #[.int .i64 2, .slice u 1 c]) ∧ Vo w' (.slice u 1 c) [1] ∧ Kept w4 w' [] := now_sd S4.out
  go_wp2_with fail
  refine c.mono ?_
  rintro e w5 ⟨u5, d5, rfl, vo, hk⟩
  have S5 := Lib.hid (S4.out.keep hk); have L5 := Lib.hid (L4.out.trans (hk.below (B := w1.heap.size) S4.out.size (by simp))); have V5 := Lib.hid vo
  obtain ⟨O5, hO⟩ : ∃ O5, O5 = O4 := ⟨_, rfl⟩
  rw [← hO] at S5
  clear vo hk c hO
  have c : Calls Try.prog 14 #[.pointer (some ⟨h, 0, none⟩), .agg #[.int .i64 2, .slice u5 1 d5, .int .i64 1], .agg #[.int .i64 a0, .string ⟨#[97]⟩]] w5 fun e w' => e = .returned (.int .i64 0) ∧ ∃ O', Sd w' w1.heap.size p h O' [1] [a0] (one a0 [⟨⟨#[97]⟩, 1, 0⟩]) ∧ Stp O5 O' w5 w' := insert_one S5.out 2 1 u5 1 d5 [1] V5.out (by decide) a0 _ W0.out (by decide)
  go_wp2_with fail
  refine c.mono ?_
  rintro e w6 ⟨rfl, O6, s, f⟩
  have S6 := Lib.hid s; have L6 := Lib.hid (L5.out.trans (S5.out.below f.1))
  clear s f c
  have c : Calls Try.prog 15 #[.pointer (some ⟨p, 0, none⟩), .int .i64 1] w6 fun e w' => e = .returned (.int .i64 0) ∧ Sd w' w1.heap.size p h O6 [2] [a0] (one a0 [⟨⟨#[97]⟩, 1, 0⟩]) ∧ Stp O6 O6 w6 w' := commit_sd S6.out 1 (by decide) (by decide)
  go_wp2_with fail
  refine c.mono ?_
  rintro e w7 ⟨rfl, s, f⟩
  obtain ⟨O7, hO⟩ : ∃ O7, O7 = O6 := ⟨_, rfl⟩
  rw [← hO] at s
  have S7 := Lib.hid s; have L7 := Lib.hid (L6.out.trans (S6.out.below f.1))
  clear s f c hO
  have c : Calls Try.prog 12 #[.pointer (some ⟨p, 0, none⟩)] w7 fun e w' => e = .returned (.tuple #[.int .i64 2, .int .i64 0]) ∧ ∃ O', Sd w' w1.heap.size p h O' [2, 1] [a0] (one a0 [⟨⟨#[97]⟩, 1, 0⟩]) ∧ Stp O7 O' w7 w' := begin_sd S7.out (by decide) (by decide)
  go_wp2_with fail
  refine c.mono ?_
  rintro e w8 ⟨rfl, O8, s, f⟩
  have S8 := Lib.hid s; have L8 := Lib.hid (L7.out.trans (S7.out.below f.1))
  clear s f c
  have c : Calls Try.prog 13 #[.pointer (some ⟨p, 0, none⟩)] w8 fun e w' => ∃ u c, e = .returned (.agg #[.int .i64 3, .slice u 1 c]) ∧ Vo w' (.slice u 1 c) [2] ∧ Kept w8 w' [] := now_sd S8.out
  go_wp2_with fail
  refine c.mono ?_
  rintro e x9 ⟨u9, d9, rfl, vo, hk⟩
  obtain ⟨w9, hW⟩ : ∃ w9, w9 = x9.alloc (.cells #[.int .i64 3, .slice u9 1 d9, .int .i64 2] 37) := ⟨_, rfl⟩
  obtain ⟨g1, hg⟩ : ∃ g1, g1 = x9.heap.size := ⟨_, rfl⟩
  have V9 : Hid (Bv w9 g1 3 2 (.slice u9 1 d9) [2]) := Lib.hid (by rw [hW, hg]; exact Bv.make vo)
  have k : Kept w8 w9 [] := by rw [hW]; exact hk.alloc _
  have S9 := Lib.hid (S8.out.keep k); have L9 := Lib.hid (L8.out.trans (k.below (B := w1.heap.size) S8.out.size (by simp)))
  obtain ⟨O9, hO⟩ : ∃ O9, O9 = O8 := ⟨_, rfl⟩
  rw [← hO] at S9
  clear vo hk k c hO
  have c : Calls Try.prog 12 #[.pointer (some ⟨p, 0, none⟩)] w9 fun e w' => e = .returned (.tuple #[.int .i64 3, .int .i64 0]) ∧ ∃ O', Sd w' w1.heap.size p h O' [2, 1, 1] [a0] (one a0 [⟨⟨#[97]⟩, 1, 0⟩]) ∧ Stp O9 O' w9 w' := begin_sd S9.out (by decide) (by decide)
  go_wp2_with fail
  rw [← hW, ← hg]
  clear hW hg
  refine c.mono ?_
  rintro e w10 ⟨rfl, O10, s, f⟩
  have S10 := Lib.hid s; have L10 := Lib.hid (L9.out.trans (S9.out.below f.1)); have V10 := Lib.hid (V9.out.fo S9.out f.1)
  clear s f c
  have c : Calls Try.prog 13 #[.pointer (some ⟨p, 0, none⟩)] w10 fun e w' => ∃ u c, e = .returned (.agg #[.int .i64 4, .slice u 2 c]) ∧ Vo w' (.slice u 2 c) [2, 3] ∧ Kept w10 w' [] := now_sd S10.out
  go_wp2_with fail
  refine c.mono ?_
  rintro e x11 ⟨u11, d11, rfl, vo, hk⟩
  obtain ⟨w11, hW⟩ : ∃ w11, w11 = x11.alloc (.cells #[.int .i64 4, .slice u11 2 d11, .int .i64 3] 37) := ⟨_, rfl⟩
  obtain ⟨g2, hg⟩ : ∃ g2, g2 = x11.heap.size := ⟨_, rfl⟩
  have U11 : Hid (Bv w11 g2 4 3 (.slice u11 2 d11) [2, 3]) := Lib.hid (by rw [hW, hg]; exact Bv.make vo)
  have k : Kept w10 w11 [] := by rw [hW]; exact hk.alloc _
  have S11 := Lib.hid (S10.out.keep k); have L11 := Lib.hid (L10.out.trans (k.below (B := w1.heap.size) S10.out.size (by simp)))
  have V11 := Lib.hid (V10.out.keep k)
  obtain ⟨O11, hO⟩ : ∃ O11, O11 = O10 := ⟨_, rfl⟩
  rw [← hO] at S11
  clear vo hk k c hO
  have y0 : (x11.alloc (.cells #[.int .i64 4, .slice u11 2 d11, .int .i64 3] 37)).cell? ⟨g1, 0, none⟩ = some (.int .i64 3) := by rw [← hW]; exact V11.out.cells.1
  have y1 : (x11.alloc (.cells #[.int .i64 4, .slice u11 2 d11, .int .i64 3] 37)).cell? ⟨g1, 1, none⟩ = some (.slice u9 1 d9) := by rw [← hW]; exact V11.out.cells.2.1
  have y2 : (x11.alloc (.cells #[.int .i64 4, .slice u11 2 d11, .int .i64 3] 37)).cell? ⟨g1, 2, none⟩ = some (.int .i64 2) := by rw [← hW]; exact V11.out.cells.2.2
  have c : Calls Try.prog 18 #[.pointer (some ⟨h, 0, none⟩), .agg #[.int .i64 3, .slice u9 1 d9, .int .i64 2], .int .i64 a0] w11 fun e w' => e = .returned (.int .i64 0) ∧ ∃ O', Sd w' w1.heap.size p h O' [2, 1, 1] [a0] (one a0 [⟨⟨#[97]⟩, 1, 2⟩]) ∧ Stp O11 O' w11 w' := delete_one S11.out 3 2 u9 1 d9 [2] V11.out.2 (by decide) W0.out
  go_wp2_with fail
  rw [← hW, ← hg]
  clear hW hg y0 y1 y2
  refine c.mono ?_
  rintro e w12 ⟨rfl, O12, s, f⟩
  have S12 := Lib.hid s; have L12 := Lib.hid (L11.out.trans (S11.out.below f.1)); have U12 := Lib.hid (U11.out.fo S11.out f.1)
  clear s f c
  have c : Calls Try.prog 20 #[.pointer (some ⟨p, 0, none⟩), .int .i64 2] w12 fun e w' => e = .returned (.int .i64 0) ∧ Sd w' w1.heap.size p h O12 [2, 3, 1] [a0] (one a0 [⟨⟨#[97]⟩, 1, 2⟩]) ∧ Stp O12 O12 w12 w' := abort_sd S12.out 2 (by decide) (by decide)
  go_wp2_with fail
  refine c.mono ?_
  rintro e w13 ⟨rfl, s, f⟩
  obtain ⟨O13, hO⟩ : ∃ O13, O13 = O12 := ⟨_, rfl⟩
  rw [← hO] at s
  have S13 := Lib.hid s; have L13 := Lib.hid (L12.out.trans (S12.out.below f.1))
  have U13 := Lib.hid (U12.out.fo S12.out f.1)
  clear s f c hO
  obtain ⟨z0, z1, z2⟩ := U13.out.cells
  have c : Calls Try.prog 18 #[.pointer (some ⟨h, 0, none⟩), .agg #[.int .i64 4, .slice u11 2 d11, .int .i64 3], .int .i64 a0] w13 fun e w' => e = .returned (.int .i64 0) ∧ ∃ O', Sd w' w1.heap.size p h O' [2, 3, 1] [a0] (one a0 [⟨⟨#[97]⟩, 1, 3⟩]) ∧ Stp O13 O' w13 w' := delete_one S13.out 4 3 u11 2 d11 [2, 3] U13.out.2 (by decide) W0.out
  go_wp2_with fail
  refine c.mono ?_
  rintro e w14 ⟨rfl, O14, s, f⟩
  have F14 : Hid (one a0 [⟨⟨#[97]⟩, 1, 3⟩] = one a0 [⟨⟨#[97]⟩, 1, 3⟩]) := Lib.hid rfl
  have S14 := Lib.hid s; have L14 := Lib.hid (L13.out.trans (S13.out.below f.1)); have U14 := Lib.hid (U13.out.fo S13.out f.1)
  clear s f c z0 z1 z2
  obtain ⟨z0, z1, z2⟩ := U14.out.cells
  have c := get_sd S14.out 4 3 u11 2 d11 [2, 3] U14.out.2 a0 W0.out
  obtain ⟨gk, gt, gf, hgt⟩ := getT_form [2, 3, 1] ⟨4, [2, 3], 3⟩ a0 ((one a0 [⟨⟨#[97]⟩, 1, 3⟩]) a0)
  rw [hgt] at c
  clear hgt
  have C := Lib.hid c
  clear c
  go_wp2_with fail
  refine C.out.mono ?_
  rintro e w15 ⟨rfl, hk⟩
  have L15 := Lib.hid (L14.out.trans (hk.below (B := w1.heap.size) S14.out.size (by simp)))
  clear hk C z0 z1 z2
  go_wp2
  go_ret
  exact ⟨rfl, (K1.out.below (Nat.le_refl _) (by simp)).trans ((L15.out.alloc L15.out.size _).mono K1.out.size)⟩

set_option maxHeartbeats 4000000 in
set_option maxRecDepth 100000 in
theorem way112 (a0 a1 a2 a3 : Int) (w0 : (Lit.int .i64 a0).wf = true) (e1 : a1 % 2 = 1) (e1' : a1.tmod 2 = 1) (e2 : a2 % 3 = 1) (e2' : a2.tmod 3 = 1) (e3 : a3 % 3 = 2) (e3' : a3.tmod 3 = 2) (W : World) :
    Calls Try.prog 4 #[.int .i64 a0, .int .u8 a1, .int .u8 a2, .int .u8 a3] W fun e w' => e = .returned (.bool true) ∧ Below W.heap.size W w' := by
  have W0 := Lib.hid w0
  clear w0
  go_enter Try.func4, Try.ntmps4
  go_wp2_with fail
  refine (clash_any W).mono ?_
  rintro e w1 ⟨rfl, hk⟩
  have K1 := Lib.hid hk; clear hk
  go_wp2_with fail
  refine (mnew_any w1).mono ?_
  rintro e w2 ⟨p, b, v1, rfl, hm, hk⟩
  have M2 := Lib.hid hm; have K2 := Lib.hid hk
  clear hm hk
  go_wp2_with fail
  refine (hnew_sd M2.out).mono ?_
  rintro e w3 ⟨h, O3, rfl, s, hk, _⟩
  have S3 := Lib.hid s; have L3 := Lib.hid (show Below w1.heap.size w1 w3 from (K2.out.trans hk (by simp)).below (Nat.le_refl _) (by simp))
  clear s hk
  have c : Calls Try.prog 12 #[.pointer (some ⟨p, 0, none⟩)] w3 fun e w' => e = .returned (.tuple #[.int .i64 1, .int .i64 0]) ∧ ∃ O', Sd w' w1.heap.size p h O' [1] [] (fun _ => []) ∧ Stp O3 O' w3 w' := begin_sd S3.out (by decide) (by decide)
  go_wp2_with fail
  refine c.mono ?_
  rintro e w4 ⟨rfl, O4, s, f⟩
  have S4 := Lib.hid s; have L4 := Lib.hid (L3.out.trans (S3.out.below f.1))
  clear s f c
  have c : Calls Try.prog 13 #[.pointer (some ⟨p, 0, none⟩)] w4 fun e w' => ∃ u c, e = .returned (.agg #[.int .i64 2, .slice u 1 c]) ∧ Vo w' (.slice u 1 c) [1] ∧ Kept w4 w' [] := now_sd S4.out
  go_wp2_with fail
  refine c.mono ?_
  rintro e w5 ⟨u5, d5, rfl, vo, hk⟩
  have S5 := Lib.hid (S4.out.keep hk); have L5 := Lib.hid (L4.out.trans (hk.below (B := w1.heap.size) S4.out.size (by simp))); have V5 := Lib.hid vo
  obtain ⟨O5, hO⟩ : ∃ O5, O5 = O4 := ⟨_, rfl⟩
  rw [← hO] at S5
  clear vo hk c hO
  have c : Calls Try.prog 14 #[.pointer (some ⟨h, 0, none⟩), .agg #[.int .i64 2, .slice u5 1 d5, .int .i64 1], .agg #[.int .i64 a0, .string ⟨#[97]⟩]] w5 fun e w' => e = .returned (.int .i64 0) ∧ ∃ O', Sd w' w1.heap.size p h O' [1] [a0] (one a0 [⟨⟨#[97]⟩, 1, 0⟩]) ∧ Stp O5 O' w5 w' := insert_one S5.out 2 1 u5 1 d5 [1] V5.out (by decide) a0 _ W0.out (by decide)
  go_wp2_with fail
  refine c.mono ?_
  rintro e w6 ⟨rfl, O6, s, f⟩
  have S6 := Lib.hid s; have L6 := Lib.hid (L5.out.trans (S5.out.below f.1))
  clear s f c
  have c : Calls Try.prog 15 #[.pointer (some ⟨p, 0, none⟩), .int .i64 1] w6 fun e w' => e = .returned (.int .i64 0) ∧ Sd w' w1.heap.size p h O6 [2] [a0] (one a0 [⟨⟨#[97]⟩, 1, 0⟩]) ∧ Stp O6 O6 w6 w' := commit_sd S6.out 1 (by decide) (by decide)
  go_wp2_with fail
  refine c.mono ?_
  rintro e w7 ⟨rfl, s, f⟩
  obtain ⟨O7, hO⟩ : ∃ O7, O7 = O6 := ⟨_, rfl⟩
  rw [← hO] at s
  have S7 := Lib.hid s; have L7 := Lib.hid (L6.out.trans (S6.out.below f.1))
  clear s f c hO
  have c : Calls Try.prog 12 #[.pointer (some ⟨p, 0, none⟩)] w7 fun e w' => e = .returned (.tuple #[.int .i64 2, .int .i64 0]) ∧ ∃ O', Sd w' w1.heap.size p h O' [2, 1] [a0] (one a0 [⟨⟨#[97]⟩, 1, 0⟩]) ∧ Stp O7 O' w7 w' := begin_sd S7.out (by decide) (by decide)
  go_wp2_with fail
  refine c.mono ?_
  rintro e w8 ⟨rfl, O8, s, f⟩
  have S8 := Lib.hid s; have L8 := Lib.hid (L7.out.trans (S7.out.below f.1))
  clear s f c
  have c : Calls Try.prog 13 #[.pointer (some ⟨p, 0, none⟩)] w8 fun e w' => ∃ u c, e = .returned (.agg #[.int .i64 3, .slice u 1 c]) ∧ Vo w' (.slice u 1 c) [2] ∧ Kept w8 w' [] := now_sd S8.out
  go_wp2_with fail
  refine c.mono ?_
  rintro e x9 ⟨u9, d9, rfl, vo, hk⟩
  obtain ⟨w9, hW⟩ : ∃ w9, w9 = x9.alloc (.cells #[.int .i64 3, .slice u9 1 d9, .int .i64 2] 37) := ⟨_, rfl⟩
  obtain ⟨g1, hg⟩ : ∃ g1, g1 = x9.heap.size := ⟨_, rfl⟩
  have V9 : Hid (Bv w9 g1 3 2 (.slice u9 1 d9) [2]) := Lib.hid (by rw [hW, hg]; exact Bv.make vo)
  have k : Kept w8 w9 [] := by rw [hW]; exact hk.alloc _
  have S9 := Lib.hid (S8.out.keep k); have L9 := Lib.hid (L8.out.trans (k.below (B := w1.heap.size) S8.out.size (by simp)))
  obtain ⟨O9, hO⟩ : ∃ O9, O9 = O8 := ⟨_, rfl⟩
  rw [← hO] at S9
  clear vo hk k c hO
  have c : Calls Try.prog 12 #[.pointer (some ⟨p, 0, none⟩)] w9 fun e w' => e = .returned (.tuple #[.int .i64 3, .int .i64 0]) ∧ ∃ O', Sd w' w1.heap.size p h O' [2, 1, 1] [a0] (one a0 [⟨⟨#[97]⟩, 1, 0⟩]) ∧ Stp O9 O' w9 w' := begin_sd S9.out (by decide) (by decide)
  go_wp2_with fail
  rw [← hW, ← hg]
  clear hW hg
  refine c.mono ?_
  rintro e w10 ⟨rfl, O10, s, f⟩
  have S10 := Lib.hid s; have L10 := Lib.hid (L9.out.trans (S9.out.below f.1)); have V10 := Lib.hid (V9.out.fo S9.out f.1)
  clear s f c
  have c : Calls Try.prog 13 #[.pointer (some ⟨p, 0, none⟩)] w10 fun e w' => ∃ u c, e = .returned (.agg #[.int .i64 4, .slice u 2 c]) ∧ Vo w' (.slice u 2 c) [2, 3] ∧ Kept w10 w' [] := now_sd S10.out
  go_wp2_with fail
  refine c.mono ?_
  rintro e x11 ⟨u11, d11, rfl, vo, hk⟩
  obtain ⟨w11, hW⟩ : ∃ w11, w11 = x11.alloc (.cells #[.int .i64 4, .slice u11 2 d11, .int .i64 3] 37) := ⟨_, rfl⟩
  obtain ⟨g2, hg⟩ : ∃ g2, g2 = x11.heap.size := ⟨_, rfl⟩
  have U11 : Hid (Bv w11 g2 4 3 (.slice u11 2 d11) [2, 3]) := Lib.hid (by rw [hW, hg]; exact Bv.make vo)
  have k : Kept w10 w11 [] := by rw [hW]; exact hk.alloc _
  have S11 := Lib.hid (S10.out.keep k); have L11 := Lib.hid (L10.out.trans (k.below (B := w1.heap.size) S10.out.size (by simp)))
  have V11 := Lib.hid (V10.out.keep k)
  obtain ⟨O11, hO⟩ : ∃ O11, O11 = O10 := ⟨_, rfl⟩
  rw [← hO] at S11
  clear vo hk k c hO
  have y0 : (x11.alloc (.cells #[.int .i64 4, .slice u11 2 d11, .int .i64 3] 37)).cell? ⟨g1, 0, none⟩ = some (.int .i64 3) := by rw [← hW]; exact V11.out.cells.1
  have y1 : (x11.alloc (.cells #[.int .i64 4, .slice u11 2 d11, .int .i64 3] 37)).cell? ⟨g1, 1, none⟩ = some (.slice u9 1 d9) := by rw [← hW]; exact V11.out.cells.2.1
  have y2 : (x11.alloc (.cells #[.int .i64 4, .slice u11 2 d11, .int .i64 3] 37)).cell? ⟨g1, 2, none⟩ = some (.int .i64 2) := by rw [← hW]; exact V11.out.cells.2.2
  have c : Calls Try.prog 18 #[.pointer (some ⟨h, 0, none⟩), .agg #[.int .i64 3, .slice u9 1 d9, .int .i64 2], .int .i64 a0] w11 fun e w' => e = .returned (.int .i64 0) ∧ ∃ O', Sd w' w1.heap.size p h O' [2, 1, 1] [a0] (one a0 [⟨⟨#[97]⟩, 1, 2⟩]) ∧ Stp O11 O' w11 w' := delete_one S11.out 3 2 u9 1 d9 [2] V11.out.2 (by decide) W0.out
  go_wp2_with fail
  rw [← hW, ← hg]
  clear hW hg y0 y1 y2
  refine c.mono ?_
  rintro e w12 ⟨rfl, O12, s, f⟩
  have S12 := Lib.hid s; have L12 := Lib.hid (L11.out.trans (S11.out.below f.1)); have U12 := Lib.hid (U11.out.fo S11.out f.1)
  clear s f c
  obtain ⟨z0, z1, z2⟩ := U12.out.cells
  have c : Calls Try.prog 18 #[.pointer (some ⟨h, 0, none⟩), .agg #[.int .i64 4, .slice u11 2 d11, .int .i64 3], .int .i64 a0] w12 fun e w' => e = .returned (.int .i64 6) ∧ ∃ O', Sd w' w1.heap.size p h O' [2, 1, 1] [a0] (one a0 [⟨⟨#[97]⟩, 1, 2⟩]) ∧ Stp O12 O' w12 w' := delete_one S12.out 4 3 u11 2 d11 [2, 3] U12.out.2 (by decide) W0.out
  go_wp2_with fail
  refine c.mono ?_
  rintro e w13 ⟨rfl, O13, s, f⟩
  have F13 : Hid (one a0 [⟨⟨#[97]⟩, 1, 2⟩] = one a0 [⟨⟨#[97]⟩, 1, 2⟩]) := Lib.hid rfl
  have S13 := Lib.hid s; have L13 := Lib.hid (L12.out.trans (S12.out.below f.1)); have U13 := Lib.hid (U12.out.fo S12.out f.1)
  clear s f c z0 z1 z2
  obtain ⟨z0, z1, z2⟩ := U13.out.cells
  have c := get_sd S13.out 4 3 u11 2 d11 [2, 3] U13.out.2 a0 W0.out
  rw [one_same] at c
  have c' : Calls Try.prog 22 #[.pointer (some ⟨h, 0, none⟩), .agg #[.int .i64 4, .slice u11 2 d11, .int .i64 3], .int .i64 a0] w13 fun e w' => e = .returned (.tuple #[.agg #[.int .i64 a0, .string ⟨#[97]⟩], .bool true]) ∧ Kept w13 w' [] := c
  clear c
  go_wp2_with fail
  refine c'.mono ?_
  rintro e w14 ⟨rfl, hk⟩
  have L14 := Lib.hid (L13.out.trans (hk.below (B := w1.heap.size) S13.out.size (by simp)))
  clear hk c' z0 z1 z2
  go_wp2
  go_ret
  exact ⟨rfl, (K1.out.below (Nat.le_refl _) (by simp)).trans ((L14.out.alloc L14.out.size _).mono K1.out.size)⟩

set_option maxHeartbeats 4000000 in
set_option maxRecDepth 100000 in
theorem way120 (a0 a1 a2 a3 : Int) (w0 : (Lit.int .i64 a0).wf = true) (e1 : a1 % 2 = 1) (e1' : a1.tmod 2 = 1) (e2 : a2 % 3 = 2) (e2' : a2.tmod 3 = 2) (e3 : a3 % 3 = 0) (e3' : a3.tmod 3 = 0) (W : World) :
    Calls Try.prog 4 #[.int .i64 a0, .int .u8 a1, .int .u8 a2, .int .u8 a3] W fun e w' => e = .returned (.bool true) ∧ Below W.heap.size W w' := by
  have W0 := Lib.hid w0
  clear w0
  go_enter Try.func4, Try.ntmps4
  go_wp2_with fail
  refine (clash_any W).mono ?_
  rintro e w1 ⟨rfl, hk⟩
  have K1 := Lib.hid hk; clear hk
  go_wp2_with fail
  refine (mnew_any w1).mono ?_
  rintro e w2 ⟨p, b, v1, rfl, hm, hk⟩
  have M2 := Lib.hid hm; have K2 := Lib.hid hk
  clear hm hk
  go_wp2_with fail
  refine (hnew_sd M2.out).mono ?_
  rintro e w3 ⟨h, O3, rfl, s, hk, _⟩
  have S3 := Lib.hid s; have L3 := Lib.hid (show Below w1.heap.size w1 w3 from (K2.out.trans hk (by simp)).below (Nat.le_refl _) (by simp))
  clear s hk
  have c : Calls Try.prog 12 #[.pointer (some ⟨p, 0, none⟩)] w3 fun e w' => e = .returned (.tuple #[.int .i64 1, .int .i64 0]) ∧ ∃ O', Sd w' w1.heap.size p h O' [1] [] (fun _ => []) ∧ Stp O3 O' w3 w' := begin_sd S3.out (by decide) (by decide)
  go_wp2_with fail
  refine c.mono ?_
  rintro e w4 ⟨rfl, O4, s, f⟩
  have S4 := Lib.hid s; have L4 := Lib.hid (L3.out.trans (S3.out.below f.1))
  clear s f c
  have c : Calls Try.prog 13 #[.pointer (some ⟨p, 0, none⟩)] w4 fun e w' => ∃ u c, e = .returned (.agg #[.int .i64 2, .slice u 1 c]) ∧ Vo w' (.slice u 1 c) [1] ∧ Kept w4 w' [] := now_sd S4.out
  go_wp2_with fail
  refine c.mono ?_
  rintro e w5 ⟨u5, d5, rfl, vo, hk⟩
  have S5 := Lib.hid (S4.out.keep hk); have L5 := Lib.hid (L4.out.trans (hk.below (B := w1.heap.size) S4.out.size (by simp))); have V5 := Lib.hid vo
  obtain ⟨O5, hO⟩ : ∃ O5, O5 = O4 := ⟨_, rfl⟩
  rw [← hO] at S5
  clear vo hk c hO
  have c : Calls Try.prog 14 #[.pointer (some ⟨h, 0, none⟩), .agg #[.int .i64 2, .slice u5 1 d5, .int .i64 1], .agg #[.int .i64 a0, .string ⟨#[97]⟩]] w5 fun e w' => e = .returned (.int .i64 0) ∧ ∃ O', Sd w' w1.heap.size p h O' [1] [a0] (one a0 [⟨⟨#[97]⟩, 1, 0⟩]) ∧ Stp O5 O' w5 w' := insert_one S5.out 2 1 u5 1 d5 [1] V5.out (by decide) a0 _ W0.out (by decide)
  go_wp2_with fail
  refine c.mono ?_
  rintro e w6 ⟨rfl, O6, s, f⟩
  have S6 := Lib.hid s; have L6 := Lib.hid (L5.out.trans (S5.out.below f.1))
  clear s f c
  have c : Calls Try.prog 15 #[.pointer (some ⟨p, 0, none⟩), .int .i64 1] w6 fun e w' => e = .returned (.int .i64 0) ∧ Sd w' w1.heap.size p h O6 [2] [a0] (one a0 [⟨⟨#[97]⟩, 1, 0⟩]) ∧ Stp O6 O6 w6 w' := commit_sd S6.out 1 (by decide) (by decide)
  go_wp2_with fail
  refine c.mono ?_
  rintro e w7 ⟨rfl, s, f⟩
  obtain ⟨O7, hO⟩ : ∃ O7, O7 = O6 := ⟨_, rfl⟩
  rw [← hO] at s
  have S7 := Lib.hid s; have L7 := Lib.hid (L6.out.trans (S6.out.below f.1))
  clear s f c hO
  have c : Calls Try.prog 12 #[.pointer (some ⟨p, 0, none⟩)] w7 fun e w' => e = .returned (.tuple #[.int .i64 2, .int .i64 0]) ∧ ∃ O', Sd w' w1.heap.size p h O' [2, 1] [a0] (one a0 [⟨⟨#[97]⟩, 1, 0⟩]) ∧ Stp O7 O' w7 w' := begin_sd S7.out (by decide) (by decide)
  go_wp2_with fail
  refine c.mono ?_
  rintro e w8 ⟨rfl, O8, s, f⟩
  have S8 := Lib.hid s; have L8 := Lib.hid (L7.out.trans (S7.out.below f.1))
  clear s f c
  have c : Calls Try.prog 13 #[.pointer (some ⟨p, 0, none⟩)] w8 fun e w' => ∃ u c, e = .returned (.agg #[.int .i64 3, .slice u 1 c]) ∧ Vo w' (.slice u 1 c) [2] ∧ Kept w8 w' [] := now_sd S8.out
  go_wp2_with fail
  refine c.mono ?_
  rintro e x9 ⟨u9, d9, rfl, vo, hk⟩
  obtain ⟨w9, hW⟩ : ∃ w9, w9 = x9.alloc (.cells #[.int .i64 3, .slice u9 1 d9, .int .i64 2] 37) := ⟨_, rfl⟩
  obtain ⟨g1, hg⟩ : ∃ g1, g1 = x9.heap.size := ⟨_, rfl⟩
  have V9 : Hid (Bv w9 g1 3 2 (.slice u9 1 d9) [2]) := Lib.hid (by rw [hW, hg]; exact Bv.make vo)
  have k : Kept w8 w9 [] := by rw [hW]; exact hk.alloc _
  have S9 := Lib.hid (S8.out.keep k); have L9 := Lib.hid (L8.out.trans (k.below (B := w1.heap.size) S8.out.size (by simp)))
  obtain ⟨O9, hO⟩ : ∃ O9, O9 = O8 := ⟨_, rfl⟩
  rw [← hO] at S9
  clear vo hk k c hO
  have c : Calls Try.prog 12 #[.pointer (some ⟨p, 0, none⟩)] w9 fun e w' => e = .returned (.tuple #[.int .i64 3, .int .i64 0]) ∧ ∃ O', Sd w' w1.heap.size p h O' [2, 1, 1] [a0] (one a0 [⟨⟨#[97]⟩, 1, 0⟩]) ∧ Stp O9 O' w9 w' := begin_sd S9.out (by decide) (by decide)
  go_wp2_with fail
  rw [← hW, ← hg]
  clear hW hg
  refine c.mono ?_
  rintro e w10 ⟨rfl, O10, s, f⟩
  have S10 := Lib.hid s; have L10 := Lib.hid (L9.out.trans (S9.out.below f.1)); have V10 := Lib.hid (V9.out.fo S9.out f.1)
  clear s f c
  have c : Calls Try.prog 13 #[.pointer (some ⟨p, 0, none⟩)] w10 fun e w' => ∃ u c, e = .returned (.agg #[.int .i64 4, .slice u 2 c]) ∧ Vo w' (.slice u 2 c) [2, 3] ∧ Kept w10 w' [] := now_sd S10.out
  go_wp2_with fail
  refine c.mono ?_
  rintro e x11 ⟨u11, d11, rfl, vo, hk⟩
  obtain ⟨w11, hW⟩ : ∃ w11, w11 = x11.alloc (.cells #[.int .i64 4, .slice u11 2 d11, .int .i64 3] 37) := ⟨_, rfl⟩
  obtain ⟨g2, hg⟩ : ∃ g2, g2 = x11.heap.size := ⟨_, rfl⟩
  have U11 : Hid (Bv w11 g2 4 3 (.slice u11 2 d11) [2, 3]) := Lib.hid (by rw [hW, hg]; exact Bv.make vo)
  have k : Kept w10 w11 [] := by rw [hW]; exact hk.alloc _
  have S11 := Lib.hid (S10.out.keep k); have L11 := Lib.hid (L10.out.trans (k.below (B := w1.heap.size) S10.out.size (by simp)))
  have V11 := Lib.hid (V10.out.keep k)
  obtain ⟨O11, hO⟩ : ∃ O11, O11 = O10 := ⟨_, rfl⟩
  rw [← hO] at S11
  clear vo hk k c hO
  have y0 : (x11.alloc (.cells #[.int .i64 4, .slice u11 2 d11, .int .i64 3] 37)).cell? ⟨g1, 0, none⟩ = some (.int .i64 3) := by rw [← hW]; exact V11.out.cells.1
  have y1 : (x11.alloc (.cells #[.int .i64 4, .slice u11 2 d11, .int .i64 3] 37)).cell? ⟨g1, 1, none⟩ = some (.slice u9 1 d9) := by rw [← hW]; exact V11.out.cells.2.1
  have y2 : (x11.alloc (.cells #[.int .i64 4, .slice u11 2 d11, .int .i64 3] 37)).cell? ⟨g1, 2, none⟩ = some (.int .i64 2) := by rw [← hW]; exact V11.out.cells.2.2
  have c : Calls Try.prog 18 #[.pointer (some ⟨h, 0, none⟩), .agg #[.int .i64 3, .slice u9 1 d9, .int .i64 2], .int .i64 a0] w11 fun e w' => e = .returned (.int .i64 0) ∧ ∃ O', Sd w' w1.heap.size p h O' [2, 1, 1] [a0] (one a0 [⟨⟨#[97]⟩, 1, 2⟩]) ∧ Stp O11 O' w11 w' := delete_one S11.out 3 2 u9 1 d9 [2] V11.out.2 (by decide) W0.out
  go_wp2_with fail
  rw [← hW, ← hg]
  clear hW hg y0 y1 y2
  refine c.mono ?_
  rintro e w12 ⟨rfl, O12, s, f⟩
  have S12 := Lib.hid s; have L12 := Lib.hid (L11.out.trans (S11.out.below f.1)); have U12 := Lib.hid (U11.out.fo S11.out f.1)
  clear s f c
  have c : Calls Try.prog 15 #[.pointer (some ⟨p, 0, none⟩), .int .i64 2] w12 fun e w' => e = .returned (.int .i64 0) ∧ Sd w' w1.heap.size p h O12 [2, 2, 1] [a0] (one a0 [⟨⟨#[97]⟩, 1, 2⟩]) ∧ Stp O12 O12 w12 w' := commit_sd S12.out 2 (by decide) (by decide)
  go_wp2_with fail
  refine c.mono ?_
  rintro e w13 ⟨rfl, s, f⟩
  obtain ⟨O13, hO⟩ : ∃ O13, O13 = O12 := ⟨_, rfl⟩
  rw [← hO] at s
  have S13 := Lib.hid s; have L13 := Lib.hid (L12.out.trans (S12.out.below f.1))
  have U13 := Lib.hid (U12.out.fo S12.out f.1)
  clear s f c hO
  obtain ⟨z0, z1, z2⟩ := U13.out.cells
  have c : Calls Try.prog 19 #[.pointer (some ⟨h, 0, none⟩), .agg #[.int .i64 4, .slice u11 2 d11, .int .i64 3]] w13 fun e w' => ∃ u' n' c', e = .returned (.tuple #[.slice u' n' c', .int .i64 6]) ∧ ∃ O' F', Sd w' w1.heap.size p h O' [2, 2, 1] [a0] F' ∧ Stp O13 O' w13 w' ∧ ((6 : Int) ≠ 0 → F' = one a0 [⟨⟨#[97]⟩, 1, 2⟩]) := truncate_one S13.out 4 3 u11 2 d11 [2, 3] U13.out.2 (by decide) (by decide)
  go_wp2_with fail
  refine c.mono ?_
  rintro e w14 ⟨u', n', c', rfl, O14, F', s, f, hF⟩
  obtain rfl := hF (by decide)
  have S14 := Lib.hid s; have L14 := Lib.hid (L13.out.trans (S13.out.below f.1)); have U14 := Lib.hid (U13.out.fo S13.out f.1)
  clear s f c z0 z1 z2
  obtain ⟨z0, z1, z2⟩ := U14.out.cells
  have c := get_sd S14.out 4 3 u11 2 d11 [2, 3] U14.out.2 a0 W0.out
  rw [one_same] at c
  have c' : Calls Try.prog 22 #[.pointer (some ⟨h, 0, none⟩), .agg #[.int .i64 4, .slice u11 2 d11, .int .i64 3], .int .i64 a0] w14 fun e w' => e = .returned (.tuple #[.agg #[.int .i64 a0, .string ⟨#[97]⟩], .bool true]) ∧ Kept w14 w' [] := c
  clear c
  go_wp2_with fail
  refine c'.mono ?_
  rintro e w15 ⟨rfl, hk⟩
  have L15 := Lib.hid (L14.out.trans (hk.below (B := w1.heap.size) S14.out.size (by simp)))
  clear hk c' z0 z1 z2
  go_wp2
  go_ret
  exact ⟨rfl, (K1.out.below (Nat.le_refl _) (by simp)).trans ((L15.out.alloc L15.out.size _).mono K1.out.size)⟩

set_option maxHeartbeats 4000000 in
set_option maxRecDepth 100000 in
theorem way121 (a0 a1 a2 a3 : Int) (w0 : (Lit.int .i64 a0).wf = true) (e1 : a1 % 2 = 1) (e1' : a1.tmod 2 = 1) (e2 : a2 % 3 = 2) (e2' : a2.tmod 3 = 2) (e3 : a3 % 3 = 1) (e3' : a3.tmod 3 = 1) (W : World) :
    Calls Try.prog 4 #[.int .i64 a0, .int .u8 a1, .int .u8 a2, .int .u8 a3] W fun e w' => e = .returned (.bool true) ∧ Below W.heap.size W w' := by
  have W0 := Lib.hid w0
  clear w0
  go_enter Try.func4, Try.ntmps4
  go_wp2_with fail
  refine (clash_any W).mono ?_
  rintro e w1 ⟨rfl, hk⟩
  have K1 := Lib.hid hk; clear hk
  go_wp2_with fail
  refine (mnew_any w1).mono ?_
  rintro e w2 ⟨p, b, v1, rfl, hm, hk⟩
  have M2 := Lib.hid hm; have K2 := Lib.hid hk
  clear hm hk
  go_wp2_with fail
  refine (hnew_sd M2.out).mono ?_
  rintro e w3 ⟨h, O3, rfl, s, hk, _⟩
  have S3 := Lib.hid s; have L3 := Lib.hid (show Below w1.heap.size w1 w3 from (K2.out.trans hk (by simp)).below (Nat.le_refl _) (by simp))
  clear s hk
  have c : Calls Try.prog 12 #[.pointer (some ⟨p, 0, none⟩)] w3 fun e w' => e = .returned (.tuple #[.int .i64 1, .int .i64 0]) ∧ ∃ O', Sd w' w1.heap.size p h O' [1] [] (fun _ => []) ∧ Stp O3 O' w3 w' := begin_sd S3.out (by decide) (by decide)
  go_wp2_with fail
  refine c.mono ?_
  rintro e w4 ⟨rfl, O4, s, f⟩
  have S4 := Lib.hid s; have L4 := Lib.hid (L3.out.trans (S3.out.below f.1))
  clear s f c
  have c : Calls Try.prog 13 #[.pointer (some ⟨p, 0, none⟩)] w4 fun e w' => ∃ u c, e = .returned (.agg #[.int .i64 2, .slice u 1 c]) ∧ Vo w' (.slice u 1 c) [1] ∧ Kept w4 w' [] := now_sd S4.out
  go_wp2_with fail
  refine c.mono ?_
  rintro e w5 ⟨u5, d5, rfl, vo, hk⟩
  have S5 := Lib.hid (S4.out.keep hk); have L5 := Lib.hid (L4.out.trans (hk.below (B := w1.heap.size) S4.out.size (by simp))); have V5 := Lib.hid vo
  obtain ⟨O5, hO⟩ : ∃ O5, O5 = O4 := ⟨_, rfl⟩
  rw [← hO] at S5
  clear vo hk c hO
  have c : Calls Try.prog 14 #[.pointer (some ⟨h, 0, none⟩), .agg #[.int .i64 2, .slice u5 1 d5, .int .i64 1], .agg #[.int .i64 a0, .string ⟨#[97]⟩]] w5 fun e w' => e = .returned (.int .i64 0) ∧ ∃ O', Sd w' w1.heap.size p h O' [1] [a0] (one a0 [⟨⟨#[97]⟩, 1, 0⟩]) ∧ Stp O5 O' w5 w' := insert_one S5.out 2 1 u5 1 d5 [1] V5.out (by decide) a0 _ W0.out (by decide)
  go_wp2_with fail
  refine c.mono ?_
  rintro e w6 ⟨rfl, O6, s, f⟩
  have S6 := Lib.hid s; have L6 := Lib.hid (L5.out.trans (S5.out.below f.1))
  clear s f c
  have c : Calls Try.prog 15 #[.pointer (some ⟨p, 0, none⟩), .int .i64 1] w6 fun e w' => e = .returned (.int .i64 0) ∧ Sd w' w1.heap.size p h O6 [2] [a0] (one a0 [⟨⟨#[97]⟩, 1, 0⟩]) ∧ Stp O6 O6 w6 w' := commit_sd S6.out 1 (by decide) (by decide)
  go_wp2_with fail
  refine c.mono ?_
  rintro e w7 ⟨rfl, s, f⟩
  obtain ⟨O7, hO⟩ : ∃ O7, O7 = O6 := ⟨_, rfl⟩
  rw [← hO] at s
  have S7 := Lib.hid s; have L7 := Lib.hid (L6.out.trans (S6.out.below f.1))
  clear s f c hO
  have c : Calls Try.prog 12 #[.pointer (some ⟨p, 0, none⟩)] w7 fun e w' => e = .returned (.tuple #[.int .i64 2, .int .i64 0]) ∧ ∃ O', Sd w' w1.heap.size p h O' [2, 1] [a0] (one a0 [⟨⟨#[97]⟩, 1, 0⟩]) ∧ Stp O7 O' w7 w' := begin_sd S7.out (by decide) (by decide)
  go_wp2_with fail
  refine c.mono ?_
  rintro e w8 ⟨rfl, O8, s, f⟩
  have S8 := Lib.hid s; have L8 := Lib.hid (L7.out.trans (S7.out.below f.1))
  clear s f c
  have c : Calls Try.prog 13 #[.pointer (some ⟨p, 0, none⟩)] w8 fun e w' => ∃ u c, e = .returned (.agg #[.int .i64 3, .slice u 1 c]) ∧ Vo w' (.slice u 1 c) [2] ∧ Kept w8 w' [] := now_sd S8.out
  go_wp2_with fail
  refine c.mono ?_
  rintro e x9 ⟨u9, d9, rfl, vo, hk⟩
  obtain ⟨w9, hW⟩ : ∃ w9, w9 = x9.alloc (.cells #[.int .i64 3, .slice u9 1 d9, .int .i64 2] 37) := ⟨_, rfl⟩
  obtain ⟨g1, hg⟩ : ∃ g1, g1 = x9.heap.size := ⟨_, rfl⟩
  have V9 : Hid (Bv w9 g1 3 2 (.slice u9 1 d9) [2]) := Lib.hid (by rw [hW, hg]; exact Bv.make vo)
  have k : Kept w8 w9 [] := by rw [hW]; exact hk.alloc _
  have S9 := Lib.hid (S8.out.keep k); have L9 := Lib.hid (L8.out.trans (k.below (B := w1.heap.size) S8.out.size (by simp)))
  obtain ⟨O9, hO⟩ : ∃ O9, O9 = O8 := ⟨_, rfl⟩
  rw [← hO] at S9
  clear vo hk k c hO
  have c : Calls Try.prog 12 #[.pointer (some ⟨p, 0, none⟩)] w9 fun e w' => e = .returned (.tuple #[.int .i64 3, .int .i64 0]) ∧ ∃ O', Sd w' w1.heap.size p h O' [2, 1, 1] [a0] (one a0 [⟨⟨#[97]⟩, 1, 0⟩]) ∧ Stp O9 O' w9 w' := begin_sd S9.out (by decide) (by decide)
  go_wp2_with fail
  rw [← hW, ← hg]
  clear hW hg
  refine c.mono ?_
  rintro e w10 ⟨rfl, O10, s, f⟩
  have S10 := Lib.hid s; have L10 := Lib.hid (L9.out.trans (S9.out.below f.1)); have V10 := Lib.hid (V9.out.fo S9.out f.1)
  clear s f c
  have c : Calls Try.prog 13 #[.pointer (some ⟨p, 0, none⟩)] w10 fun e w' => ∃ u c, e = .returned (.agg #[.int .i64 4, .slice u 2 c]) ∧ Vo w' (.slice u 2 c) [2, 3] ∧ Kept w10 w' [] := now_sd S10.out
  go_wp2_with fail
  refine c.mono ?_
  rintro e x11 ⟨u11, d11, rfl, vo, hk⟩
  obtain ⟨w11, hW⟩ : ∃ w11, w11 = x11.alloc (.cells #[.int .i64 4, .slice u11 2 d11, .int .i64 3] 37) := ⟨_, rfl⟩
  obtain ⟨g2, hg⟩ : ∃ g2, g2 = x11.heap.size := ⟨_, rfl⟩
  have U11 : Hid (Bv w11 g2 4 3 (.slice u11 2 d11) [2, 3]) := Lib.hid (by rw [hW, hg]; exact Bv.make vo)
  have k : Kept w10 w11 [] := by rw [hW]; exact hk.alloc _
  have S11 := Lib.hid (S10.out.keep k); have L11 := Lib.hid (L10.out.trans (k.below (B := w1.heap.size) S10.out.size (by simp)))
  have V11 := Lib.hid (V10.out.keep k)
  obtain ⟨O11, hO⟩ : ∃ O11, O11 = O10 := ⟨_, rfl⟩
  rw [← hO] at S11
  clear vo hk k c hO
  have y0 : (x11.alloc (.cells #[.int .i64 4, .slice u11 2 d11, .int .i64 3] 37)).cell? ⟨g1, 0, none⟩ = some (.int .i64 3) := by rw [← hW]; exact V11.out.cells.1
  have y1 : (x11.alloc (.cells #[.int .i64 4, .slice u11 2 d11, .int .i64 3] 37)).cell? ⟨g1, 1, none⟩ = some (.slice u9 1 d9) := by rw [← hW]; exact V11.out.cells.2.1
  have y2 : (x11.alloc (.cells #[.int .i64 4, .slice u11 2 d11, .int .i64 3] 37)).cell? ⟨g1, 2, none⟩ = some (.int .i64 2) := by rw [← hW]; exact V11.out.cells.2.2
  have c : Calls Try.prog 18 #[.pointer (some ⟨h, 0, none⟩), .agg #[.int .i64 3, .slice u9 1 d9, .int .i64 2], .int .i64 a0] w11 fun e w' => e = .returned (.int .i64 0) ∧ ∃ O', Sd w' w1.heap.size p h O' [2, 1, 1] [a0] (one a0 [⟨⟨#[97]⟩, 1, 2⟩]) ∧ Stp O11 O' w11 w' := delete_one S11.out 3 2 u9 1 d9 [2] V11.out.2 (by decide) W0.out
  go_wp2_with fail
  rw [← hW, ← hg]
  clear hW hg y0 y1 y2
  refine c.mono ?_
  rintro e w12 ⟨rfl, O12, s, f⟩
  have S12 := Lib.hid s; have L12 := Lib.hid (L11.out.trans (S11.out.below f.1)); have U12 := Lib.hid (U11.out.fo S11.out f.1)
  clear s f c
  have c : Calls Try.prog 20 #[.pointer (some ⟨p, 0, none⟩), .int .i64 2] w12 fun e w' => e = .returned (.int .i64 0) ∧ Sd w' w1.heap.size p h O12 [2, 3, 1] [a0] (one a0 [⟨⟨#[97]⟩, 1, 2⟩]) ∧ Stp O12 O12 w12 w' := abort_sd S12.out 2 (by decide) (by decide)
  go_wp2_with fail
  refine c.mono ?_
  rintro e w13 ⟨rfl, s, f⟩
  obtain ⟨O13, hO⟩ : ∃ O13, O13 = O12 := ⟨_, rfl⟩
  rw [← hO] at s
  have S13 := Lib.hid s; have L13 := Lib.hid (L12.out.trans (S12.out.below f.1))
  have U13 := Lib.hid (U12.out.fo S12.out f.1)
  clear s f c hO
  obtain ⟨z0, z1, z2⟩ := U13.out.cells
  have c : Calls Try.prog 19 #[.pointer (some ⟨h, 0, none⟩), .agg #[.int .i64 4, .slice u11 2 d11, .int .i64 3]] w13 fun e w' => ∃ u' n' c', e = .returned (.tuple #[.slice u' n' c', .int .i64 0]) ∧ ∃ O' F', Sd w' w1.heap.size p h O' [2, 3, 1] [a0] F' ∧ Stp O13 O' w13 w' ∧ ((0 : Int) ≠ 0 → F' = one a0 [⟨⟨#[97]⟩, 1, 2⟩]) := truncate_one S13.out 4 3 u11 2 d11 [2, 3] U13.out.2 (by decide) (by decide)
  go_wp2_with fail
  refine c.mono ?_
  rintro e w14 ⟨u', n', c', rfl, O14, F', s, f, hF⟩
  clear hF
  have S14 := Lib.hid s; have L14 := Lib.hid (L13.out.trans (S13.out.below f.1)); have U14 := Lib.hid (U13.out.fo S13.out f.1)
  clear s f c z0 z1 z2
  obtain ⟨z0, z1, z2⟩ := U14.out.cells
  have c := get_sd S14.out 4 3 u11 2 d11 [2, 3] U14.out.2 a0 W0.out
  obtain ⟨gk, gt, gf, hgt⟩ := getT_form [2, 3, 1] ⟨4, [2, 3], 3⟩ a0 (F' a0)
  rw [hgt] at c
  clear hgt
  have C := Lib.hid c
  clear c
  go_wp2_with fail
  refine C.out.mono ?_
  rintro e w15 ⟨rfl, hk⟩
  have L15 := Lib.hid (L14.out.trans (hk.below (B := w1.heap.size) S14.out.size (by simp)))
  clear hk C z0 z1 z2
  go_wp2
  go_ret
  exact ⟨rfl, (K1.out.below (Nat.le_refl _) (by simp)).trans ((L15.out.alloc L15.out.size _).mono K1.out.size)⟩

set_option maxHeartbeats 4000000 in
set_option maxRecDepth 100000 in
theorem way122 (a0 a1 a2 a3 : Int) (w0 : (Lit.int .i64 a0).wf = true) (e1 : a1 % 2 = 1) (e1' : a1.tmod 2 = 1) (e2 : a2 % 3 = 2) (e2' : a2.tmod 3 = 2) (e3 : a3 % 3 = 2) (e3' : a3.tmod 3 = 2) (W : World) :
    Calls Try.prog 4 #[.int .i64 a0, .int .u8 a1, .int .u8 a2, .int .u8 a3] W fun e w' => e = .returned (.bool true) ∧ Below W.heap.size W w' := by
  have W0 := Lib.hid w0
  clear w0
  go_enter Try.func4, Try.ntmps4
  go_wp2_with fail
  refine (clash_any W).mono ?_
  rintro e w1 ⟨rfl, hk⟩
  have K1 := Lib.hid hk; clear hk
  go_wp2_with fail
  refine (mnew_any w1).mono ?_
  rintro e w2 ⟨p, b, v1, rfl, hm, hk⟩
  have M2 := Lib.hid hm; have K2 := Lib.hid hk
  clear hm hk
  go_wp2_with fail
  refine (hnew_sd M2.out).mono ?_
  rintro e w3 ⟨h, O3, rfl, s, hk, _⟩
  have S3 := Lib.hid s; have L3 := Lib.hid (show Below w1.heap.size w1 w3 from (K2.out.trans hk (by simp)).below (Nat.le_refl _) (by simp))
  clear s hk
  have c : Calls Try.prog 12 #[.pointer (some ⟨p, 0, none⟩)] w3 fun e w' => e = .returned (.tuple #[.int .i64 1, .int .i64 0]) ∧ ∃ O', Sd w' w1.heap.size p h O' [1] [] (fun _ => []) ∧ Stp O3 O' w3 w' := begin_sd S3.out (by decide) (by decide)
  go_wp2_with fail
  refine c.mono ?_
  rintro e w4 ⟨rfl, O4, s, f⟩
  have S4 := Lib.hid s; have L4 := Lib.hid (L3.out.trans (S3.out.below f.1))
  clear s f c
  have c : Calls Try.prog 13 #[.pointer (some ⟨p, 0, none⟩)] w4 fun e w' => ∃ u c, e = .returned (.agg #[.int .i64 2, .slice u 1 c]) ∧ Vo w' (.slice u 1 c) [1] ∧ Kept w4 w' [] := now_sd S4.out
  go_wp2_with fail
  refine c.mono ?_
  rintro e w5 ⟨u5, d5, rfl, vo, hk⟩
  have S5 := Lib.hid (S4.out.keep hk); have L5 := Lib.hid (L4.out.trans (hk.below (B := w1.heap.size) S4.out.size (by simp))); have V5 := Lib.hid vo
  obtain ⟨O5, hO⟩ : ∃ O5, O5 = O4 := ⟨_, rfl⟩
  rw [← hO] at S5
  clear vo hk c hO
  have c : Calls Try.prog 14 #[.pointer (some ⟨h, 0, none⟩), .agg #[.int .i64 2, .slice u5 1 d5, .int .i64 1], .agg #[.int .i64 a0, .string ⟨#[97]⟩]] w5 fun e w' => e = .returned (.int .i64 0) ∧ ∃ O', Sd w' w1.heap.size p h O' [1] [a0] (one a0 [⟨⟨#[97]⟩, 1, 0⟩]) ∧ Stp O5 O' w5 w' := insert_one S5.out 2 1 u5 1 d5 [1] V5.out (by decide) a0 _ W0.out (by decide)
  go_wp2_with fail
  refine c.mono ?_
  rintro e w6 ⟨rfl, O6, s, f⟩
  have S6 := Lib.hid s; have L6 := Lib.hid (L5.out.trans (S5.out.below f.1))
  clear s f c
  have c : Calls Try.prog 15 #[.pointer (some ⟨p, 0, none⟩), .int .i64 1] w6 fun e w' => e = .returned (.int .i64 0) ∧ Sd w' w1.heap.size p h O6 [2] [a0] (one a0 [⟨⟨#[97]⟩, 1, 0⟩]) ∧ Stp O6 O6 w6 w' := commit_sd S6.out 1 (by decide) (by decide)
  go_wp2_with fail
  refine c.mono ?_
  rintro e w7 ⟨rfl, s, f⟩
  obtain ⟨O7, hO⟩ : ∃ O7, O7 = O6 := ⟨_, rfl⟩
  rw [← hO] at s
  have S7 := Lib.hid s; have L7 := Lib.hid (L6.out.trans (S6.out.below f.1))
  clear s f c hO
  have c : Calls Try.prog 12 #[.pointer (some ⟨p, 0, none⟩)] w7 fun e w' => e = .returned (.tuple #[.int .i64 2, .int .i64 0]) ∧ ∃ O', Sd w' w1.heap.size p h O' [2, 1] [a0] (one a0 [⟨⟨#[97]⟩, 1, 0⟩]) ∧ Stp O7 O' w7 w' := begin_sd S7.out (by decide) (by decide)
  go_wp2_with fail
  refine c.mono ?_
  rintro e w8 ⟨rfl, O8, s, f⟩
  have S8 := Lib.hid s; have L8 := Lib.hid (L7.out.trans (S7.out.below f.1))
  clear s f c
  have c : Calls Try.prog 13 #[.pointer (some ⟨p, 0, none⟩)] w8 fun e w' => ∃ u c, e = .returned (.agg #[.int .i64 3, .slice u 1 c]) ∧ Vo w' (.slice u 1 c) [2] ∧ Kept w8 w' [] := now_sd S8.out
  go_wp2_with fail
  refine c.mono ?_
  rintro e x9 ⟨u9, d9, rfl, vo, hk⟩
  obtain ⟨w9, hW⟩ : ∃ w9, w9 = x9.alloc (.cells #[.int .i64 3, .slice u9 1 d9, .int .i64 2] 37) := ⟨_, rfl⟩
  obtain ⟨g1, hg⟩ : ∃ g1, g1 = x9.heap.size := ⟨_, rfl⟩
  have V9 : Hid (Bv w9 g1 3 2 (.slice u9 1 d9) [2]) := Lib.hid (by rw [hW, hg]; exact Bv.make vo)
  have k : Kept w8 w9 [] := by rw [hW]; exact hk.alloc _
  have S9 := Lib.hid (S8.out.keep k); have L9 := Lib.hid (L8.out.trans (k.below (B := w1.heap.size) S8.out.size (by simp)))
  obtain ⟨O9, hO⟩ : ∃ O9, O9 = O8 := ⟨_, rfl⟩
  rw [← hO] at S9
  clear vo hk k c hO
  have c : Calls Try.prog 12 #[.pointer (some ⟨p, 0, none⟩)] w9 fun e w' => e = .returned (.tuple #[.int .i64 3, .int .i64 0]) ∧ ∃ O', Sd w' w1.heap.size p h O' [2, 1, 1] [a0] (one a0 [⟨⟨#[97]⟩, 1, 0⟩]) ∧ Stp O9 O' w9 w' := begin_sd S9.out (by decide) (by decide)
  go_wp2_with fail
  rw [← hW, ← hg]
  clear hW hg
  refine c.mono ?_
  rintro e w10 ⟨rfl, O10, s, f⟩
  have S10 := Lib.hid s; have L10 := Lib.hid (L9.out.trans (S9.out.below f.1)); have V10 := Lib.hid (V9.out.fo S9.out f.1)
  clear s f c
  have c : Calls Try.prog 13 #[.pointer (some ⟨p, 0, none⟩)] w10 fun e w' => ∃ u c, e = .returned (.agg #[.int .i64 4, .slice u 2 c]) ∧ Vo w' (.slice u 2 c) [2, 3] ∧ Kept w10 w' [] := now_sd S10.out
  go_wp2_with fail
  refine c.mono ?_
  rintro e x11 ⟨u11, d11, rfl, vo, hk⟩
  obtain ⟨w11, hW⟩ : ∃ w11, w11 = x11.alloc (.cells #[.int .i64 4, .slice u11 2 d11, .int .i64 3] 37) := ⟨_, rfl⟩
  obtain ⟨g2, hg⟩ : ∃ g2, g2 = x11.heap.size := ⟨_, rfl⟩
  have U11 : Hid (Bv w11 g2 4 3 (.slice u11 2 d11) [2, 3]) := Lib.hid (by rw [hW, hg]; exact Bv.make vo)
  have k : Kept w10 w11 [] := by rw [hW]; exact hk.alloc _
  have S11 := Lib.hid (S10.out.keep k); have L11 := Lib.hid (L10.out.trans (k.below (B := w1.heap.size) S10.out.size (by simp)))
  have V11 := Lib.hid (V10.out.keep k)
  obtain ⟨O11, hO⟩ : ∃ O11, O11 = O10 := ⟨_, rfl⟩
  rw [← hO] at S11
  clear vo hk k c hO
  have y0 : (x11.alloc (.cells #[.int .i64 4, .slice u11 2 d11, .int .i64 3] 37)).cell? ⟨g1, 0, none⟩ = some (.int .i64 3) := by rw [← hW]; exact V11.out.cells.1
  have y1 : (x11.alloc (.cells #[.int .i64 4, .slice u11 2 d11, .int .i64 3] 37)).cell? ⟨g1, 1, none⟩ = some (.slice u9 1 d9) := by rw [← hW]; exact V11.out.cells.2.1
  have y2 : (x11.alloc (.cells #[.int .i64 4, .slice u11 2 d11, .int .i64 3] 37)).cell? ⟨g1, 2, none⟩ = some (.int .i64 2) := by rw [← hW]; exact V11.out.cells.2.2
  have c : Calls Try.prog 18 #[.pointer (some ⟨h, 0, none⟩), .agg #[.int .i64 3, .slice u9 1 d9, .int .i64 2], .int .i64 a0] w11 fun e w' => e = .returned (.int .i64 0) ∧ ∃ O', Sd w' w1.heap.size p h O' [2, 1, 1] [a0] (one a0 [⟨⟨#[97]⟩, 1, 2⟩]) ∧ Stp O11 O' w11 w' := delete_one S11.out 3 2 u9 1 d9 [2] V11.out.2 (by decide) W0.out
  go_wp2_with fail
  rw [← hW, ← hg]
  clear hW hg y0 y1 y2
  refine c.mono ?_
  rintro e w12 ⟨rfl, O12, s, f⟩
  have S12 := Lib.hid s; have L12 := Lib.hid (L11.out.trans (S11.out.below f.1)); have U12 := Lib.hid (U11.out.fo S11.out f.1)
  clear s f c
  obtain ⟨z0, z1, z2⟩ := U12.out.cells
  have c : Calls Try.prog 19 #[.pointer (some ⟨h, 0, none⟩), .agg #[.int .i64 4, .slice u11 2 d11, .int .i64 3]] w12 fun e w' => ∃ u' n' c', e = .returned (.tuple #[.slice u' n' c', .int .i64 6]) ∧ ∃ O' F', Sd w' w1.heap.size p h O' [2, 1, 1] [a0] F' ∧ Stp O12 O' w12 w' ∧ ((6 : Int) ≠ 0 → F' = one a0 [⟨⟨#[97]⟩, 1, 2⟩]) := truncate_one S12.out 4 3 u11 2 d11 [2, 3] U12.out.2 (by decide) (by decide)
  go_wp2_with fail
  refine c.mono ?_
  rintro e w13 ⟨u', n', c', rfl, O13, F', s, f, hF⟩
  obtain rfl := hF (by decide)
  have S13 := Lib.hid s; have L13 := Lib.hid (L12.out.trans (S12.out.below f.1)); have U13 := Lib.hid (U12.out.fo S12.out f.1)
  clear s f c z0 z1 z2
  obtain ⟨z0, z1, z2⟩ := U13.out.cells
  have c := get_sd S13.out 4 3 u11 2 d11 [2, 3] U13.out.2 a0 W0.out
  rw [one_same] at c
  have c' : Calls Try.prog 22 #[.pointer (some ⟨h, 0, none⟩), .agg #[.int .i64 4, .slice u11 2 d11, .int .i64 3], .int .i64 a0] w13 fun e w' => e = .returned (.tuple #[.agg #[.int .i64 a0, .string ⟨#[97]⟩], .bool true]) ∧ Kept w13 w' [] := c
  clear c
  go_wp2_with fail
  refine c'.mono ?_
  rintro e w14 ⟨rfl, hk⟩
  have L14 := Lib.hid (L13.out.trans (hk.below (B := w1.heap.size) S13.out.size (by simp)))
  clear hk c' z0 z1 z2
  go_wp2
  go_ret
  exact ⟨rfl, (K1.out.below (Nat.le_refl _) (by simp)).trans ((L14.out.alloc L14.out.size _).mono K1.out.size)⟩

theorem walk (a0 a1 a2 a3 : Int) (w0 : (Lit.int .i64 a0).wf = true) (w1 : (Lit.int .u8 a1).wf = true) (w2 : (Lit.int .u8 a2).wf = true) (w3 : (Lit.int .u8 a3).wf = true) (W : World) :
    Calls Try.prog 4 #[.int .i64 a0, .int .u8 a1, .int .u8 a2, .int .u8 a3] W fun e w' => e = .returned (.bool true) ∧ Below W.heap.size W w' := by
  obtain ⟨b1, _⟩ := bounds_u8 w1
  obtain ⟨b2, _⟩ := bounds_u8 w2
  obtain ⟨b3, _⟩ := bounds_u8 w3
  have t1 := Int.tmod_eq_emod_of_nonneg (b := 2) b1
  have t2 := Int.tmod_eq_emod_of_nonneg (b := 3) b2
  have t3 := Int.tmod_eq_emod_of_nonneg (b := 3) b3
  have r1 : a1 % 2 = 0 ∨ a1 % 2 = 1 := by omega
  have r2 : a2 % 3 = 0 ∨ a2 % 3 = 1 ∨ a2 % 3 = 2 := by omega
  have r3 : a3 % 3 = 0 ∨ a3 % 3 = 1 ∨ a3 % 3 = 2 := by omega
  rcases r1 with r1 | r1 <;> rcases r2 with r2 | r2 | r2 <;> rcases r3 with r3 | r3 | r3 <;> rw [r1] at t1 <;> rw [r2] at t2 <;> rw [r3] at t3
  · exact way000 a0 a1 a2 a3 w0 r1 t1 r2 t2 r3 t3 W
  · exact way001 a0 a1 a2 a3 w0 r1 t1 r2 t2 r3 t3 W
  · exact way002 a0 a1 a2 a3 w0 r1 t1 r2 t2 r3 t3 W
  · exact way010 a0 a1 a2 a3 w0 r1 t1 r2 t2 r3 t3 W
  · exact way011 a0 a1 a2 a3 w0 r1 t1 r2 t2 r3 t3 W
  · exact way012 a0 a1 a2 a3 w0 r1 t1 r2 t2 r3 t3 W
  · exact way020 a0 a1 a2 a3 w0 r1 t1 r2 t2 r3 t3 W
  · exact way021 a0 a1 a2 a3 w0 r1 t1 r2 t2 r3 t3 W
  · exact way022 a0 a1 a2 a3 w0 r1 t1 r2 t2 r3 t3 W
  · exact way100 a0 a1 a2 a3 w0 r1 t1 r2 t2 r3 t3 W
  · exact way101 a0 a1 a2 a3 w0 r1 t1 r2 t2 r3 t3 W
  · exact way102 a0 a1 a2 a3 w0 r1 t1 r2 t2 r3 t3 W
  · exact way110 a0 a1 a2 a3 w0 r1 t1 r2 t2 r3 t3 W
  · exact way111 a0 a1 a2 a3 w0 r1 t1 r2 t2 r3 t3 W
  · exact way112 a0 a1 a2 a3 w0 r1 t1 r2 t2 r3 t3 W
  · exact way120 a0 a1 a2 a3 w0 r1 t1 r2 t2 r3 t3 W
  · exact way121 a0 a1 a2 a3 w0 r1 t1 r2 t2 r3 t3 W
  · exact way122 a0 a1 a2 a3 w0 r1 t1 r2 t2 r3 t3 W

set_option maxRecDepth 100000 in
theorem lifted (os : Os) (started : os.Started) (H : Type) (enc : TypeId × Value → H) :
    ReturnsInHanded {} Try.checked os 4 .any (Rows.heapFirstSpec.pre6 enc Try.prog Try.f4 Rows.heapFirstRow.domain false) (Rows.heapFirstSpec.post enc Try.prog Try.f4 false true false false) := by
  refine returnsInHanded_of_change (C := Try.checked) own started (by kernel_rfl) Try.func4
    (ChangeSpec.witness6 (enc := enc) (C := Try.checked) false ⟨#[], #[.int .i64 0, .int .u8 0, .int .u8 0, .int .u8 0], []⟩ 8 (by kernel_rfl) (by kernel_rfl) (by kernel_rfl) (by kernel_rfl)) ?_
  intro W base args ds gs before hval0 hW hcnd _
  have hval : ∀ (j : Nat) t v, Try.f4.params[j]? = some t → args[j]? = some v → Value.okWide Try.prog W .any base t v := hval0
  have hW' := hW
  obtain ⟨p, q, hA0, hV, rfl, hfz, hnd⟩ := hW
  have hA : DataW.TrodAll enc Try.prog W 0 (fun _ => true) true Try.f4.params.toList args.toList ds p := hA0
  rw [Try.params4] at hA hval
  obtain ⟨v0, vs0, d0, ds0, p0, q0, hargs, rfl, rfl, h0, r0⟩ := trodAll_cons hA
  obtain ⟨v1, vs1, d1, ds1, p1, q1, rfl, rfl, rfl, h1, r1⟩ := trodAll_cons r0
  obtain ⟨v2, vs2, d2, ds2, p2, q2, rfl, rfl, rfl, h2, r2⟩ := trodAll_cons r1
  obtain ⟨v3, vs3, d3, ds3, p3, q3, rfl, rfl, rfl, h3, r3⟩ := trodAll_cons r2
  obtain ⟨rfl, rfl, rfl⟩ := trodAll_nil r3
  obtain rfl : args = #[v0, v1, v2, v3] := by cases args; simp_all
  obtain ⟨rfl, rfl⟩ := trodVars_none hV
  obtain ⟨a0, rfl, rfl, rfl, w0⟩ := open_int Try.underlying2 (hval 0 2 v0 rfl rfl) h0
  obtain ⟨a1, rfl, rfl, rfl, w1⟩ := open_int Try.underlying5 (hval 1 5 v1 rfl rfl) h1
  obtain ⟨a2, rfl, rfl, rfl, w2⟩ := open_int Try.underlying5 (hval 2 5 v2 rfl rfl) h2
  obtain ⟨a3, rfl, rfl, rfl, w3⟩ := open_int Try.underlying5 (hval 3 5 v3 rfl rfl) h3
  clear hA0 hval0
  simp only [List.append_nil] at hW'
  refine (walk a0 a1 a2 a3 w0 w1 w2 w3 W).mono fun e W' ⟨he, bel⟩ => ?_
  subst he
  exact ⟨_, rfl, _, _, _, [], _, [], hW', trodAll_mk1 (shut_bool Try.underlying4 _), (trodAll_cons_mk (shut_int Try.underlying2 w0) (trodAll_cons_mk (shut_int Try.underlying5 w1) (trodAll_cons_mk (shut_int Try.underlying5 w2) (trodAll_cons_mk (shut_int Try.underlying5 w3) trodAll_mk0)))), rfl, bel.frame _, fun h => by cases h⟩

theorem over : Rows.heapFirstRow.holds Try.pinned (OpenSpec.ofChange Rows.heapFirstSpec) :=
  OpenClaim.holds_of_wide 4 Try.f4 rfl rfl rfl rfl rfl rfl rfl ⟨rfl, rfl, rfl, rfl, rfl⟩ rfl rfl rfl rfl rfl (by kernel_rfl) Try.func4 (by kernel_rfl)
    (of_decide_eq_true (by kernel_rfl)) (by unfold Func.isWrapper; first | (rw [if_pos (by decide +kernel)]; kernel_rfl) | (rw [if_neg (by decide +kernel)]; exact ⟨rfl, rfl⟩))
    (fun os started H enc _ => lifted os started H enc)

theorem proved : Rows.HeapFirstSaid :=
  over
end Go.Proofs.Ytpknnpdnhdcnjaa.heapFirst

namespace Go.Proofs.Ytpknnpdnhdcnjaa
theorem heapFirst_holds : Rows.HeapFirstSaid := heapFirst.proved
#print axioms heapFirst_holds
end Go.Proofs.Ytpknnpdnhdcnjaa

