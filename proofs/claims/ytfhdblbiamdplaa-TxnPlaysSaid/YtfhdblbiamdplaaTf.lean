/-
  The document's example (two), and the calls of no manager.
-/
import Derived.Test.YtfhdblbiamdplaaTe
namespace Go.Proofs.Ytfhdblbiamdplaa
open Go.RowKit Go.Maps

theorem row_head {w : World} {base n c : Nat} {a : Option Addr} {e : TypeId} {xs : List Value} (h : w.ownsRow base e 1 (.slice a n c) n xs) (hn : 0 < n) : ∃ g, a = some ⟨g, 0, none⟩ ∧ base ≤ g ∧ n ≤ c ∧ (∃ cur, w.heap[g]? = some (.cells cur e (0, 0))) ∧ ∀ i u, xs[i]? = some u → w.cell? ⟨g, i, none⟩ = some u := by
  rcases h.2 with ⟨hv, h0⟩ | ⟨g, cap, cur, hv, hbg, hg, hnc, hcm, hcs, htk⟩
  · omega
  · simp only [Value.slice.injEq] at hv
    obtain ⟨rfl, _, rfl⟩ := hv
    refine ⟨g, rfl, hbg, hnc, ⟨cur, hg⟩, fun i u hu => ?_⟩
    have := World.ownsRow.cells h (g := g) rfl i u hu
    simpa [Addr.add_lit] using this

set_option maxRecDepth 20000 in
set_option maxHeartbeats 1000000 in
theorem two_any (w : World) : Calls Try.prog 38 #[] w fun e w' => e = .returned (.bool true) ∧ Kept w w' [] := by
  go_enter Try.func38, Try.ntmps38
  go_wp2_with fail
  refine (mnew_any w).mono ?_
  rintro e w1 ⟨p, b, v1, rfl, hm, hk⟩
  have M1 := Lib.hid hm; have K1 := Lib.hid hk
  clear hm hk
  have c1 : Calls Try.prog 41 #[.pointer (some ⟨p, 0, none⟩)] w1 fun e w' => e = .returned (.tuple #[.int .i64 1, .int .i64 0]) ∧ ∃ v', Mg w' w.heap.size p b v' [1] ∧ Fm w.heap.size mts w1 w' := mbegin_ok M1.out (by decide) (by decide)
  go_wp2_with fail
  refine c1.mono ?_
  rintro e w2 ⟨rfl, v2, hm, hf⟩
  have M2 := Lib.hid hm; have F2 := Lib.hid hf
  clear hm hf c1
  have c2 : Calls Try.prog 41 #[.pointer (some ⟨p, 0, none⟩)] w2 fun e w' => e = .returned (.tuple #[.int .i64 2, .int .i64 0]) ∧ ∃ v', Mg w' w.heap.size p b v' [1, 1] ∧ Fm w.heap.size mts w2 w' := mbegin_ok M2.out (by decide) (by decide)
  go_wp2_with fail
  refine c2.mono ?_
  rintro e w3 ⟨rfl, v3, hm, hf⟩
  have M3 := Lib.hid hm; have F3 := Lib.hid (F2.out.trans hf)
  clear hm hf c2
  have c3 : Calls Try.prog 43 #[.pointer (some ⟨p, 0, none⟩), .int .i64 1] w3 fun e w' => e = .returned (.int .i64 0) ∧ Mg w' w.heap.size p b v3 [2, 1] ∧ Fm w.heap.size mts w3 w' := mcommit_ok M3.out 1 (by decide) (by decide)
  go_wp2_with fail
  refine c3.mono ?_
  rintro e w4 ⟨rfl, hm, hf⟩
  have M4 := Lib.hid hm; have F4 := Lib.hid (F3.out.trans hf)
  clear hm hf c3
  have c4 : Calls Try.prog 48 #[.pointer (some ⟨p, 0, none⟩)] w4 fun e w' => ∃ a c, e = .returned (.agg #[.int .i64 3, .slice a 1 c]) ∧ w'.ownsRow w4.heap.size 2 1 (.slice a 1 c) 1 [.int .i64 2] ∧ Kept w4 w' [] := mnow_any M4.out
  go_wp2_with fail
  refine c4.mono ?_
  rintro e w5 ⟨a5, cp5, rfl, ho, hk⟩
  obtain ⟨g, rfl, hg, hgc, ⟨cur, hcur⟩, hcell⟩ := row_head ho (by decide)
  have d0 := hcell 0 _ rfl
  have K5 := Lib.hid ((((Fm.ofKept K1.out w.heap.size mts).trans F4.out).kept (Nat.le_refl _)).trans hk (by simp))
  have hgl := heap_lt hcur
  clear c4 ho hk hcell
  go_wp2
  go_ret
  exact ⟨rfl, K5.out.alloc _⟩

theorem mbegin_nil (w : World) : Calls Try.prog 41 #[.pointer none] w fun e w' => e = .returned (.tuple #[.int .i64 0, .int .i64 4]) ∧ w = w' := by
  go_enter Try.func41, Try.ntmps41
  go_wp2
  go_ret2
  exact ⟨rfl, rfl⟩

theorem mend_nil (x : Int) (w : World) : Calls Try.prog 67 #[.pointer none, .int .i64 x] w fun e w' => e = .returned (.int .i64 4) ∧ w = w' := by
  go_enter Try.func67, Try.ntmps67
  go_wp2
  go_ret
  exact ⟨rfl, rfl⟩

theorem mcommit_nil (x : Int) (w : World) : Calls Try.prog 43 #[.pointer none, .int .i64 x] w fun e w' => e = .returned (.int .i64 4) ∧ w = w' := by
  go_enter Try.func43, Try.ntmps43
  go_wp2_with (go_at_call 67; refine (mend_nil _ _).mono ?_; rintro e w' ⟨rfl, rfl⟩)
  go_ret
  exact ⟨rfl, rfl⟩

theorem mabort_nil (x : Int) (w : World) : Calls Try.prog 45 #[.pointer none, .int .i64 x] w fun e w' => e = .returned (.int .i64 4) ∧ w = w' := by
  go_enter Try.func45, Try.ntmps45
  go_wp2_with (go_at_call 67; refine (mend_nil _ _).mono ?_; rintro e w' ⟨rfl, rfl⟩)
  go_ret
  exact ⟨rfl, rfl⟩

theorem mnext_nil (w : World) : Calls Try.prog 49 #[.pointer none] w fun e w' => e = .returned (.int .i64 0) ∧ w = w' := by
  go_enter Try.func49, Try.ntmps49
  go_wp2
  go_ret
  exact ⟨rfl, rfl⟩

theorem mstate_nil (x : Int) (w : World) : Calls Try.prog 52 #[.pointer none, .int .i64 x] w fun e w' => e = .returned (.int .u8 0) ∧ w = w' := by
  by_cases h : x < 1
  · go_enter Try.func52, Try.ntmps52
    go_wp2
    go_ret
    exact ⟨rfl, rfl⟩
  · have h2 : (0 : Int) ≤ x := by omega
    go_enter Try.func52, Try.ntmps52
    go_wp2_with (go_at_call 49; refine (mnext_nil _).mono ?_; rintro e w' ⟨rfl, rfl⟩)
    go_ret
    exact ⟨rfl, rfl⟩

theorem mload_nil (x : Int) (u : Value) (w : World) : Calls Try.prog 46 #[.pointer none, .int .i64 x, u] w fun e w' => e = .returned (.int .i64 4) ∧ w = w' := by
  go_enter Try.func46, Try.ntmps46
  go_wp2
  go_ret
  exact ⟨rfl, rfl⟩

theorem mnow_nil (w : World) : Calls Try.prog 48 #[.pointer none] w fun e w' => e = .returned (.agg #[.int .i64 0, .slice none 0 0]) ∧ Kept w w' [] := by
  go_enter Try.func48, Try.ntmps48
  go_wp2
  exact bodyPost_ret (v := .agg #[.int .i64 0, .slice none 0 0]) (by simp [results, Try.results48, go_sem]) rfl ⟨rfl, (Kept.refl w []).alloc _⟩

end Go.Proofs.Ytfhdblbiamdplaa
