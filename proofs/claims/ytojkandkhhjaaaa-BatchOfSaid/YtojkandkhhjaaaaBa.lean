/-
  What is asked of elder texts behind Begin, Commit, Abort: a row's head, State of no manager.
-/
import Derived.Test.YtojkandkhhjaaaaTd
import Derived.Test.YtojkandkhhjaaaaFow
import Derived.Test.YtojkandkhhjaaaaSnI
namespace Go.Proofs.Ytojkandkhhjaaaa
set_option linter.unusedVariables false
open Go.RowKit Go.Maps

theorem row_head {w : World} {base n c : Nat} {a : Option Addr} {e : TypeId} {xs : List Value} (h : w.ownsRow base e 1 (.slice a n c) n xs) (hn : 0 < n) : ∃ g, a = some ⟨g, 0, none⟩ ∧ base ≤ g ∧ n ≤ c ∧ (∃ cur, w.heap[g]? = some (.cells cur e (0, 0))) ∧ ∀ i u, xs[i]? = some u → w.cell? ⟨g, i, none⟩ = some u := by
  rcases h.2 with ⟨hv, h0⟩ | ⟨g, cap, cur, hv, hbg, hg, hnc, hcm, hcs, htk⟩
  · omega
  · simp only [Value.slice.injEq] at hv
    obtain ⟨rfl, _, rfl⟩ := hv
    refine ⟨g, rfl, hbg, hnc, ⟨cur, hg⟩, fun i u hu => ?_⟩
    have := World.ownsRow.cells h (g := g) rfl i u hu
    simpa [Addr.add_lit] using this

theorem mnext_nil (w : World) : Calls Try.prog 42 #[.pointer none] w fun e w' => e = .returned (.int .i64 0) ∧ w = w' := by
  go_enter Try.func42, Try.ntmps42
  go_wp2
  go_ret
  exact ⟨rfl, rfl⟩

theorem mstate_nil (x : Int) (w : World) : Calls Try.prog 28 #[.pointer none, .int .i64 x] w fun e w' => e = .returned (.int .u8 0) ∧ w = w' := by
  by_cases h : x < 1
  · go_enter Try.func28, Try.ntmps28
    go_wp2
    go_ret
    exact ⟨rfl, rfl⟩
  · have h2 : (0 : Int) ≤ x := by omega
    go_enter Try.func28, Try.ntmps28
    go_wp2_with (go_at_call 42; refine (mnext_nil _).mono ?_; rintro e w' ⟨rfl, rfl⟩)
    go_ret
    exact ⟨rfl, rfl⟩

end Go.Proofs.Ytojkandkhhjaaaa
