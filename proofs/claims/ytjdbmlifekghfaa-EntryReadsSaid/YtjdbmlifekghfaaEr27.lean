/-
  Eph in one text.
-/
import Derived.Test.YtjdbmlifekghfaaEr23
import Derived.Test.YtjdbmlifekghfaaEr24
import Derived.Test.YtjdbmlifekghfaaEr25
import Derived.Test.YtjdbmlifekghfaaEr26
namespace Go.Proofs.Ytjdbmlifekghfaa
set_option linter.unusedVariables false
open Go.RowKit

set_option maxHeartbeats 1000000 in
set_option maxRecDepth 100000 in
theorem rdec_nil (va : Option Addr) (vc : Nat) (w : World) :
    Calls Try.prog 15 #[.slice va 0 vc] w fun en w' => DPost [] w en w' := by
  go_enter Try.func15, Try.ntmps15
  go_wp2
  refine bodyPost_ret (v := .tuple #[.agg #[.int .u8 0, .int .i64 0, .int .i64 0, .int .i64 0, .slice none 0 0, .slice none 0 0, .int .i64 0, .int .i64 0, .slice none 0 0, .int .i64 0, .string ⟨#[]⟩, .int .i64 0, .int .i64 0], .int .i64 3]) (by simp [results, Try.results15, go_sem]) rfl ?_
  exact DPost.bad rfl (by decide) ((Kept.refl w []).alloc _)

theorem rdecode_any (v : Value) (l : List UInt8) (w : World) (h : Rd w v l) (hl : l.length ≤ 1000000000) :
    Calls Try.prog 15 #[v] w fun en w' => DPost l w en w' := by
  obtain ⟨va, vc, rfl, hvc, hvn, hx⟩ := id h
  by_cases hn : l = []
  · subst hn
    exact rdec_nil va vc w
  · obtain ⟨vb, vo, rfl, _⟩ := hx hn
    have hl1 : 1 ≤ l.length := List.length_pos_iff.2 hn
    obtain ⟨k, hk⟩ : ∃ k : Int, k = ((l.getD 0 0).toNat : Int) := ⟨_, rfl⟩
    by_cases hr : 1 ≤ k ∧ k ≤ 11
    · rcases (show k = 1 ∨ k = 2 ∨ k = 3 ∨ k = 4 ∨ k = 5 ∨ k = 6 ∨ k = 7 ∨ k = 8 ∨ k = 9 ∨ k = 10 ∨ k = 11 by omega) with rfl | rfl | rfl | rfl | rfl | rfl | rfl | rfl | rfl | rfl | rfl
      · exact rd1 vb vo vc l w h hl1 hl hk
      · exact rd2 vb vo vc l w h hl1 hl hk
      · exact rd3 vb vo vc l w h hl1 hl hk
      · exact rd4 vb vo vc l w h hl1 hl hk
      · exact rd5 vb vo vc l w h hl1 hl hk
      · exact rd6 vb vo vc l w h hl1 hl hk
      · exact rd7 vb vo vc l w h hl1 hl hk
      · exact rd8 vb vo vc l w h hl1 hl hk
      · exact rd9 vb vo vc l w h hl1 hl hk
      · exact rd10 vb vo vc l w h hl1 hl hk
      · exact rd11 vb vo vc l w h hl1 hl hk
    · exact rdbad vb vo vc k hr l w h hl1 hl hk

end Go.Proofs.Ytjdbmlifekghfaa
