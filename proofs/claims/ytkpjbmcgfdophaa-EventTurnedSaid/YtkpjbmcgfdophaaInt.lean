/-
  The contract of code.Writer's Int.
-/
import Derived.Test.YtkpjbmcgfdophaaWriter
import Derived.Lib.Zigzag
namespace Go.Proofs.Ytkpjbmcgfdophaa
open Go.RowKit

/-- The bytes of a number that may be below 0. -/
def intL (n : Int) : List UInt8 := numL (Lib.zigzag n)

set_option maxHeartbeats 400000 in
set_option maxRecDepth 100000 in
theorem int_any (base p : Nat) (v : Value) (l : List UInt8) (n : Int) (w : World) (hw : Wr w base p v l) (hbase : base ≤ w.heap.size) (hn : -9223372036854775808 ≤ n ∧ n ≤ 9223372036854775807) (hl : l.length ≤ 1099511627776) :
    Calls Try.prog 25 #[.pointer (some ⟨p, 0, none⟩), .int .i64 n] w fun e w' => e = .returned (.pointer (some ⟨p, 0, none⟩)) ∧ ∃ v', Wr w' base p v' (l ++ intL n) ∧ Stp w w' [p] v v' := by
  have Hw := Lib.hid hw; clear hw
  obtain ⟨h1, h2⟩ := hn
  have hz := Lib.zigzag_lt h1 h2
  by_cases h0 : n < 0
  · have Hx := Lib.hid (Lib.zigzag_neg h1 h0)
    go_enter Try.func25, Try.ntmps25
    go_wp2_with fail
    rw [Hx.out]
    refine (num_any base p v l (Lib.zigzag n) w Hw.out hbase (by omega) hl).mono ?_
    rintro e w' ⟨rfl, hq⟩
    have Hq := Lib.hid hq; clear hq
    go_wp2
    go_ret
    exact ⟨rfl, Hq.out⟩
  · have Hx := Lib.hid (Lib.zigzag_nonneg (x := n) (by omega))
    go_enter Try.func25, Try.ntmps25
    go_wp2_with fail
    rw [← Hx.out]
    refine (num_any base p v l (Lib.zigzag n) w Hw.out hbase (by omega) hl).mono ?_
    rintro e w' ⟨rfl, hq⟩
    have Hq := Lib.hid hq; clear hq
    go_wp2
    go_ret
    exact ⟨rfl, Hq.out⟩

end Go.Proofs.Ytkpjbmcgfdophaa
