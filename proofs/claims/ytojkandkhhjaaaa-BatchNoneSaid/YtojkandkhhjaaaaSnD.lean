/-
  The contract of slices.BinarySearch.
-/
import Derived.Test.YtojkandkhhjaaaaSnC
import Derived.WalkArith
namespace Go.Proofs.Ytojkandkhhjaaaa
open Go.RowKit

/-- The numbers rise. -/
def Inc (l : List Int) : Prop := ∀ i j, i < j → j < l.length → l.getD i 0 < l.getD j 0

theorem notNaN2 (x : Int) (w : World) : Calls Try.prog 47 #[.int .i64 x] w fun e w' => e = .returned (.bool false) ∧ w = w' := by
  go_enter Try.func47, Try.ntmps47
  go_wp2
  go_ret
  exact ⟨retb (by simp), rfl⟩

theorem retib {i : Int} {a b : Bool} (h : a = b) : Ending.returned (.tuple #[.int .i64 i, .bool a]) = .returned (.tuple #[.int .i64 i, .bool b]) := by rw [h]

/-- What a search tells: where x stands, or would stand. -/
def Spot (l : List Int) (x : Int) (i : Nat) : Prop := i ≤ l.length ∧ (∀ j, j < i → l.getD j 0 < x) ∧ ∀ j, i ≤ j → j < l.length → x ≤ l.getD j 0

theorem mem_getD {l : List Int} {x : Int} (h : x ∈ l) : ∃ j, j < l.length ∧ l.getD j 0 = x := by
  obtain ⟨j, hj, e⟩ := List.getElem_of_mem h
  exact ⟨j, hj, by simp [List.getD, hj, e]⟩

theorem Spot.mem {l : List Int} {x : Int} {i : Nat} (h : Spot l x i) (hl : Inc l) (hi : i < l.length) (hne : l.getD i 0 ≠ x) : x ∉ l := by
  intro hm
  obtain ⟨j, hj, e⟩ := mem_getD hm
  rcases Nat.lt_trichotomy j i with h1 | rfl | h1
  · have := h.2.1 j h1; omega
  · exact hne e
  · have := hl i j h1 hj
    have := h.2.2 i (Nat.le_refl _) hi
    omega

theorem Spot.none {l : List Int} {x : Int} {i : Nat} (h : Spot l x i) (hi : l.length ≤ i) : x ∉ l := by
  intro hm
  obtain ⟨j, hj, e⟩ := mem_getD hm
  have := h.2.1 j (by omega)
  omega

theorem left_go {l : List Int} {x : Int} {k : Nat} (hl : Inc l) (hk : k < l.length) (h : l.getD k 0 < x) : ∀ q, q < k + 1 → l.getD q 0 < x := by
  intro q hq
  rcases Nat.lt_or_ge q k with h1 | h1
  · have := hl q k h1 hk; omega
  · have : q = k := by omega
    rw [this]; exact h

theorem right_go {l : List Int} {x : Int} {k : Nat} (hl : Inc l) (h : ¬ l.getD k 0 < x) : ∀ q, k ≤ q → q < l.length → x ≤ l.getD q 0 := by
  intro q hq hq2
  rcases Nat.eq_or_lt_of_le hq with rfl | h1
  · omega
  · have := hl k q h1 hq2; omega

end Go.Proofs.Ytojkandkhhjaaaa
