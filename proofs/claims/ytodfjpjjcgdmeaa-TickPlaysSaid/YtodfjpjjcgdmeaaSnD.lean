/-
  The contract of slices.BinarySearch.
-/
import Derived.Test.YtodfjpjjcgdmeaaSnC
import Derived.WalkArith
namespace Go.Proofs.Ytodfjpjjcgdmeaa
open Go.RowKit

/-- The numbers rise. -/
def Inc (l : List Int) : Prop := ∀ i j, i < j → j < l.length → l.getD i 0 < l.getD j 0

theorem notNaN (x : Int) (w : World) : Calls Try.prog 44 #[.int .i64 x] w fun e w' => e = .returned (.bool false) ∧ w = w' := by
  go_enter Try.func44, Try.ntmps44
  go_wp2
  go_ret
  exact ⟨retb (by simp), rfl⟩

theorem notNaN2 (x : Int) (w : World) : Calls Try.prog 45 #[.int .i64 x] w fun e w' => e = .returned (.bool false) ∧ w = w' := by
  go_enter Try.func45, Try.ntmps45
  go_wp2
  go_ret
  exact ⟨retb (by simp), rfl⟩

theorem retib {i : Int} {a b : Bool} (h : a = b) : Ending.returned (.tuple #[.int .i64 i, .bool a]) = .returned (.tuple #[.int .i64 i, .bool b]) := by rw [h]

theorem less_any (x y : Int) (w : World) : Calls Try.prog 43 #[.int .i64 x, .int .i64 y] w fun e w' => e = .returned (.bool (decide (x < y))) ∧ w = w' := by
  go_enter Try.func43, Try.ntmps43
  go_wp2_with fail
  refine (notNaN2 x w).mono ?_
  rintro e w1 ⟨rfl, rfl⟩
  go_wp2
  go_ret
  exact ⟨retb rfl, rfl⟩

/-- What a search tells: where x stands, or would stand. -/
def Spot (l : List Int) (x : Int) (i : Nat) : Prop := i ≤ l.length ∧ (∀ j, j < i → l.getD j 0 < x) ∧ ∀ j, i ≤ j → j < l.length → x ≤ l.getD j 0

theorem mem_getD {l : List Int} {x : Int} (h : x ∈ l) : ∃ j, j < l.length ∧ l.getD j 0 = x := by
  obtain ⟨j, hj, e⟩ := List.getElem_of_mem h
  exact ⟨j, hj, by simp [List.getD, hj, e]⟩

theorem Spot.mem {l : List Int} {x : Int} {i : Nat} (h : Spot l x i) (hl : Inc l) (hi : i < l.length) (hne : l.getD i 0 ≠ x) : x ∉ l := by
  intro hm
  obtain ⟨j, hj, e⟩ := mem_getD hm
  rcases Nat.lt_trichotomy j i with h1 | rfl | h1
  · have := h.2.1 j h1; omega
  · exact hne e
  · have := hl i j h1 hj
    have := h.2.2 i (Nat.le_refl _) hi
    omega

theorem Spot.none {l : List Int} {x : Int} {i : Nat} (h : Spot l x i) (hi : l.length ≤ i) : x ∉ l := by
  intro hm
  obtain ⟨j, hj, e⟩ := mem_getD hm
  have := h.2.1 j (by omega)
  omega

theorem left_go {l : List Int} {x : Int} {k : Nat} (hl : Inc l) (hk : k < l.length) (h : l.getD k 0 < x) : ∀ q, q < k + 1 → l.getD q 0 < x := by
  intro q hq
  rcases Nat.lt_or_ge q k with h1 | h1
  · have := hl q k h1 hk; omega
  · have : q = k := by omega
    rw [this]; exact h

theorem right_go {l : List Int} {x : Int} {k : Nat} (hl : Inc l) (h : ¬ l.getD k 0 < x) : ∀ q, k ≤ q → q < l.length → x ≤ l.getD q 0 := by
  intro q hq hq2
  rcases Nat.eq_or_lt_of_le hq with rfl | h1
  · omega
  · have := hl k q h1 hq2; omega

set_option maxHeartbeats 1000000 in
set_option maxRecDepth 100000 in
theorem search_any (v : Value) (l : List Int) (x : Int) (w : World) (h : RdI w v l) (hinc : Inc l) (hlen : l.length ≤ 4611686018427387903) :
    Calls Try.prog 42 #[v, .int .i64 x] w fun e w' => ∃ i : Nat, e = .returned (.tuple #[.int .i64 i, .bool (decide (x ∈ l))]) ∧ Spot l x i ∧ w = w' := by
  obtain ⟨a, c, rfl, hc, hm, _, hl⟩ := h
  by_cases hne : l = []
  · subst hne
    clear hl
    go_enter Try.func42, Try.ntmps42
    go_wp2
    go_loop [7, 8] (fun t s => t = .int .i64 0 ∧ s = .int .i64 0) (fun _ _ => 0)
    case atStart => exact ⟨rfl, rfl⟩
    case round =>
      obtain ⟨rfl, rfl⟩ := hrel
      go_wp2
      go_ret2
      exact ⟨0, by simp, ⟨by simp, by simp, by simp⟩, rfl⟩
  · obtain ⟨b, o, rfl, hcell⟩ := hl hne
    have C := Lib.hid hcell; have I := Lib.hid hinc
    clear hcell hl hinc
    go_enter Try.func42, Try.ntmps42
    go_wp2
    go_loop [7, 8] (fun t s => ∃ i j : Nat, t = .int .i64 i ∧ s = .int .i64 j ∧ i ≤ j ∧ j ≤ l.length ∧ (∀ q, q < i → l.getD q 0 < x) ∧ ∀ q, j ≤ q → q < l.length → x ≤ l.getD q 0) (fun t s => (intOf s).toNat - (intOf t).toNat)
    case atStart => exact ⟨0, l.length, rfl, rfl, Nat.zero_le _, Nat.le_refl _, by simp, fun q h1 h2 => absurd h2 (by omega)⟩
    case round =>
      obtain ⟨i, j, rfl, rfl, hij, hj, hL, hR⟩ := hrel
      have L := Lib.hid hL; have R := Lib.hid hR; clear hL hR
      by_cases hlt : i < j
      · have x1 : (i : Int) < (j : Int) := by omega
        obtain ⟨k, hk⟩ : ∃ k : Nat, k = (i + j) / 2 := ⟨_, rfl⟩
        have hk1 : i ≤ k := by omega
        have hk2 : k < j := by omega
        have c1 := C.out k (by omega)
        have x2 : (k : Int) < (l.length : Int) := by omega
        have e1 : wrap64 ((i : Int) + (j : Int)) = (i : Int) + (j : Int) := by simp only [wrap64]; omega
        have e2 : ((i : Int) + (j : Int)) % 18446744073709551616 = (i : Int) + (j : Int) := by omega
        have e3 : ((i : Int) + (j : Int)) / 2 = (k : Int) := by omega
        obtain ⟨y, hy⟩ : ∃ y, y = l.getD k 0 := ⟨_, rfl⟩
        rw [← hy] at c1
        have Hy := Lib.hid hy
        clear hy hk
        go_wp2_with (go_at_call 43; refine (less_any y x _).mono ?_; rintro e w1 ⟨rfl, rfl⟩)
        · go_round
          case rel => exact ⟨k + 1, j, by go_num, rfl, by omega, by omega, left_go I.out (by omega) (by rw [← Hy.out]; assumption), R.out⟩
          case measure => simp [intOf]; omega
        · go_round
          case rel => exact ⟨i, k, rfl, rfl, by omega, by omega, L.out, right_go I.out (by rw [← Hy.out]; omega)⟩
          case measure => simp [intOf]; omega
      · have x1 : ¬ (i : Int) < (j : Int) := by omega
        obtain rfl : i = j := by omega
        have S := Lib.hid (show Spot l x i from ⟨hj, L.out, R.out⟩)
        by_cases hil : i < l.length
        · have c1 := C.out i hil
          have x2 : (i : Int) < (l.length : Int) := by omega
          obtain ⟨y, hy⟩ : ∃ y, y = l.getD i 0 := ⟨_, rfl⟩
          rw [← hy] at c1
          by_cases hyx : y = x
          · have x3 : (y == x) = true := by simpa using hyx
            have M := Lib.hid (show x ∈ l by rw [← hyx, hy]; simp [List.getD, hil])
            clear hyx hy
            go_wp2
            go_ret2
            exact ⟨i, retib (decide_eq_true M.out).symm, S.out, rfl⟩
          · have x3 : (y == x) = false := by simpa using hyx
            have M := Lib.hid (S.out.mem I.out hil (by rw [← hy]; exact hyx))
            clear hyx hy
            go_wp2_with (go_at_call 44; refine (notNaN _ _).mono ?_; rintro e w1 ⟨rfl, rfl⟩)
            go_ret2
            exact ⟨i, retib (decide_eq_false M.out).symm, S.out, rfl⟩
        · have x2 : ¬ (i : Int) < (l.length : Int) := by omega
          have M := Lib.hid (S.out.none (by omega))
          go_wp2
          go_ret2
          exact ⟨i, retib (decide_eq_false M.out).symm, S.out, rfl⟩

end Go.Proofs.Ytodfjpjjcgdmeaa
