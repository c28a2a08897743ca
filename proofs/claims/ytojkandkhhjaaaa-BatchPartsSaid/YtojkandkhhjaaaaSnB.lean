/-
  The contracts of Sees, Same, Least, of package snap and of carrierref05.
-/
import Derived.Test.YtojkandkhhjaaaaSnA
namespace Go.Proofs.Ytojkandkhhjaaaa
open Go.RowKit

/-- Whom a snapshot sees. -/
def seesB (M : Int) (l : List Int) (x : Int) : Bool := decide (1 ≤ x) && (decide (x < M) && !decide (x ∈ l))

theorem seesB_iff {M : Int} {l : List Int} {x : Int} : seesB M l x = true ↔ 1 ≤ x ∧ x < M ∧ x ∉ l := by
  simp [seesB]

set_option maxHeartbeats 400000 in
theorem sees_any (M x : Int) (v : Value) (l : List Int) (w : World) (h : RdI w v l) :
    Calls Try.prog 39 #[.agg #[.int .i64 M, v], .int .i64 x] w fun e w' => e = .returned (.bool (seesB M l x)) ∧ Kept w w' [] := by
  have H := Lib.hid h
  obtain ⟨a, c, rfl, _⟩ := h
  by_cases h1 : (1 : Int) ≤ x
  · by_cases h2 : x < M
    · have r1 : seesB M l x = !decide (x ∈ l) := by simp [seesB, h1, h2]
      have R1 := Lib.hid r1; clear r1
      go_enter Try.func39, Try.ntmps39
      go_wp2_with fail
      refine (contains_any _ l x _ (H.out.keep ((Kept.refl w []).alloc _))).mono ?_
      rintro e w1 ⟨rfl, rfl⟩
      go_wp2
      go_ret
      exact ⟨retb R1.out.symm, (Kept.refl w []).alloc _⟩
    · have r1 : seesB M l x = false := by simp [seesB, h2]
      have R1 := Lib.hid r1; clear r1
      go_enter Try.func39, Try.ntmps39
      go_wp2
      go_ret
      exact ⟨retb R1.out.symm, (Kept.refl w []).alloc _⟩
  · have r1 : seesB M l x = false := by simp [seesB, h1]
    have R1 := Lib.hid r1; clear r1
    go_enter Try.func39, Try.ntmps39
    go_wp2
    go_ret
    exact ⟨retb R1.out.symm, (Kept.refl w []).alloc _⟩

set_option maxHeartbeats 400000 in
theorem rsees_any (M x : Int) (v : Value) (l : List Int) (w : World) (h : RdI w v l) :
    Calls Try.prog 35 #[.agg #[.int .i64 M, v], .int .i64 x] w fun e w' => e = .returned (.bool (seesB M l x)) ∧ Kept w w' [] := by
  have H := Lib.hid h
  obtain ⟨a, c, rfl, _⟩ := h
  by_cases h1 : (1 : Int) ≤ x
  · by_cases h2 : x < M
    · have r1 : seesB M l x = !decide (x ∈ l) := by simp [seesB, h1, h2]
      have R1 := Lib.hid r1; clear r1
      go_enter Try.func35, Try.ntmps35
      go_wp2_with fail
      refine (has_any _ l x _ (H.out.keep ((Kept.refl w []).alloc _))).mono ?_
      rintro e w1 ⟨rfl, rfl⟩
      go_wp2
      go_ret
      exact ⟨retb R1.out.symm, (Kept.refl w []).alloc _⟩
    · have r1 : seesB M l x = false := by simp [seesB, h2]
      have R1 := Lib.hid r1; clear r1
      go_enter Try.func35, Try.ntmps35
      go_wp2
      go_ret
      exact ⟨retb R1.out.symm, (Kept.refl w []).alloc _⟩
  · have r1 : seesB M l x = false := by simp [seesB, h1]
    have R1 := Lib.hid r1; clear r1
    go_enter Try.func35, Try.ntmps35
    go_wp2
    go_ret
    exact ⟨retb R1.out.symm, (Kept.refl w []).alloc _⟩

/-- Are two alike? -/
def sameB (M N : Int) (l m : List Int) : Bool := (M == N) && (l == m)

/-- The first that isn't seen. -/
def leastI (M : Int) (l : List Int) : Int := l.headD M

theorem reti {a b : Int} (h : a = b) : Ending.returned (.int .i64 a) = .returned (.int .i64 b) := by rw [h]

end Go.Proofs.Ytojkandkhhjaaaa
