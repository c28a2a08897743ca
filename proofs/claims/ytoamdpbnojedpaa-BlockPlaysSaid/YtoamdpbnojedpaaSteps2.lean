/-
  Read, of both devices, at any block's number, as one contract each.
-/
import Derived.Test.YtoamdpbnojedpaaSteps
import Derived.Test.YtoamdpbnojedpaaRefRest
namespace Go.Proofs.Ytoamdpbnojedpaa
open Go.RowKit

/-- Is there such a block? -/
def okR (n : Nat) (m : Int) : Bool := decide (0 ≤ m ∧ m < (n : Int))
def reE (n : Nat) (m : Int) : Int := if okR n m then 0 else 1
def reL (n : Nat) (m : Int) (now : List UInt8) : List UInt8 := if okR n m then blkOf now m.toNat else []

theorem reL_small (n : Nat) (m : Int) (now : List UInt8) : (reL n m now).length ≤ 32 := by
  unfold reL
  split
  · simp [blkOf]; omega
  · simp

theorem read_step {w : World} {B p gn gs n : Nat} {v : Value} {now safe : List UInt8} {ws : List Wt} (h : Dv w B p gn gs v n now safe ws) (m : Int) :
    Calls Try.prog 20 #[.pointer (some ⟨p, 0, none⟩), .int .i64 m] w fun e w' => ∃ a k c, e = .returned (.tuple #[.slice a k c, .int .i64 (reE n m)]) ∧ Rb w' B 5 (.slice a k c) (reL n m now) ∧ Kept w w' [] := by
  by_cases hk : 0 ≤ m ∧ m < (n : Int)
  · have ho : okR n m = true := by unfold okR; simpa using hk
    obtain ⟨k, rfl⟩ : ∃ k : Nat, m = k := ⟨m.toNat, by omega⟩
    refine (read_ok h k (by omega)).mono ?_
    rintro e w' ⟨v', rfl, hr, hk'⟩
    obtain ⟨a, j, c, rfl⟩ := Own.shape3 hr
    unfold reE reL
    rw [ho]
    exact ⟨a, j, c, rfl, hr.rb B, hk'⟩
  · have ho : okR n m = false := by unfold okR; simpa using hk
    refine (read_bad h m (by omega)).mono ?_
    rintro e w' ⟨rfl, rfl⟩
    unfold reE reL
    rw [ho]
    exact ⟨none, 0, 0, rfl, ⟨none, 0, rfl, Nat.le_refl _, fun _ => rfl, fun h => absurd rfl h⟩, Kept.refl _ _⟩

theorem rread_step {w : World} {B q n : Nat} {vs vw : Value} {safe : List UInt8} {ws : List (Nat × List UInt8)} (R : Rf w B q vs vw n safe ws) (hws : ws.length ≤ 1000000) (m : Int) :
    Calls Try.prog 21 #[.pointer (some ⟨q, 0, none⟩), .int .i64 m] w fun e w' => ∃ a k c, e = .returned (.tuple #[.slice a k c, .int .i64 (reE n m)]) ∧ Rb w' B 5 (.slice a k c) (reL n m (laid safe ws)) ∧ Kept w w' [] := by
  by_cases hk : 0 ≤ m ∧ m < (n : Int)
  · have ho : okR n m = true := by unfold okR; simpa using hk
    obtain ⟨k, rfl⟩ : ∃ k : Nat, m = k := ⟨m.toNat, by omega⟩
    refine (rread_ok R hws k (by omega)).mono ?_
    rintro e w' ⟨v', rfl, hr, hk'⟩
    obtain ⟨a, j, c, rfl⟩ := hr.rd.shape3
    unfold reE reL
    rw [ho]
    exact ⟨a, j, c, rfl, hr, hk'⟩
  · have ho : okR n m = false := by unfold okR; simpa using hk
    refine (rread_bad R m (by omega)).mono ?_
    rintro e w' ⟨rfl, rfl⟩
    unfold reE reL
    rw [ho]
    exact ⟨none, 0, 0, rfl, ⟨none, 0, rfl, Nat.le_refl _, fun _ => rfl, fun h => absurd rfl h⟩, Kept.refl _ _⟩

end Go.Proofs.Ytoamdpbnojedpaa
