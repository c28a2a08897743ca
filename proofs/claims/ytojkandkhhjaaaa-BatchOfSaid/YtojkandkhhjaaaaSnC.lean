/-
  The contracts of Right (of package snap and of carrierref05), and of slices.BinarySearch.
-/
import Derived.Test.YtojkandkhhjaaaaSnB
namespace Go.Proofs.Ytojkandkhhjaaaa
open Go.RowKit

/-- Do these numbers rise, all above b and below M? -/
def upB (M : Int) : Int → List Int → Bool
  | _, [] => true
  | b, x :: r => decide (b < x) && (decide (x < M) && upB M x r)

/-- Is a snapshot right? -/
def rightB (M : Int) (l : List Int) : Bool := decide (1 ≤ M) && upB M 0 l

theorem upB_step {M b : Int} {l : List Int} {k : Nat} (hk : k < l.length) : upB M b (l.drop k) = (decide (b < l[k]) && (decide (l[k] < M) && upB M l[k] (l.drop (k + 1)))) := by
  rw [List.drop_eq_getElem_cons hk]
  rfl

theorem upB_end {M b : Int} {l : List Int} {k : Nat} (hk : l.length ≤ k) : upB M b (l.drop k) = true := by
  rw [List.drop_of_length_le hk]
  rfl

end Go.Proofs.Ytojkandkhhjaaaa
