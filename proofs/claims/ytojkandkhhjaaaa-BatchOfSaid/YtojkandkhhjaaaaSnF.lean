/-
  The contract of snap.Covers.
-/
import Derived.Test.YtojkandkhhjaaaaSnE
namespace Go.Proofs.Ytojkandkhhjaaaa
open Go.RowKit

theorem all_take {B : Int} {l m : List Int} {k : Nat} (hk : k < l.length) (h : ∀ x ∈ l.take k, seesB B m x = false) (hx : seesB B m l[k] = false) : ∀ x ∈ l.take (k + 1), seesB B m x = false := by
  intro x hm
  rw [List.take_succ_eq_append_getElem hk, List.mem_append] at hm
  rcases hm with h1 | h1
  · exact h x h1
  · rw [List.mem_singleton.1 h1]; exact hx

theorem cover_no {A B : Int} {l m : List Int} {k : Nat} (hk : k < l.length) (hx : seesB B m l[k] = true) : ¬ Cover A B l m := by
  intro h
  exact (seesB_iff.1 (h _ hx)).2.2 (List.getElem_mem hk)

theorem cover_end {A B : Int} {l m : List Int} {k i : Nat} (hA : rightB A l = true) (hB : rightB B m = true) (hk : l.length ≤ k) (h : ∀ x ∈ l.take k, seesB B m x = false) (hi : Spot m A i) : decide (B - A ≤ (m.length : Int) - (i : Int)) = true ↔ Cover A B l m := by
  rw [← cover_iff hA hB hi, coverB, List.take_of_length_le hk] at *
  have h1 : l.all (fun x => !seesB B m x) = true := by
    rw [List.all_eq_true]
    intro x hx
    rw [h x hx]; rfl
  have h2 : ((m.length - i : Nat) : Int) = (m.length : Int) - (i : Int) := by have := hi.1; omega
  rw [h1, Bool.true_and, h2]

end Go.Proofs.Ytojkandkhhjaaaa
