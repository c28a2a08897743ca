/-
  The contract of carrierref05.Covers.
-/
import Derived.Test.YtojkandkhhjaaaaSnF
namespace Go.Proofs.Ytojkandkhhjaaaa
open Go.RowKit

/-- How many are hidden. -/
def hid (A : Int) (m : List Int) : Nat := m.countP (fun y => decide (A ≤ y))

theorem hid_step {A : Int} {m : List Int} {k : Nat} (hk : k < m.length) : hid A (m.take (k + 1)) = hid A (m.take k) + if A ≤ m[k] then 1 else 0 := by
  unfold hid
  rw [List.take_succ_eq_append_getElem hk, List.countP_append]
  by_cases h : A ≤ m[k] <;> simp [h]

theorem hid_le {A : Int} {m : List Int} (k : Nat) : hid A (m.take k) ≤ m.length := Nat.le_trans List.countP_le_length (by simp; omega)

theorem spot_ex {A : Int} : ∀ {m : List Int}, Inc m → ∃ i, Spot m A i ∧ hid A m = m.length - i := by
  intro m
  induction m with
  | nil => intro _; exact ⟨0, ⟨by simp, by simp, by simp⟩, rfl⟩
  | cons y r ih =>
    intro h
    have hr : Inc r := fun i j h1 h2 => by simpa using h (i + 1) (j + 1) (by omega) (by simpa using h2)
    by_cases hy : A ≤ y
    · have hall : ∀ j, j < (y :: r).length → A ≤ (y :: r).getD j 0 := by
        intro j hj
        cases j with
        | zero => simpa using hy
        | succ j => have := h 0 (j + 1) (by omega) hj; simp only [List.getD_cons_zero] at this; omega
      refine ⟨0, ⟨by simp, fun j hj => absurd hj (by omega), fun j _ h2 => hall j h2⟩, ?_⟩
      unfold hid
      rw [Nat.sub_zero, List.countP_eq_length]
      intro x hx
      obtain ⟨j, hj, e⟩ := mem_getD hx
      have := hall j hj
      rw [e] at this
      simpa using this
    · obtain ⟨i, hi, he⟩ := ih hr
      refine ⟨i + 1, ⟨by have := hi.1; simp; omega, ?_, ?_⟩, ?_⟩
      · intro j hj
        cases j with
        | zero => simp; omega
        | succ j => simpa using hi.2.1 j (by omega)
      · intro j h1 h2
        cases j with
        | zero => omega
        | succ j => simpa using hi.2.2 j (by omega) (by simpa using h2)
      · unfold hid at he ⊢
        simp only [List.countP_cons, hy, decide_false, List.length_cons]
        simp
        omega

theorem hid_cover {A B : Int} {l m : List Int} {k j : Nat} (hA : rightB A l = true) (hB : rightB B m = true) (hk : l.length ≤ k) (h : ∀ x ∈ l.take k, seesB B m x = false) (hj : m.length ≤ j) (hAB : ¬ B ≤ A) : ((hid A (m.take j) : Int) == B - A) = true ↔ Cover A B l m := by
  obtain ⟨i, hi, he⟩ := spot_ex (A := A) (right_inc hB)
  have h0 := cover_end hA hB hk h hi
  rw [← h0, List.take_of_length_le hj, he]
  have hA1 := right_one hA
  have hu : upB B (A - 1) (m.drop i) = true := by
    simp only [rightB, Bool.and_eq_true] at hB
    exact upB_drop i hB.2 (fun j h2 h3 => by have := hi.2.2 j h2 h3; omega)
  have h1 := upB_len hu (by omega)
  have hi1 := hi.1
  simp only [List.length_drop] at h1
  simp only [beq_iff_eq, decide_eq_true_eq]
  omega

theorem hid_cover2 {A B : Int} {l m : List Int} {k : Nat} (hA : rightB A l = true) (hB : rightB B m = true) (hk : l.length ≤ k) (h : ∀ x ∈ l.take k, seesB B m x = false) (hAB : B ≤ A) : Cover A B l m := by
  obtain ⟨i, hi, he⟩ := spot_ex (A := A) (right_inc hB)
  have h0 := cover_end hA hB hk h hi
  have hi1 := hi.1
  rw [← h0]
  simp only [decide_eq_true_eq]
  omega

/-- What is told. -/
def CovPost (A B : Int) (l m : List Int) (w : World) (e : Ending) (w' : World) : Prop := ∃ r : Bool, e = .returned (.bool r) ∧ (r = true ↔ Cover A B l m) ∧ Kept w w' []

theorem CovPost.is {A B : Int} {l m : List Int} {w w' : World} {r : Bool} (h : r = true ↔ Cover A B l m) (k : Kept w w' []) : CovPost A B l m w (.returned (.bool r)) w' := ⟨r, rfl, h, k⟩

end Go.Proofs.Ytojkandkhhjaaaa
