/-
  The contracts of Covers, of package snap and of carrierref05, and what it means for right ones.
-/
import Derived.Test.YtojkandkhhjaaaaSnD
import Derived.Deep.RegionHeld3
namespace Go.Proofs.Ytojkandkhhjaaaa
open Go.RowKit

theorem upB_mem {M : Int} : ∀ {l : List Int} {b : Int}, upB M b l = true → ∀ x ∈ l, b < x ∧ x < M := by
  intro l
  induction l with
  | nil => intro b _ x hx; simp at hx
  | cons y r ih =>
    intro b h x hx
    simp only [upB, Bool.and_eq_true, decide_eq_true_eq] at h
    rcases List.mem_cons.1 hx with rfl | hx
    · exact ⟨h.1, h.2.1⟩
    · have := ih h.2.2 x hx
      omega

theorem upB_inc {M : Int} : ∀ {l : List Int} {b : Int}, upB M b l = true → Inc l := by
  intro l
  induction l with
  | nil => intro b _ i j _ hj; simp at hj
  | cons y r ih =>
    intro b h i j hij hj
    simp only [upB, Bool.and_eq_true, decide_eq_true_eq] at h
    cases j with
    | zero => omega
    | succ j =>
      have hj' : j < r.length := by simpa using hj
      cases i with
      | zero =>
        have := (upB_mem h.2.2 (r.getD j 0) (by simp [List.getD, hj'])).1
        simpa using this
      | succ i =>
        have := ih h.2.2 i j (by omega) hj'
        simpa using this

theorem right_mem {M : Int} {l : List Int} (h : rightB M l = true) : ∀ x ∈ l, 1 ≤ x ∧ x < M := by
  intro x hx
  simp only [rightB, Bool.and_eq_true] at h
  have := upB_mem h.2 x hx
  omega

theorem right_inc {M : Int} {l : List Int} (h : rightB M l = true) : Inc l := by
  simp only [rightB, Bool.and_eq_true] at h
  exact upB_inc h.2

theorem right_one {M : Int} {l : List Int} (h : rightB M l = true) : 1 ≤ M := by
  simp only [rightB, Bool.and_eq_true, decide_eq_true_eq] at h
  exact h.1

theorem upB_len {M : Int} : ∀ {l : List Int} {b : Int}, upB M b l = true → b < M → (l.length : Int) ≤ M - 1 - b := by
  intro l
  induction l with
  | nil => intro b _ _; simp; omega
  | cons y r ih =>
    intro b h hb
    simp only [upB, Bool.and_eq_true, decide_eq_true_eq] at h
    have := ih h.2.2 h.2.1
    simp only [List.length_cons]
    omega

/-- As many numbers as there may be: each is one of them. -/
theorem upB_full {M : Int} : ∀ {l : List Int} {b : Int}, upB M b l = true → M - 1 - b ≤ (l.length : Int) → ∀ x, b < x → x < M → x ∈ l := by
  intro l
  induction l with
  | nil => intro b _ h x h1 h2; simp at h; omega
  | cons y r ih =>
    intro b h hl x h1 h2
    simp only [upB, Bool.and_eq_true, decide_eq_true_eq] at h
    have h3 := upB_len h.2.2 h.2.1
    simp only [List.length_cons] at hl
    have hy : y = b + 1 := by omega
    by_cases hx : x = y
    · rw [hx]; exact List.mem_cons_self
    · exact List.mem_cons_of_mem _ (ih h.2.2 (by omega) x (by omega) h2)

theorem upB_all {M : Int} : ∀ {l : List Int} {b : Int}, upB M b l = true → (∀ x, b < x → x < M → x ∈ l) → M - 1 - b ≤ (l.length : Int) := by
  intro l
  induction l with
  | nil =>
    intro b _ h
    by_cases hb : b + 1 < M
    · have := h (b + 1) (by omega) hb; simp at this
    · simp; omega
  | cons y r ih =>
    intro b h hl
    simp only [upB, Bool.and_eq_true, decide_eq_true_eq] at h
    have hy : y = b + 1 := by
      by_cases hy : b + 1 < y
      · have h1 := hl (b + 1) (by omega) (by omega)
        rcases List.mem_cons.1 h1 with h2 | h2
        · omega
        · have := (upB_mem h.2.2 _ h2).1; omega
      · omega
    have := ih h.2.2 (fun x h1 h2 => by
      have h3 := hl x (by omega) h2
      rcases List.mem_cons.1 h3 with h4 | h4
      · omega
      · exact h4)
    simp only [List.length_cons]
    omega

theorem upB_drop {M : Int} : ∀ {l : List Int} {b c : Int} (i : Nat), upB M b l = true → (∀ j, i ≤ j → j < l.length → c < l.getD j 0) → upB M c (l.drop i) = true := by
  intro l
  induction l with
  | nil => intro b c i _ _; simp [upB]
  | cons y r ih =>
    intro b c i h hc
    have h' := h
    simp only [upB, Bool.and_eq_true, decide_eq_true_eq] at h
    cases i with
    | zero =>
      rw [List.drop_zero]
      simp only [upB, Bool.and_eq_true, decide_eq_true_eq]
      have := hc 0 (Nat.le_refl _) (by simp)
      exact ⟨by simpa using this, h.2⟩
    | succ i =>
      rw [List.drop_succ_cons]
      exact ih i h.2.2 (fun j h1 h2 => by simpa using hc (j + 1) (by omega) (by simpa using h2))

/-- Does one see all that another one sees? -/
def Cover (A B : Int) (l m : List Int) : Prop := ∀ x, seesB B m x = true → seesB A l x = true

/-- What both programs reckon. -/
def coverB (A B : Int) (l m : List Int) (i : Nat) : Bool := l.all (fun x => !seesB B m x) && decide (B - A ≤ ((m.length - i : Nat) : Int))

theorem cover_iff {A B : Int} {l m : List Int} {i : Nat} (hA : rightB A l = true) (hB : rightB B m = true) (hi : Spot m A i) : coverB A B l m i = true ↔ Cover A B l m := by
  have h1 := right_mem hA
  have hA1 := right_one hA
  have hB1 := right_one hB
  have hm := right_mem hB
  have hu : upB B (A - 1) (m.drop i) = true := by
    simp only [rightB, Bool.and_eq_true] at hB
    exact upB_drop i hB.2 (fun j h2 h3 => by have := hi.2.2 j h2 h3; omega)
  have hd : ((m.drop i).length : Int) = ((m.length - i : Nat) : Int) := by simp
  have hin : ∀ x, A ≤ x → (x ∈ m ↔ x ∈ m.drop i) := by
    intro x hx
    constructor
    · intro h
      obtain ⟨j, hj, e⟩ := mem_getD h
      have : i ≤ j := by
        rcases Nat.lt_or_ge j i with h2 | h2
        · have := hi.2.1 j h2; omega
        · exact h2
      rw [List.mem_iff_getElem]
      refine ⟨j - i, by simp; omega, ?_⟩
      rw [List.getElem_drop]
      simp only [List.getD, List.getElem?_eq_getElem hj, Option.getD_some] at e
      rw [← e]
      congr 1
      omega
    · exact List.mem_of_mem_drop
  unfold coverB Cover
  simp only [Bool.and_eq_true, List.all_eq_true, Bool.not_eq_true', decide_eq_true_eq]
  constructor
  · rintro ⟨h2, h3⟩ x hx
    rw [seesB_iff] at hx
    rw [seesB_iff]
    refine ⟨hx.1, ?_, fun hl => ?_⟩
    · rcases Int.lt_or_le x A with h4 | h4
      · exact h4
      · exact absurd ((hin x h4).2 (upB_full hu (by rw [hd]; omega) x (by omega) hx.2.1)) hx.2.2
    · have := h2 x hl
      rw [seesB_iff.2 hx] at this
      exact absurd this (by simp)
  · intro h
    constructor
    · intro x hx
      cases hs : seesB B m x with
      | false => rfl
      | true => exact absurd hx (seesB_iff.1 (h x hs)).2.2
    · rcases Int.lt_or_le A B with h4 | h4
      · have := upB_all hu (fun x h5 h6 => by
          have h7 : x ∈ m := by
            rcases Decidable.em (x ∈ m) with h8 | h8
            · exact h8
            · have := seesB_iff.1 (h x (seesB_iff.2 ⟨by omega, h6, h8⟩))
              omega
          exact (hin x (by omega)).1 h7)
        rw [hd] at this
        omega
      · omega

end Go.Proofs.Ytojkandkhhjaaaa
