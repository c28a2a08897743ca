/-
  Ticks that came one after the other, by numbers (plain).
-/
import Derived.Test.YtodfjpjjcgdmeaaKi
namespace Go.Proofs.Ytodfjpjjcgdmeaa
open Go.RowKit

/-- So many, with these numbers and moments. -/
def seqP (M t : Nat → Int) (k : Nat) : List Pt := (List.range k).map fun i : Nat => ⟨(i : Int) + 1, M i, [], t i⟩

variable {M t : Nat → Int} {k : Nat}

theorem seqP_succ (k : Nat) : seqP M t (k + 1) = seqP M t k ++ [⟨(k : Int) + 1, M k, [], t k⟩] := by simp [seqP, List.range_succ]
theorem seqP_length (k : Nat) : (seqP M t k).length = k := by simp [seqP]
theorem lastN_seq (k : Nat) : lastN (seqP M t k) = k := by
  cases k with
  | zero => rfl
  | succ k => rw [seqP_succ, lastN_snoc]; rfl

theorem right_nil (A : Int) : rightB A [] = decide (1 ≤ A) := by simp [rightB, upB]
theorem cov_nil {A B : Int} (h : B ≤ A) : covB A B [] [] = true := by simp [covB, h]

theorem addE_seq {A u : Int} (hk : k < 64) (h1 : 1 ≤ A) (mono : ∀ i, i + 1 = k → M i ≤ A ∧ t i ≤ u) : addE (seqP M t k) A [] u = 0 := by
  unfold addE
  rw [seqP_length, if_neg (by omega), right_nil, decide_eq_true h1, if_neg (by simp)]
  cases k with
  | zero => rfl
  | succ j =>
    obtain ⟨m1, m2⟩ := mono j rfl
    have : folB (seqP M t (j + 1)) A [] u = true := by
      rw [seqP_succ, folB]
      simp [cov_nil m1, m2]
    rw [this, if_pos rfl]
theorem addS_seq {A u : Int} (hk : k < 64) (h1 : 1 ≤ A) (mono : ∀ i, i + 1 = k → M i ≤ A ∧ t i ≤ u) (hA : A = M k) (hu : u = t k) : addS (seqP M t k) A [] u = seqP M t (k + 1) := by
  unfold addS
  rw [if_pos (addE_seq hk h1 mono), lastN_seq, seqP_succ, hA, hu]
theorem addE_full (A : Int) (l : List Int) (u : Int) (hk : 64 ≤ k) : addE (seqP M t k) A l u = 8 := by
  unfold addE
  rw [seqP_length, if_pos hk]

theorem okp_seq (hk : k ≤ 64) (h1 : ∀ i, i < k → 1 ≤ M i ∧ M i ≤ 1000) : Okp (seqP M t k) := by
  have hm : ∀ p ∈ seqP M t k, ∃ i, i < k ∧ p = ⟨(i : Int) + 1, M i, [], t i⟩ := by
    intro p hp
    obtain ⟨i, hi, rfl⟩ := List.mem_map.1 hp
    exact ⟨i, List.mem_range.1 hi, rfl⟩
  refine ⟨?_, ?_, ?_, ?_, by rw [seqP_length]; exact hk, by rw [lastN_seq]; omega⟩
  · intro p hp
    obtain ⟨i, hi, rfl⟩ := hm p hp
    show rightB (M i) [] = true
    rw [right_nil]
    exact decide_eq_true (h1 i hi).1
  · intro p hp
    obtain ⟨i, hi, rfl⟩ := hm p hp
    have := (h1 i hi).2
    show M i ≤ _
    omega
  · intro p hp
    obtain ⟨i, hi, rfl⟩ := hm p hp
    simp
  · intro p hp
    obtain ⟨i, hi, rfl⟩ := hm p hp
    rw [lastN_seq]
    show (i : Int) + 1 ≤ k
    omega

/-- The place of the first one above a number, from another number on. -/
def spotN (x c : Int) : Nat := (max 0 (max x (c - 1))).toNat

theorem find_seq (x c : Int) : ∀ k : Nat, (seqP M t k).find? (fun p => !decide (p.n < c) && decide (x < p.n)) = if spotN x c < k then some ⟨(spotN x c : Int) + 1, M (spotN x c), [], t (spotN x c)⟩ else none := by
  intro k
  induction k with
  | zero => rfl
  | succ k ih =>
    rw [seqP_succ, List.find?_append, ih]
    by_cases h1 : spotN x c < k
    · rw [if_pos h1, if_pos (by omega)]
      rfl
    · rw [if_neg h1]
      by_cases h2 : spotN x c < k + 1
      · have e : spotN x c = k := by omega
        have hc : ¬ (k : Int) + 1 < c ∧ x < (k : Int) + 1 := by
          unfold spotN at e
          omega
        rw [if_pos h2, e]
        simp [hc.1, hc.2]
      · have hc : (!decide ((k : Int) + 1 < c) && decide (x < (k : Int) + 1)) = false := by
          unfold spotN at h2
          by_cases h3 : (k : Int) + 1 < c
          · simp [h3]
          · have : ¬ x < (k : Int) + 1 := by omega
            simp [this]
        rw [if_neg h2]
        simp only [List.find?_cons, hc]
        rfl

/-- The first one above a number, of those that a Trim left. -/
theorem aft_seq (b x : Int) (k : Nat) : aftS (trimS (seqP M t k) b) x = if spotN x (min b k) < k then some ⟨(spotN x (min b k) : Int) + 1, M (spotN x (min b k)), [], t (spotN x (min b k))⟩ else none := by
  rw [← find_seq]
  unfold aftS trimS trimP
  rw [List.find?_filter, lastN_seq]
  congr 1
  funext p
  generalize decide (p.n < min b (k : Int)) = q1
  generalize decide (x < p.n) = q2
  cases q1 <;> cases q2 <;> rfl

/-- So many alike. -/
def oneP (k : Nat) : List Pt := seqP (fun _ => 1) (fun _ => 0) k
theorem one_ok {k : Nat} (h : k ≤ 64) : Okp (oneP k) := okp_seq h (fun _ _ => by omega)
theorem one_add {k : Nat} (h : k < 64) : addE (oneP k) 1 [] 0 = 0 ∧ addS (oneP k) 1 [] 0 = oneP (k + 1) :=
  ⟨addE_seq h (by omega) (fun _ _ => by omega), addS_seq h (by omega) (fun _ _ => by omega) rfl rfl⟩
theorem one_full : addE (oneP 64) 1 [] 0 = 8 ∧ addS (oneP 64) 1 [] 0 = oneP 64 := by
  have h : addE (oneP 64) 1 [] 0 = 8 := addE_full 1 [] 0 (Nat.le_refl _)
  exact ⟨h, by unfold addS; rw [h, if_neg (by decide)]⟩
theorem one_last (k : Nat) : lastN (oneP k) = k := lastN_seq k
theorem one_most (k : Nat) (A : Int) (hk : k ≤ 64) : addE (oneP k) A [] 0 = if 64 ≤ k then 8 else if 1 ≤ A then 0 else 1 := by
  by_cases h : 64 ≤ k
  · rw [if_pos h]; exact addE_full A [] 0 h
  · rw [if_neg h]
    by_cases h1 : 1 ≤ A
    · rw [if_pos h1]; exact addE_seq (by omega) h1 (fun _ _ => ⟨h1, by omega⟩)
    · rw [if_neg h1]
      unfold addE
      rw [oneP, seqP_length, if_neg h, right_nil, decide_eq_false h1, if_pos rfl]

end Go.Proofs.Ytodfjpjjcgdmeaa
