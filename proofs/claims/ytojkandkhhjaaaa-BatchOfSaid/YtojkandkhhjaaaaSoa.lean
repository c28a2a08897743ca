/-
  Plain facts on arrays that are sorted by exchanges, told as lists. No program in sight.
-/
import Derived.Test.YtojkandkhhjaaaaSta
import Derived.Sort.LotA
namespace Go.Proofs.Ytojkandkhhjaaaa
open Go.Sort

variable {α : Type} [Inhabited α]

/-- An element, by its place. -/
theorem at_list {d : Array α} {P R : List α} {x : α} {i : Nat} (h : d.toList = P ++ x :: R) (hi : i = P.length) : i < d.size ∧ d[i]! = x := by
  have hs : i < d.size := by rw [← Array.length_toList, h]; simp; omega
  refine ⟨hs, ?_⟩
  rw [getElem!_pos d i hs, ← Array.getElem_toList (h := by simpa using hs)]
  subst hi
  simp [h]

theorem at_split {d : Array α} {i : Nat} (h : i < d.size) : d.toList = d.toList.take i ++ d[i]! :: d.toList.drop (i + 1) := by
  rw [getElem!_pos d i h]
  have : d.toList.drop i = d[i] :: d.toList.drop (i + 1) := by
    rw [List.drop_eq_getElem_cons (by simpa using h)]
    simp
  rw [← this, List.take_append_drop]

/-- Two are exchanged. -/
theorem swp_list {d : Array α} {P Q R : List α} {x y : α} {i j : Nat} (h : d.toList = P ++ x :: (Q ++ y :: R)) (hi : i = P.length) (hj : j = P.length + 1 + Q.length) : (swp d i j).toList = P ++ y :: (Q ++ x :: R) := by
  obtain ⟨_, h1⟩ := at_list h hi
  obtain ⟨_, h2⟩ := at_list (d := d) (P := P ++ x :: Q) (R := R) (x := y) (i := j) (by rw [h]; simp) (by rw [hj]; simp; omega)
  rw [swp, h1, h2, Array.toList_setIfInBounds, Array.toList_setIfInBounds, h]
  subst hi hj
  rw [List.set_append_right _ _ (Nat.le_refl _), Nat.sub_self, List.set_cons_zero, List.set_append_right _ _ (by omega), show P.length + 1 + Q.length - P.length = Q.length + 1 by omega, List.set_cons_succ, List.set_append_right _ _ (Nat.le_refl _), Nat.sub_self, List.set_cons_zero]

theorem swp_list' {d : Array α} {P Q R : List α} {x y : α} {i j : Nat} (h : d.toList = P ++ x :: (Q ++ y :: R)) (hi : i = P.length) (hj : j = P.length + 1 + Q.length) : (swp d j i).toList = P ++ y :: (Q ++ x :: R) := by
  obtain ⟨_, h1⟩ := at_list h hi
  obtain ⟨_, h2⟩ := at_list (d := d) (P := P ++ x :: Q) (R := R) (x := y) (i := j) (by rw [h]; simp) (by rw [hj]; simp; omega)
  rw [swp, h1, h2, Array.toList_setIfInBounds, Array.toList_setIfInBounds, h]
  subst hi hj
  rw [List.set_append_right _ _ (by omega), show P.length + 1 + Q.length - P.length = Q.length + 1 by omega, List.set_cons_succ, List.set_append_right _ _ (Nat.le_refl _), Nat.sub_self, List.set_cons_zero, List.set_append_right _ _ (Nat.le_refl _), Nat.sub_self, List.set_cons_zero]

variable {c : α → α → Bool}

/-- 'Less' of an order. -/
def ltB {β : Type} (c : β → β → Bool) (x y : β) : Bool := !c y x

theorem swo_lt {β : Type} {c : β → β → Bool} (T : Tot c) : SWO (ltB c) := by
  constructor
  all_goals simp only [ltB, Bool.not_eq_true', Bool.not_eq_false']
  · intro x; exact T.refl x
  · intro x y z h1 h2
    cases h : c z x with
    | false => rfl
    | true =>
      rcases T.total y z with h3 | h3
      · rw [T.trans y z x h3 h] at h1; simp at h1
      · rw [h3] at h2; simp at h2
  · intro x y z h1 h2
    exact T.trans z y x h2 h1

/-- A neighbour that is less goes ahead. -/
theorem stab_pair {β : Type} {c : β → β → Bool} (T : Tot c) {P R : List β} {u v : β} (h : ltB c v u = true) : Stab c (P ++ u :: v :: R) (P ++ v :: u :: R) := by
  have sw : Stab c ([u] ++ [v]) ([v] ++ [u]) := Stab.swap T (fun x hx y hy => by
    simp only [List.mem_singleton] at hx hy
    subst hx hy
    simp only [ltB, Bool.not_eq_true'] at h
    simp [eqv, h])
  exact (Stab.refl c P).append (sw.append (Stab.refl c R))

theorem mid_split {β : Type} (M : List β) {i : Nat} (h : i < M.length) : ∃ P R x, M = P ++ x :: R ∧ P.length = i ∧ x = M[i] :=
  ⟨M.take i, M.drop (i + 1), M[i], by conv => lhs; rw [← List.take_append_drop i M, List.drop_eq_getElem_cons h], by rw [List.length_take]; omega, rfl⟩

theorem insInner_list (T : Tot c) {A B : List α} : ∀ (j : Nat) (d : Array α) (M : List α), d.toList = A ++ M ++ B → j < A.length + M.length →
    ∃ M', (insInner (ltB c) A.length j d).toList = A ++ M' ++ B ∧ M'.length = M.length ∧ Stab c M M' := by
  intro j
  induction j with
  | zero => intro d M h _; exact ⟨M, h, rfl, Stab.refl c M⟩
  | succ j ih =>
    intro d M h hj
    rw [insInner]
    split
    · rename_i hc
      simp only [Bool.and_eq_true, decide_eq_true_eq] at hc
      obtain ⟨ha, hl⟩ := hc
      have hm1 : j - A.length < M.length := by omega
      have hm2 : j - A.length + 1 < M.length := by omega
      have hM : M = M.take (j - A.length) ++ M[j - A.length] :: M[j - A.length + 1] :: M.drop (j - A.length + 2) := by
        conv => lhs; rw [← List.take_append_drop (j - A.length) M, List.drop_eq_getElem_cons hm1, List.drop_eq_getElem_cons hm2]
      obtain ⟨P, hP⟩ : ∃ P, P = M.take (j - A.length) := ⟨_, rfl⟩
      obtain ⟨u, hu⟩ : ∃ u, u = M[j - A.length] := ⟨_, rfl⟩
      obtain ⟨v, hv⟩ : ∃ v, v = M[j - A.length + 1] := ⟨_, rfl⟩
      obtain ⟨R, hR⟩ : ∃ R, R = M.drop (j - A.length + 2) := ⟨_, rfl⟩
      rw [← hP, ← hu, ← hv, ← hR] at hM
      have hPl : P.length = j - A.length := by rw [hP, List.length_take]; omega
      have hd : d.toList = (A ++ P) ++ u :: ([] ++ v :: (R ++ B)) := by rw [h, hM]; simp
      obtain ⟨_, e1⟩ := at_list (i := j) hd (by simp; omega)
      obtain ⟨_, e2⟩ := at_list (d := d) (P := A ++ P ++ [u]) (R := R ++ B) (x := v) (i := j + 1) (by rw [hd]; simp) (by simp; omega)
      rw [e1, e2] at hl
      have hs := swp_list' (i := j) (j := j + 1) hd (by simp; omega) (by simp; omega)
      obtain ⟨M', k1, k2, k3⟩ := ih (swp d (j + 1) j) (P ++ v :: u :: R) (by rw [hs]; simp) (by rw [hM] at hj; simp at hj ⊢; omega)
      refine ⟨M', k1, by rw [k2, hM]; simp, ?_⟩
      refine Stab.trans ?_ k3
      rw [hM]
      exact stab_pair T hl
    · exact ⟨M, h, rfl, Stab.refl c M⟩

theorem insOuter_list (T : Tot c) {A B : List α} {b : Nat} : ∀ (n i : Nat) (d : Array α) (M : List α), b - i = n → d.toList = A ++ M ++ B → b = A.length + M.length →
    ∃ M', (insOuter (ltB c) A.length b i d).toList = A ++ M' ++ B ∧ M'.length = M.length ∧ Stab c M M' := by
  intro n
  induction n with
  | zero =>
    intro i d M h1 h2 _
    rw [insOuter, if_neg (by omega)]
    exact ⟨M, h2, rfl, Stab.refl c M⟩
  | succ n ih =>
    intro i d M h1 h2 h3
    rw [insOuter, if_pos (by omega)]
    obtain ⟨M1, k1, k2, k3⟩ := insInner_list T i d M h2 (by omega)
    obtain ⟨M2, m1, m2, m3⟩ := ih (i + 1) _ M1 (by omega) k1 (by omega)
    exact ⟨M2, m1, by omega, k3.trans m3⟩

/-- THE INSERTION SORT IS THE SORT: it keeps like ones in their order. -/
theorem insertion_list (T : Tot c) {A M B : List α} {d : Array α} (h : d.toList = A ++ M ++ B) : (insertionSort (ltB c) d A.length (A.length + M.length)).toList = A ++ srt c M ++ B := by
  obtain ⟨M', k1, k2, k3⟩ := insOuter_list T (A := A) (B := B) (b := A.length + M.length) _ (A.length + 1) d M rfl h rfl
  have hd : A.length + M.length ≤ d.size := by rw [← Array.length_toList, h]; simp
  have hs := (insertionSort_holds (swo_lt T) d A.length (A.length + M.length) (by omega) hd).2
  rw [insertionSort] at hs ⊢
  rw [k1]
  congr 2
  refine srt_is T ?_ k3
  rw [Srt, List.pairwise_iff_getElem]
  intro i j hi hj hij
  obtain ⟨Pi, Ri, xi, qi, li, gi⟩ := mid_split M' hi
  obtain ⟨_, ei⟩ := at_list (P := A ++ Pi) (R := Ri ++ B) (x := xi) (i := A.length + i) (k1.trans (by rw [qi]; simp)) (by simp; omega)
  obtain ⟨Pj, Rj, xj, qj, lj, gj⟩ := mid_split M' hj
  obtain ⟨_, ej⟩ := at_list (P := A ++ Pj) (R := Rj ++ B) (x := xj) (i := A.length + j) (k1.trans (by rw [qj]; simp)) (by simp; omega)
  have := hs (A.length + i) (A.length + j) (by omega) (by omega) (by omega)
  rw [ei, ej] at this
  rw [← gi, ← gj]
  simpa [ltB] using this

end Go.Proofs.Ytojkandkhhjaaaa
