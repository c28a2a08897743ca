/-
  The library's stable sort: symMergeCmpFunc, any two runs that are sorted.
-/
import Derived.Test.YtojkandkhhjaaaaSoe
import Derived.Deep.DeepCutAuto
namespace Go.Proofs.Ytojkandkhhjaaaa
open Go.Shelf Go.RowKit Go.Lib Go.Sort

section
variable {α : Type} [Inhabited α]

theorem at_left {d : Array α} {A X R : List α} (h : d.toList = A ++ X ++ R) {i : Nat} (hi : A.length ≤ i) (hx : i < A.length + X.length) : i < d.size ∧ d[i]! = X[i - A.length]'(by omega) := by
  obtain ⟨P, Q, x, e, l, g⟩ := mid_split X (i := i - A.length) (by omega)
  obtain ⟨h1, h2⟩ := at_list (d := d) (P := A ++ P) (R := Q ++ R) (x := x) (i := i) (by rw [h, e]; simp) (by simp; omega)
  exact ⟨h1, by rw [h2, g]⟩

/-- What the search has found: both runs part so that the halves may be merged one by one. -/
theorem sym_split {c : α → α → Bool} (T : Tot c) {A X Y B : List α} {d : Array α} (hd : d.toList = A ++ X ++ Y ++ B) (hX : Srt c X) (hY : Srt c Y) {a m b mid st : Nat} (ha : a = A.length) (hm : m = a + X.length) (hb : b = m + Y.length)
    (h1 : a ≤ st) (h2 : st ≤ m) (h3 : st ≤ mid) (h4 : mid + m ≤ b + st)
    (H1 : a < st → mid + m - st < b → c d[st - 1]! d[mid + m - st]! = true) (H2 : st < m → st < mid → c d[st]! d[mid + m - 1 - st]! = false) :
    ∃ P1 X1 Y1 S1, X = P1 ++ X1 ∧ Y = Y1 ++ S1 ∧ P1.length = st - a ∧ X1.length = m - st ∧ Y1.length = mid - st ∧ S1.length = b + st - (mid + m) ∧ (∀ x ∈ X1, ∀ y ∈ Y1, c x y = false) ∧ ∀ p ∈ P1, ∀ s ∈ S1, c p s = true := by
  obtain ⟨P1, X1, eX, lP, lX⟩ := list_cut X (st - a) (by omega)
  obtain ⟨Y1, S1, eY, lY, lS⟩ := list_cut Y (mid - st) (by omega)
  refine ⟨P1, X1, Y1, S1, eX, eY, lP, by omega, lY, by omega, ?_, ?_⟩
  · intro x hx y hy
    have hx0 : 0 < X1.length := List.length_pos_of_mem hx
    have hy0 : 0 < Y1.length := List.length_pos_of_mem hy
    have k := H2 (by omega) (by omega)
    cases X1 with
    | nil => simp at hx0
    | cons u X1 =>
      rcases List.eq_nil_or_concat Y1 with rfl | ⟨Y2, v, rfl⟩
      · simp at hy0
      · obtain ⟨_, e1⟩ := at_list (d := d) (P := A ++ P1) (R := X1 ++ Y ++ B) (x := u) (i := st) (by rw [hd, eX]; simp) (by simp; omega)
        obtain ⟨_, e2⟩ := at_list (d := d) (P := A ++ X ++ Y2) (R := S1 ++ B) (x := v) (i := mid + m - 1 - st) (by rw [hd, eY]; simp) (by simp at lY ⊢; omega)
        rw [e1, e2] at k
        rw [eX] at hX
        rw [eY] at hY
        have s1 := (List.pairwise_append.1 hX).2.1
        have s2 := (List.pairwise_append.1 hY).1
        have t1 := (srt_parts T (P := []) (y := u) (R := X1) s1).2 x hx
        have t2 := (srt_parts T (P := Y2) (y := v) (R := []) (by simpa [Srt] using s2)).1 y (by simpa using hy)
        cases hxy : c x y with
        | false => rfl
        | true => rw [T.trans u x v t1 (T.trans x y v hxy t2)] at k; simp at k
  · intro p hp s hs
    have hp0 : 0 < P1.length := List.length_pos_of_mem hp
    have hs0 : 0 < S1.length := List.length_pos_of_mem hs
    have k := H1 (by omega) (by omega)
    cases S1 with
    | nil => simp at hs0
    | cons v S1 =>
      rcases List.eq_nil_or_concat P1 with rfl | ⟨P2, u, rfl⟩
      · simp at hp0
      · obtain ⟨_, e1⟩ := at_list (d := d) (P := A ++ P2) (R := X1 ++ Y ++ B) (x := u) (i := st - 1) (by rw [hd, eX]; simp) (by simp at lP ⊢; omega)
        obtain ⟨_, e2⟩ := at_list (d := d) (P := A ++ X ++ Y1) (R := S1 ++ B) (x := v) (i := mid + m - st) (by rw [hd, eY]; simp) (by simp; omega)
        rw [e1, e2] at k
        rw [eX] at hX
        rw [eY] at hY
        have s1 := (List.pairwise_append.1 hX).1
        have s2 := (List.pairwise_append.1 hY).2.1
        have t1 := (srt_parts T (P := P2) (y := u) (R := []) (by simpa [Srt] using s1)).1 p (by simpa using hp)
        have t2 := (srt_parts T (P := []) (y := v) (R := S1) s2).2 s hs
        exact T.trans p u s t1 (T.trans u v s k t2)
end

end Go.Proofs.Ytojkandkhhjaaaa
