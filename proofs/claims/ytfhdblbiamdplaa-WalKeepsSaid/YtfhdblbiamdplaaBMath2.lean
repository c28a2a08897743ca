/-
  More plain facts on lists: bytes laid over others one by one. No program in sight.
-/
import Derived.Test.YtfhdblbiamdplaaBMath
namespace Go.Proofs.Ytfhdblbiamdplaa

theorem splice_nil (L : List UInt8) (o : Nat) : splice L o [] = L := by simp [splice]

theorem splice_step (L P : List UInt8) (o k : Nat) (hk : k < P.length) (h : o + P.length ≤ L.length) : splice L o (P.take (k + 1)) = (splice L o (P.take k)).set (o + k) (P.getD k 0) := by
  have h1 : (P.take k).length = k := by simp; omega
  have h2 : (P.take (k + 1)).length = k + 1 := by simp; omega
  apply List.ext_getElem?
  intro x
  rw [List.getElem?_set, splice_at _ _ _ (by omega), splice_at _ _ _ (by omega), h1, h2, length_splice _ _ _ (by omega)]
  by_cases e : o + k = x
  · subst e
    rw [if_pos rfl, if_pos (by omega), if_pos (by omega), Nat.add_sub_cancel_left, List.getElem?_take, if_pos (by omega)]
    simp [List.getD, hk]
  · rw [if_neg e]
    by_cases h3 : o ≤ x ∧ x < o + k
    · rw [if_pos (by omega), if_pos h3, List.getElem?_take, List.getElem?_take, if_pos (by omega), if_pos (by omega)]
    · rw [if_neg (by omega), if_neg h3]

theorem laid_take (L : List UInt8) (ws : List (Nat × List UInt8)) (i : Nat) (hi : i < ws.length) : laid L (ws.take (i + 1)) = lay (laid L (ws.take i)) ws[i].1 ws[i].2 := by
  have : ws.take (i + 1) = ws.take i ++ [(ws[i].1, ws[i].2)] := by
    rw [List.take_add_one, List.getElem?_eq_getElem hi]
    rfl
  rw [this, laid_snoc]

theorem laid_take_length (n : Nat) (L : List UInt8) (ws : List (Nat × List UInt8)) (i : Nat) (hL : L.length = 32 * n) (ho : Okw n ws) : (laid L (ws.take i)).length = 32 * n :=
  laid_length n _ _ hL (fun y hy => ho y (List.mem_of_mem_take hy))

theorem left_le (lost : List Bool) (torn : Int) (m : Nat) (ws : List (Nat × List UInt8)) : ∀ k, (left lost torn m k ws).length ≤ ws.length := by
  induction ws with
  | nil => intro k; simp [left]
  | cons x r ih =>
    intro k
    rw [left]
    have := ih (k + 1)
    split
    · simp; omega
    · simp; omega

end Go.Proofs.Ytfhdblbiamdplaa
