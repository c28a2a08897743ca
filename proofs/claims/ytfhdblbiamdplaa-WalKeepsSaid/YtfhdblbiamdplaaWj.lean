/-
  What lay writes, block by block: plain lists.
-/
import Derived.Test.YtfhdblbiamdplaaWi
namespace Go.Proofs.Ytfhdblbiamdplaa
open Go.RowKit

theorem splice_len {now L : List UInt8} {s t : Nat} (h : s + L.length ≤ now.length) : (splice now s (L.take t)).length = now.length := by
  have : (L.take t).length ≤ L.length := by simp; omega
  exact length_splice _ _ _ (by omega)

theorem put_at {now L : List UInt8} {s t : Nat} (h : s + L.length ≤ now.length) (ht : t ≤ L.length) (x : Nat) : (splice now s (L.take t))[x]? = if s ≤ x ∧ x < s + t then L[x - s]? else now[x]? := by
  have e : (L.take t).length = t := by simp; omega
  rw [splice_at _ _ _ (by omega), e]
  by_cases hx : s ≤ x ∧ x < s + t
  · rw [if_pos hx, if_pos hx, List.getElem?_take, if_pos (by omega)]
  · rw [if_neg hx, if_neg hx]

theorem put_all {now L : List UInt8} {s : Nat} : splice now s (L.take L.length) = splice now s L := by rw [List.take_length]

/-- A block with the frame's bytes in it. -/
theorem put_blk {now L : List UInt8} {n s t i off m : Nat} (hn : now.length = 32 * n) (h : s + L.length ≤ 32 * n) (ht : t < L.length) (hi : 32 * i + off = s + t) (ho : off < 32) (hm : m = min (32 - off) (L.length - t)) :
    splice (blkOf (splice now s (L.take t)) i) off ((L.drop t).take m) = blkOf (splice now s L) i := by
  have hin : i < n := by omega
  have l1 : (blkOf (splice now s (L.take t)) i).length = 32 := blkOf_length _ n i (by rw [splice_len (by omega)]; exact hn) hin
  have l2 : ((L.drop t).take m).length = m := by simp; omega
  apply List.ext_getElem?
  intro x
  rw [splice_at _ _ _ (by omega), l2, blkOf_at, blkOf_at, put_at (by omega) (by omega), ← put_all (L := L), put_at (by omega) (Nat.le_refl _)]
  by_cases hx : x < 32
  · rw [if_pos hx, if_pos hx]
    by_cases h1 : off ≤ x ∧ x < off + m
    · rw [if_pos h1, if_pos (by omega), List.getElem?_take, if_pos (by omega), List.getElem?_drop]
      congr 1
      omega
    · rw [if_neg h1]
      by_cases h2 : s ≤ 32 * i + x ∧ 32 * i + x < s + t
      · rw [if_pos h2, if_pos (by omega)]
      · rw [if_neg h2, if_neg (by omega)]
  · rw [if_neg hx, if_neg hx]
    split
    · rw [List.getElem?_take, if_neg (by omega)]
    · rfl

theorem put_lay {now L : List UInt8} {n s t i off m : Nat} (hn : now.length = 32 * n) (h : s + L.length ≤ 32 * n) (ht : t < L.length) (hi : 32 * i + off = s + t) (ho : off < 32) (hm : m = min (32 - off) (L.length - t)) :
    lay (splice now s (L.take t)) i (blkOf (splice now s L) i) = splice now s (L.take (t + m)) := by
  have hin : i < n := by omega
  have l0 := splice_len (now := now) (L := L) (s := s) (t := t) (by omega)
  have lF : (splice now s L).length = 32 * n := by rw [← put_all, splice_len (by omega)]; exact hn
  have l1 : (blkOf (splice now s L) i).length = 32 := blkOf_length _ n i lF hin
  apply List.ext_getElem?
  intro x
  rw [lay, splice_at _ _ _ (by omega), l1, blkOf_at, put_at (by omega) (by omega), put_at (by omega) (by omega), ← put_all (L := L), put_at (by omega) (Nat.le_refl _)]
  by_cases hx : 32 * i ≤ x ∧ x < 32 * i + 32
  · rw [if_pos hx, if_pos (by omega)]
    have e : 32 * i + (x - 32 * i) = x := by omega
    rw [e]
    by_cases h2 : s ≤ x ∧ x < s + L.length
    · rw [if_pos h2, if_pos (by omega)]
    · rw [if_neg h2, if_neg (by omega)]
  · rw [if_neg hx]
    by_cases h2 : s ≤ x ∧ x < s + t
    · rw [if_pos h2, if_pos (by omega)]
    · rw [if_neg h2, if_neg (by omega)]

/-- The writes of a frame: so many blocks from the first one on. -/
def blks (F : List UInt8) (i k : Nat) : List (Nat × List UInt8) := (List.range' i k).map fun j => (j, blkOf F j)
theorem blks_zero (F : List UInt8) (i : Nat) : blks F i 0 = [] := rfl
theorem blks_succ (F : List UInt8) (i k : Nat) : blks F i (k + 1) = blks F i k ++ [(i + k, blkOf F (i + k))] := by
  simp [blks, List.range'_concat]

/-- How many blocks t bytes from s on have touched. -/
def cnt (s t : Nat) : Nat := if t = 0 then 0 else (s + t + 31) / 32 - s / 32

theorem cnt_step {s t i off m l : Nat} (hi : 32 * i + off = s + t) (ho : off < 32) (hm : m = min (32 - off) (l - t)) (ht : t < l) (hc : t = 0 ∨ off = 0) : s / 32 + cnt s t = i ∧ cnt s (t + m) = cnt s t + 1 ∧ (t + m = l ∨ (s + (t + m)) % 32 = 0) := by
  unfold cnt
  rw [if_neg (show ¬ t + m = 0 by omega)]
  by_cases h0 : t = 0
  · rw [if_pos h0]; omega
  · rw [if_neg h0]; omega

end Go.Proofs.Ytfhdblbiamdplaa
