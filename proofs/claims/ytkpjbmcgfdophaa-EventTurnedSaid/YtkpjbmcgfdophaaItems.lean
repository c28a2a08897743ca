/-
  Items (a kind, a number, a text): their bytes, and how they are read back. No program in sight.
-/
import Derived.Test.YtkpjbmcgfdophaaRead3
namespace Go.Proofs.Ytkpjbmcgfdophaa
open Go.RowKit

/-- An item's bytes. -/
def itemL (t : Nat × Nat × ByteArray) : List UInt8 :=
  if t.1 % 3 = 0 then numL t.2.1 else if t.1 % 3 = 1 then intL (wrap64 (t.2.1 : Int)) else textL t.2.2.data.toList

/-- The bytes of the first k items; of m items from k on. -/
def itemsL (f : Nat → Nat × Nat × ByteArray) : Nat → List UInt8
  | 0 => []
  | k + 1 => itemsL f k ++ itemL (f k)
def itemsR (f : Nat → Nat × Nat × ByteArray) (k : Nat) : Nat → List UInt8
  | 0 => []
  | m + 1 => itemL (f k) ++ itemsR f (k + 1) m

theorem items_join (f : Nat → Nat × Nat × ByteArray) (m : Nat) : ∀ k, itemsL f k ++ itemsR f k m = itemsL f (k + m) := by
  induction m with
  | zero => intro k; simp [itemsR]
  | succ m ih =>
    intro k
    have := ih (k + 1)
    rw [itemsR, ← List.append_assoc]
    rw [itemsL] at this
    rw [this]
    congr 1
    omega

theorem items_all (f : Nat → Nat × Nat × ByteArray) (n : Nat) : itemsR f 0 n = itemsL f n := by
  have := items_join f n 0
  simpa [itemsL] using this

theorem wrap_range (n : Int) : -9223372036854775808 ≤ wrap64 n ∧ wrap64 n ≤ 9223372036854775807 := by
  unfold wrap64
  omega

theorem itemL_len (t : Nat × Nat × ByteArray) (hn : t.2.1 < 18446744073709551616) (hs : t.2.2.size ≤ 60) : (itemL t).length ≤ 70 := by
  unfold itemL
  by_cases h0 : t.1 % 3 = 0
  · rw [if_pos h0]; have := numL_ten hn; omega
  · rw [if_neg h0]
    by_cases h1 : t.1 % 3 = 1
    · rw [if_pos h1]
      obtain ⟨a, b⟩ := wrap_range (t.2.1 : Int)
      have := numL_ten (Lib.zigzag_lt a b)
      unfold intL
      omega
    · rw [if_neg h1]
      have h2 : t.2.2.data.toList.length = t.2.2.size := by rw [Array.length_toList]; rfl
      have := numL_ten (n := t.2.2.data.toList.length) (by omega)
      unfold textL
      rw [List.length_append]
      omega

theorem itemsL_len (f : Nat → Nat × Nat × ByteArray) (n : Nat) (h : ∀ i, i < n → (f i).2.1 < 18446744073709551616 ∧ (f i).2.2.size ≤ 60) : (itemsL f n).length ≤ 70 * n := by
  induction n with
  | zero => simp [itemsL]
  | succ n ih =>
    have h1 := ih (fun i hi => h i (by omega))
    have h2 := itemL_len (f n) (h n (by omega)).1 (h n (by omega)).2
    rw [itemsL, List.length_append]
    omega

/-- A number's digits are read back. -/
theorem rn_back (t : List UInt8) (n : Nat) : ∀ (i acc : Nat), n * 128 ^ i < 18446744073709551616 → (0 < i → 0 < n) → i ≤ 9 → rn i acc (numL n ++ t) = (acc + n * 128 ^ i, i + (numL n).length, 0) := by
  induction n using Nat.strongRecOn with
  | _ n ih =>
    intro i acc hlt hpos hi
    by_cases h : n < 128
    · rw [numL_small h, List.cons_append, rn]
      have e : (UInt8.ofNat n).toNat = n := by rw [UInt8.toNat_ofNat']; omega
      rw [e, if_neg, if_pos h]
      · simp
      · rintro (⟨h9, h1⟩ | ⟨h1, h2⟩)
        · subst h9
          have : 2 * 128 ^ 9 ≤ n * 128 ^ 9 := Nat.mul_le_mul_right _ h1
          omega
        · have := hpos h1; omega
    · have e : (UInt8.ofNat (n % 128 + 128)).toNat = n % 128 + 128 := by rw [UInt8.toNat_ofNat']; omega
      have hi9 : i ≠ 9 := by
        rintro rfl
        have : 128 * 128 ^ 9 ≤ n * 128 ^ 9 := Nat.mul_le_mul_right _ (by omega)
        omega
      have hdm : n / 128 * 128 ^ (i + 1) + n % 128 * 128 ^ i = n * 128 ^ i := by
        rw [Nat.pow_succ, Nat.mul_comm (128 ^ i) 128, ← Nat.mul_assoc, ← Nat.add_mul]
        congr 1
        omega
      rw [numL_great (by omega), List.cons_append, rn, e, if_neg (by omega), if_neg (by omega), ih (n / 128) (by omega) (i + 1) _ (by omega) (by intro _; omega) (by omega)]
      rw [show n % 128 + 128 - 128 = n % 128 from by omega]
      simp only [List.length_cons, Prod.mk.injEq, and_true]
      omega

theorem rNum_back (n : Nat) (t : List UInt8) (hn : n < 18446744073709551616) : rNum 0 (numL n ++ t) = (n, t, 0) := by
  have h : rdN (numL n ++ t) = (n, (numL n).length, 0) := by
    have := rn_back t n 0 0 (by simpa using hn) (by omega) (by omega)
    simpa [rdN] using this
  rw [rNum, if_pos rfl, if_pos (by rw [h]), h]
  simp

theorem unzig_zigzag (x : Int) : unzig (Lib.zigzag x) = x := by
  unfold unzig Lib.zigzag
  by_cases h : 0 ≤ x
  · rw [if_pos h, if_neg (by omega)]; omega
  · rw [if_neg h, if_pos (by omega)]; omega

theorem rText_back (most : Int) (s t : List UInt8) (hs : (s.length : Int) ≤ max most 0) (hl : s.length < 18446744073709551616) : rText most 0 (textL s ++ t) = (s, t, 0) := by
  have h : rNum 0 (textL s ++ t) = (s.length, s ++ t, 0) := by
    unfold textL
    rw [List.append_assoc]
    exact rNum_back _ _ hl
  rw [rText, h, rTextOf, if_pos rfl, if_neg (by simp only; omega), if_neg (by simp)]
  simp

theorem strL_self (s : ByteArray) : strL s.data.toList = s := by
  unfold strL
  apply ByteArray.ext
  simp

end Go.Proofs.Ytkpjbmcgfdophaa
