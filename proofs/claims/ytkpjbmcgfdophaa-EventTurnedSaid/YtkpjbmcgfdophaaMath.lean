/-
  Plain facts on lists of bytes: a number's digits of base 128 ('numL'). No program in sight.
-/
namespace Go.Proofs.Ytkpjbmcgfdophaa

/-- A number's digits of base 128, the lowest first, 128 more in each but the last. -/
def numL (n : Nat) : List UInt8 := if n < 128 then [UInt8.ofNat n] else UInt8.ofNat (n % 128 + 128) :: numL (n / 128)
termination_by n
decreasing_by omega

theorem numL_small {n : Nat} (h : n < 128) : numL n = [UInt8.ofNat n] := by rw [numL, if_pos h]
theorem numL_great {n : Nat} (h : 128 ≤ n) : numL n = UInt8.ofNat (n % 128 + 128) :: numL (n / 128) := by rw [numL, if_neg (by omega)]

theorem numL_len (k n : Nat) (h : n < 128 ^ (k + 1)) : (numL n).length ≤ k + 1 := by
  induction k generalizing n with
  | zero => rw [numL_small (by simpa using h)]; simp
  | succ k ih =>
    by_cases h1 : n < 128
    · rw [numL_small h1]; simp
    · rw [numL_great (by omega), List.length_cons]
      have := ih (n / 128) (by rw [Nat.div_lt_iff_lt_mul (by omega)]; rw [Nat.pow_succ] at h; exact h)
      omega

theorem numL_ten {n : Nat} (h : n < 18446744073709551616) : (numL n).length ≤ 10 :=
  numL_len 9 n (Nat.lt_of_lt_of_le h (by decide))

theorem numL_pos (n : Nat) : 0 < (numL n).length := by
  by_cases h : n < 128
  · rw [numL_small h]; simp
  · rw [numL_great (by omega)]; simp

/-- How a number is read: from the byte at place i on, n having been met: its value, how many bytes it has, the error (2: its form, 3: bytes aren't there). -/
def rn (i n : Nat) : List UInt8 → Nat × Nat × Int
  | [] => (0, 0, 3)
  | b :: t => if (i = 9 ∧ 1 < b.toNat) ∨ (0 < i ∧ b.toNat = 0) then (0, 0, 2) else if b.toNat < 128 then (n + b.toNat * 128 ^ i, i + 1, 0) else rn (i + 1) (n + (b.toNat - 128) * 128 ^ i) t

/-- The number at the head of l. -/
def rdN (l : List UInt8) : Nat × Nat × Int := rn 0 0 l

theorem rn_step (l : List UInt8) (k n d : Nat) (hk : k < l.length) (hd : d = (l.getD k 0).toNat) :
    rn k n (l.drop k) = if (k = 9 ∧ 1 < d) ∨ (0 < k ∧ d = 0) then (0, 0, 2) else if d < 128 then (n + d * 128 ^ k, k + 1, 0) else rn (k + 1) (n + (d - 128) * 128 ^ k) (l.drop (k + 1)) := by
  rw [List.drop_eq_getElem_cons hk, rn]
  have : (l.getD k 0) = l[k] := by simp [List.getD, hk]
  rw [hd, this]

theorem rn_end (l : List UInt8) (k n : Nat) (hk : l.length ≤ k) : rn k n (l.drop k) = (0, 0, 3) := by
  rw [List.drop_of_length_le hk, rn]

theorem rn_ok (l : List UInt8) : ∀ (i n x s : Nat), rn i n l = (x, s, 0) → i ≤ 9 → n < 128 ^ i → i < s ∧ s ≤ i + l.length ∧ x < 18446744073709551616 := by
  induction l with
  | nil => intro i n x s h; simp [rn] at h
  | cons b t ih =>
    intro i n x s h hi hn
    rw [rn] at h
    by_cases h1 : (i = 9 ∧ 1 < b.toNat) ∨ (0 < i ∧ b.toNat = 0)
    · rw [if_pos h1] at h; simp at h
    · rw [if_neg h1] at h
      have hb := UInt8.toNat_lt b
      by_cases h2 : b.toNat < 128
      · rw [if_pos h2] at h
        simp only [Prod.mk.injEq] at h
        obtain ⟨rfl, rfl, _⟩ := h
        refine ⟨by omega, by simp, ?_⟩
        by_cases h9 : i = 9
        · subst h9
          have : b.toNat ≤ 1 := by omega
          have : b.toNat * 128 ^ 9 ≤ 1 * 128 ^ 9 := Nat.mul_le_mul_right _ this
          omega
        · have hp : (128 : Nat) ^ i ≤ 128 ^ 8 := Nat.pow_le_pow_right (by decide) (by omega)
          have : b.toNat * 128 ^ i ≤ 127 * 128 ^ 8 := Nat.mul_le_mul (by omega) hp
          omega
      · rw [if_neg h2] at h
        have hi9 : i ≠ 9 := by intro h9; exact h1 (.inl ⟨h9, by omega⟩)
        have hlt : n + (b.toNat - 128) * 128 ^ i < 128 ^ (i + 1) := by
          have : (b.toNat - 128 + 1) * 128 ^ i ≤ 128 * 128 ^ i := Nat.mul_le_mul_right _ (by omega)
          rw [Nat.pow_succ, Nat.mul_comm (128 ^ i)]
          rw [Nat.add_mul, Nat.one_mul] at this
          omega
        have := ih (i + 1) _ x s h (by omega) hlt
        simp only [List.length_cons]
        omega

theorem rdN_ok (l : List UInt8) (h : (rdN l).2.2 = 0) : 0 < (rdN l).2.1 ∧ (rdN l).2.1 ≤ l.length ∧ (rdN l).1 < 18446744073709551616 := by
  have := rn_ok l 0 0 (rdN l).1 (rdN l).2.1 (by rw [← h]; rfl) (by omega) (by decide)
  omega

/-- What a read of a number makes of the first error and the bytes that are left: the number, the bytes left, the first error. -/
def rNum (e : Int) (l : List UInt8) : Nat × List UInt8 × Int :=
  if e = 0 then (if (rdN l).2.2 = 0 then ((rdN l).1, l.drop (rdN l).2.1, 0) else (0, [], (rdN l).2.2)) else (0, l, e)

theorem rNum_lt (e : Int) (l : List UInt8) : (rNum e l).1 ≤ 18446744073709551615 := by
  unfold rNum
  by_cases h : e = 0
  · rw [if_pos h]
    by_cases h1 : (rdN l).2.2 = 0
    · rw [if_pos h1]; have := (rdN_ok l h1).2.2; omega
    · rw [if_neg h1]; omega
  · rw [if_neg h]; omega

theorem rNum_len (e : Int) (l : List UInt8) : (rNum e l).2.1.length ≤ l.length := by
  unfold rNum
  by_cases h : e = 0
  · rw [if_pos h]
    by_cases h1 : (rdN l).2.2 = 0
    · rw [if_pos h1]; simp
    · rw [if_neg h1]; simp
  · rw [if_neg h]; simp

/-- What a reader's End tells. -/
def rEnd (e : Int) (l : List UInt8) : Int := if e = 0 then (if l = [] then 0 else 2) else e

end Go.Proofs.Ytkpjbmcgfdophaa
