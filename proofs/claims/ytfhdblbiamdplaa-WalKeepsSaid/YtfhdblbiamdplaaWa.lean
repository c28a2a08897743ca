/-
  Sums: the contracts of package crc's Sum and of carrierref01's More and Of: both make the same sum.
-/
import Derived.Test.YtfhdblbiamdplaaR01
import Derived.Laws.BitsAllLaws
import Derived.WalkArith
namespace Go.Proofs.Ytfhdblbiamdplaa
open Go.RowKit

/-- One bit is taken out of the register. -/
def shN (r : Nat) : Nat := if r % 2 = 1 then (r / 2) ^^^ 2197175160 else r / 2
def itS : Nat → Nat → Nat
  | 0, r => r
  | k + 1, r => shN (itS k r)
/-- The register behind these bytes. -/
def regN (r : Nat) (p : List UInt8) : Nat := p.foldl (fun r b => itS 8 (r ^^^ b.toNat)) r
/-- The sum. -/
def sumN (p : List UInt8) : Nat := 4294967295 - regN 4294967295 p

theorem xor32 {a b : Nat} (ha : a < 4294967296) (hb : b < 4294967296) : a ^^^ b < 4294967296 := Nat.xor_lt_two_pow (n := 32) ha hb
theorem shN_lt {r : Nat} (h : r < 4294967296) : shN r < 4294967296 := by
  unfold shN
  split
  · exact xor32 (by omega) (by decide)
  · omega
theorem itS_lt {r : Nat} (h : r < 4294967296) : ∀ k, itS k r < 4294967296
  | 0 => h
  | k + 1 => shN_lt (itS_lt h k)
theorem regN_lt : ∀ (p : List UInt8) {r : Nat}, r < 4294967296 → regN r p < 4294967296
  | [], _, h => h
  | b :: p, r, h => regN_lt p (itS_lt (xor32 h (by have := UInt8.toNat_lt b; omega)) 8)
theorem regN_take {r : Nat} {p : List UInt8} {k : Nat} (h : k < p.length) : regN r (p.take (k + 1)) = itS 8 (regN r (p.take k) ^^^ p[k].toNat) := by
  unfold regN
  rw [List.take_succ_eq_append_getElem h, List.foldl_append]
  rfl
theorem sumN_lt (p : List UInt8) : sumN p < 4294967296 := by unfold sumN; omega

/-- The document's way: a bit of the byte is held against the register's lowest. -/
def dcN (r b k : Nat) : Nat := if r % 2 ≠ b / 2 ^ k % 2 then (r / 2) ^^^ 2197175160 else r / 2

theorem xor_half (a b : Nat) : (a ^^^ b) / 2 = (a / 2) ^^^ (b / 2) := by
  have := Nat.shiftRight_xor_distrib (a := a) (b := b) (i := 1)
  simpa [Nat.shiftRight_eq_div_pow] using this

theorem dc_step (r b k : Nat) : shN (r ^^^ (b / 2 ^ k)) = dcN r b k ^^^ (b / 2 ^ (k + 1)) := by
  have h2 : b / 2 ^ (k + 1) = b / 2 ^ k / 2 := by rw [Nat.pow_succ, Nat.div_div_eq_div_mul]
  unfold shN dcN
  rw [h2]
  generalize b / 2 ^ k = c at *
  rw [xor_half]
  have h1 : (r ^^^ c) % 2 = 1 ↔ r % 2 ≠ c % 2 := by
    have h3 : (r ^^^ c).testBit 0 = (r.testBit 0 ^^ c.testBit 0) := Nat.testBit_xor ..
    simp only [Nat.testBit_zero] at h3
    have h4 : ∀ n : Nat, n % 2 = 0 ∨ n % 2 = 1 := fun n => by omega
    rcases h4 r with hr | hr <;> rcases h4 c with hc | hc <;> rcases h4 (r ^^^ c) with hx | hx <;> rw [hr, hc, hx] at h3 ⊢ <;> simp at h3 ⊢
  by_cases h : r % 2 ≠ c % 2
  · rw [if_pos h, if_pos (h1.2 h), Nat.xor_assoc, Nat.xor_comm (c / 2), ← Nat.xor_assoc]
  · rw [if_neg h, if_neg (fun h2 => h (h1.1 h2))]

/-- The document's register, k bits in. -/
def dcs (r b : Nat) : Nat → Nat
  | 0 => r
  | k + 1 => dcN (dcs r b k) b k

theorem dcs_it (r b : Nat) : ∀ k, itS k (r ^^^ b) = dcs r b k ^^^ (b / 2 ^ k)
  | 0 => by simp [itS, dcs]
  | k + 1 => by rw [itS, dcs_it r b k, dc_step, dcs]

theorem dcs_all (r b : Nat) (hb : b < 256) : dcs r b 8 = itS 8 (r ^^^ b) := by
  rw [dcs_it, Nat.div_eq_of_lt (by omega), Nat.xor_zero]

theorem dcN_lt {r b k : Nat} (h : r < 4294967296) : dcN r b k < 4294967296 := by
  unfold dcN
  split
  · exact xor32 (by omega) (by decide)
  · omega
theorem dcs_lt {r b : Nat} (h : r < 4294967296) : ∀ k, dcs r b k < 4294967296
  | 0 => h
  | k + 1 => dcN_lt (dcs_lt h k)

theorem not_nat {r : Nat} (h : r < 4294967296) : 4294967295 ^^^ r = 4294967295 - r := by
  have h1 := BitVec.toNat_not (x := BitVec.ofNat 32 r)
  rw [← BitVec.allOnes_xor, BitVec.toNat_xor, BitVec.toNat_allOnes, BitVec.toNat_ofNat, Nat.mod_eq_of_lt (show r < 2 ^ 32 from h)] at h1
  exact h1

theorem not_u32 {r : Nat} (h : r < 4294967296) : bits .xor .u32 IntKind.u32.max (r : Int) = ((4294967295 - r : Nat) : Int) := by
  have h0 : IntKind.u32.max = ((4294967295 : Nat) : Int) := by decide
  rw [h0, u32_xor_nat _ _ (by decide) h, not_nat h]

theorem retu {a b : Int} (h : a = b) : Ending.returned (.int .u32 a) = .returned (.int .u32 b) := by rw [h]

set_option maxHeartbeats 400000 in
theorem shift_any (r : Nat) (w : World) (hr : r < 4294967296) : Calls Try.prog 75 #[.int .u32 r] w fun e w' => e = .returned (.int .u32 (shN r)) ∧ w = w' := by
  have e1 : bits .and .u32 (r : Int) 1 = ((r % 2 : Nat) : Int) := by
    have := u32_and_nat r 1 hr (by decide)
    rw [Nat.and_one_is_mod] at this
    exact this
  obtain ⟨q, hq⟩ : ∃ q, q = r / 2 := ⟨_, rfl⟩
  have e2 : (r : Int) / 2 = (q : Int) := by omega
  have e3 : bits .xor .u32 (q : Int) 2197175160 = ((q ^^^ 2197175160 : Nat) : Int) := u32_xor_nat q 2197175160 (by omega) (by decide)
  by_cases h : r % 2 = 1
  · have e4 : ((r % 2 : Nat) : Int) = 1 := by omega
    rw [e4] at e1
    have R := Lib.hid (show shN r = q ^^^ 2197175160 by rw [shN, if_pos h, hq])
    clear hq h e4
    go_enter Try.func75, Try.ntmps75
    go_wp2
    go_ret
    exact ⟨retu (by rw [R.out]), rfl⟩
  · have e4 : ((r % 2 : Nat) : Int) = 0 := by omega
    rw [e4] at e1
    have R := Lib.hid (show shN r = q by rw [shN, if_neg h, hq])
    clear hq h e4 e3
    go_enter Try.func75, Try.ntmps75
    go_wp2
    go_ret
    exact ⟨retu (by rw [R.out]), rfl⟩

set_option maxHeartbeats 1000000 in
set_option maxRecDepth 100000 in
theorem sum_any (v : Value) (p : List UInt8) (w : World) (h : Rd w v p) (hp : p.length ≤ 1099511627776) :
    Calls Try.prog 66 #[v] w fun e w' => e = .returned (.int .u32 (sumN p)) ∧ w = w' := by
  obtain ⟨a, c, rfl, hc, _, hl⟩ := h
  have Hl := Lib.hid hl; clear hl
  go_enter Try.func66, Try.ntmps66
  go_wp2
  go_loop [3, 8] (fun t3 t8 => ∃ (i r : Nat), t8 = .int .i64 i ∧ t3 = .int .u32 r ∧ i ≤ p.length ∧ r = regN 4294967295 (p.take i)) (fun _ t8 => p.length - (intOf t8).toNat)
  case atStart => exact ⟨0, 4294967295, rfl, rfl, Nat.zero_le _, rfl⟩
  case round =>
    obtain ⟨i, r, rfl, rfl, hi, hr⟩ := hrel
    have hr32 : r < 4294967296 := by rw [hr]; exact regN_lt _ (by decide)
    have Hr := Lib.hid hr; clear hr
    by_cases hlt : i < p.length
    · obtain ⟨pb, po, rfl, hcell⟩ := Hl.out (by rintro rfl; simp at hlt)
      have c1 := hcell i hlt
      obtain ⟨b, hb⟩ : ∃ b : UInt8, b = p.getD i 0 := ⟨_, rfl⟩
      have hb2 : p[i] = b := by rw [hb]; simp [List.getD, hlt]
      rw [← hb] at c1
      have St := Lib.hid (regN_take (r := 4294967295) hlt)
      rw [hb2, ← Hr.out] at St
      have hb8 := UInt8.toNat_lt b
      have x1 : (i : Int) < (p.length : Int) := by omega
      have e1 : bits .xor .u32 (r : Int) (b.toNat : Int) = ((r ^^^ b.toNat : Nat) : Int) := u32_xor_nat r b.toNat hr32 (by omega)
      obtain ⟨q, hq⟩ : ∃ q, q = r ^^^ b.toNat := ⟨_, rfl⟩
      rw [← hq] at e1 St
      have hq32 : q < 4294967296 := by rw [hq]; exact xor32 hr32 (by omega)
      clear hb hb2 hcell hq
      go_wp2
      go_loop [3, 16] (fun t3 t16 => ∃ k : Nat, t16 = .int .i64 k ∧ k ≤ 8 ∧ t3 = .int .u32 (itS k q : Nat)) (fun _ t16 => 8 - (intOf t16).toNat)
      case atStart => exact ⟨0, rfl, by omega, rfl⟩
      case round =>
        obtain ⟨k, rfl, hk, rfl⟩ := hrel
        by_cases hk8 : k < 8
        · have x2 : (k : Int) < 8 := by omega
          go_wp2_with fail
          refine (shift_any (itS k q) w (itS_lt hq32 k)).mono ?_
          rintro e w1 ⟨rfl, rfl⟩
          go_wp2
          go_round
          case rel => exact ⟨k + 1, by go_num, by omega, rfl⟩
          case measure => simp [intOf]; omega
        · obtain rfl : k = 8 := by omega
          go_wp2
          go_round
          case rel => exact ⟨i + 1, itS 8 q, by go_num, rfl, by omega, St.out.symm⟩
          case measure => simp [intOf]; omega
    · have x1 : ¬ (i : Int) < (p.length : Int) := by omega
      have R := Lib.hid (show sumN p = 4294967295 - r by rw [Hr.out, List.take_of_length_le (by omega)]; rfl)
      go_wp2
      go_ret
      exact ⟨retu (by rw [R.out]; exact not_u32 hr32), rfl⟩

set_option maxHeartbeats 1000000 in
set_option maxRecDepth 100000 in
theorem more_any (v : Value) (p : List UInt8) (w : World) (h : Rd w v p) (hp : p.length ≤ 1099511627776) :
    Calls Try.prog 74 #[.int .u32 0, v] w fun e w' => e = .returned (.int .u32 (sumN p)) ∧ w = w' := by
  obtain ⟨a, c, rfl, hc, _, hl⟩ := h
  have Hl := Lib.hid hl; clear hl
  go_enter Try.func74, Try.ntmps74
  go_wp2
  go_loop [5, 6] (fun t5 t6 => ∃ (i r : Nat), t6 = .int .i64 i ∧ t5 = .int .u32 r ∧ i ≤ p.length ∧ r = regN 4294967295 (p.take i)) (fun _ t6 => p.length - (intOf t6).toNat)
  case atStart => exact ⟨0, 4294967295, rfl, rfl, Nat.zero_le _, rfl⟩
  case round =>
    obtain ⟨i, r, rfl, rfl, hi, hr⟩ := hrel
    have hr32 : r < 4294967296 := by rw [hr]; exact regN_lt _ (by decide)
    have Hr := Lib.hid hr; clear hr
    by_cases hlt : i < p.length
    · obtain ⟨pb, po, rfl, hcell⟩ := Hl.out (by rintro rfl; simp at hlt)
      have c1 := hcell i hlt
      obtain ⟨b, hb⟩ : ∃ b : UInt8, b = p.getD i 0 := ⟨_, rfl⟩
      have hb2 : p[i] = b := by rw [hb]; simp [List.getD, hlt]
      rw [← hb] at c1
      have St := Lib.hid (regN_take (r := 4294967295) hlt)
      rw [hb2, ← Hr.out, ← dcs_all r b.toNat (UInt8.toNat_lt b)] at St
      have hb8 := UInt8.toNat_lt b
      have x1 : (i : Int) < (p.length : Int) := by omega
      clear hb hb2 hcell
      go_wp2
      go_loop [5, 7] (fun t5 t7 => ∃ k : Nat, t7 = .int .i64 k ∧ k ≤ 8 ∧ t5 = .int .u32 (dcs r b.toNat k : Nat)) (fun _ t7 => 8 - (intOf t7).toNat)
      case atStart => exact ⟨0, rfl, by omega, rfl⟩
      case round =>
        obtain ⟨k, rfl, hk, rfl⟩ := hrel
        by_cases hk8 : k < 8
        · have x2 : (k : Int) < 8 := by omega
          obtain ⟨s, hs⟩ : ∃ s, s = dcs r b.toNat k := ⟨_, rfl⟩
          have hs32 : s < 4294967296 := by rw [hs]; exact dcs_lt hr32 k
          obtain ⟨c0, hc0⟩ : ∃ c0, c0 = b.toNat / 2 ^ k := ⟨_, rfl⟩
          have e1 : (b.toNat : Int) / 2 ^ k = (c0 : Int) := by rw [hc0]; simp
          obtain ⟨d, hd⟩ : ∃ d, d = c0 % 2 := ⟨_, rfl⟩
          have e2 : (c0 : Int) % 2 = (d : Int) := by omega
          obtain ⟨f, hf⟩ : ∃ f, f = s % 2 := ⟨_, rfl⟩
          have e3 : (s : Int) % 2 = (f : Int) := by omega
          obtain ⟨q, hq⟩ : ∃ q, q = s / 2 := ⟨_, rfl⟩
          have e4 : (s : Int) / 2 = (q : Int) := by omega
          have e5 : bits .xor .u32 (q : Int) 2197175160 = ((q ^^^ 2197175160 : Nat) : Int) := u32_xor_nat q 2197175160 (by omega) (by decide)
          have N := Lib.hid (show dcs r b.toNat (k + 1) = if f ≠ d then q ^^^ 2197175160 else q by rw [dcs, ← hs, dcN, ← hc0, ← hd, ← hf, ← hq])
          rw [← hs]
          by_cases hfd : f = d
          · have x3 : ((f : Int) != (d : Int)) = false := by rw [hfd]; simp
            rw [if_neg (by simpa using hfd)] at N
            clear hs hc0 hd hf hq hfd e5
            go_wp2
            go_round
            case rel => exact ⟨k + 1, by go_num, by omega, by rw [N.out]⟩
            case measure => simp [intOf]; omega
          · have x3 : ((f : Int) != (d : Int)) = true := by rw [bne_iff_ne]; omega
            rw [if_pos hfd] at N
            clear hs hc0 hd hf hq hfd
            go_wp2
            go_round
            case rel => exact ⟨k + 1, by go_num, by omega, by rw [N.out]⟩
            case measure => simp [intOf]; omega
        · obtain rfl : k = 8 := by omega
          go_wp2
          go_round
          case rel => exact ⟨i + 1, _, by go_num, rfl, by omega, St.out.symm⟩
          case measure => simp [intOf]; omega
    · have x1 : ¬ (i : Int) < (p.length : Int) := by omega
      have R := Lib.hid (show sumN p = 4294967295 - r by rw [Hr.out, List.take_of_length_le (by omega)]; rfl)
      go_wp2
      go_ret
      exact ⟨retu (by rw [R.out]; omega), rfl⟩

theorem rof_any (v : Value) (p : List UInt8) (w : World) (h : Rd w v p) (hp : p.length ≤ 1099511627776) :
    Calls Try.prog 64 #[v] w fun e w' => e = .returned (.int .u32 (sumN p)) ∧ w = w' := by
  have H := Lib.hid h
  obtain ⟨a, c, rfl, _⟩ := h
  go_enter Try.func64, Try.ntmps64
  go_wp2_with fail
  refine (more_any _ p w H.out hp).mono ?_
  rintro e w1 ⟨rfl, rfl⟩
  go_wp2
  go_ret
  exact ⟨rfl, rfl⟩

end Go.Proofs.Ytfhdblbiamdplaa
