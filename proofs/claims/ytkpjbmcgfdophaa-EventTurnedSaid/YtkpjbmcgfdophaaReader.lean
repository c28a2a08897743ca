/-
  The contracts of code.Reader: lastDigit, firstNumber.
-/
import Derived.Test.YtkpjbmcgfdophaaClone
import Derived.Test.YtkpjbmcgfdophaaInt
import Derived.Test.YtkpjbmcgfdophaaText
import Derived.Laws.BitsAllLaws
namespace Go.Proofs.Ytkpjbmcgfdophaa
open Go.RowKit

theorem or_sh (n d s : Nat) (hn : n < 2 ^ s) (hs : s ≤ 63) (hx : d * 2 ^ s < 18446744073709551616) : bits .or .u64 (n : Int) ((d : Int) * ((2 ^ s : Nat) : Int)) = ((n + d * 2 ^ s : Nat) : Int) := by
  have e : (d : Int) * ((2 ^ s : Nat) : Int) = ((d * 2 ^ s : Nat) : Int) := by simp
  have hp : (2 : Nat) ^ s ≤ 2 ^ 63 := Nat.pow_le_pow_right (by decide) hs
  rw [e, u64_or_nat n (d * 2 ^ s) (by omega) hx, Nat.or_comm, Nat.mul_comm d, ← Nat.two_pow_add_eq_or_of_lt hn d, Nat.add_comm]

theorem pow128 (i : Nat) : 128 ^ i = 2 ^ (7 * i) := by rw [Nat.pow_mul]

theorem or_shw (n d i : Nat) (hn : n < 128 ^ i) (hd : d < 128) (hi : i ≤ 8) : bits .or .u64 (n : Int) (IntKind.u64.wrap ((d : Int) * 2 ^ (7 * i))) = ((n + d * 128 ^ i : Nat) : Int) := by
  have hp : (2 : Nat) ^ (7 * i) ≤ 2 ^ 56 := Nat.pow_le_pow_right (by decide) (by omega)
  have hm : d * 2 ^ (7 * i) ≤ 127 * 2 ^ 56 := Nat.mul_le_mul (by omega) hp
  have e : (d : Int) * 2 ^ (7 * i) = (d : Int) * ((2 ^ (7 * i) : Nat) : Int) := by simp
  have e2 : IntKind.u64.wrap ((d : Int) * ((2 ^ (7 * i) : Nat) : Int)) = (d : Int) * ((2 ^ (7 * i) : Nat) : Int) := by
    rw [IntKind.wrap_u64, ← Int.natCast_mul]
    omega
  rw [e, e2, pow128]
  exact or_sh n d (7 * i) (by rw [← pow128]; exact hn) (by omega) (by omega)

theorem ret3 {a b c a' b' c' : Int} (h1 : a = a') (h2 : b = b') (h3 : c = c') : Ending.returned (.tuple #[.int .u64 a, .int .i64 b, .int .i64 c]) = .returned (.tuple #[.int .u64 a', .int .i64 b', .int .i64 c']) := by rw [h1, h2, h3]

set_option maxHeartbeats 400000 in
set_option maxRecDepth 100000 in
theorem last_bad (n : Int) (i d : Nat) (w : World) (hi : i ≤ 9) (hd : d < 128) (hb : (i = 9 ∧ 1 < d) ∨ (0 < i ∧ d = 0)) :
    Calls Try.prog 46 #[.int .u64 n, .int .i64 i, .int .u8 d] w fun e w' => e = .returned (.tuple #[.int .u64 0, .int .i64 0, .int .i64 2]) ∧ w = w' := by
  by_cases h1 : 0 < i ∧ d = 0
  · obtain ⟨h1, rfl⟩ := h1
    have x1 : (0 : Int) < (i : Int) := by omega
    by_cases h9 : i = 9
    · subst h9
      go_enter Try.func46, Try.ntmps46
      go_wp2
      go_ret3
      exact ⟨rfl, rfl⟩
    · have x2 : ((i : Int) == 9) = false := by simp; omega
      go_enter Try.func46, Try.ntmps46
      go_wp2
      go_ret3
      exact ⟨rfl, rfl⟩
  · obtain ⟨rfl, h2⟩ : i = 9 ∧ 1 < d := by rcases hb with h | h; exact h; exact absurd h h1
    have x1 : ((d : Int) == 0) = false := by simp; omega
    have x2 : (1 : Int) < (d : Int) := by omega
    clear h1 hb
    go_enter Try.func46, Try.ntmps46
    go_wp2
    go_ret3
    exact ⟨rfl, rfl⟩

set_option maxHeartbeats 400000 in
set_option maxRecDepth 100000 in
theorem last_good (n i d : Nat) (w : World) (hi : i ≤ 9) (hd : d < 128) (hb : ¬ ((i = 9 ∧ 1 < d) ∨ (0 < i ∧ d = 0))) (hn : n < 128 ^ i) :
    Calls Try.prog 46 #[.int .u64 n, .int .i64 i, .int .u8 d] w fun e w' => e = .returned (.tuple #[.int .u64 ((n + d * 128 ^ i : Nat) : Int), .int .i64 ((i + 1 : Nat) : Int), .int .i64 0]) ∧ w = w' := by
  by_cases h0 : 0 < i
  · have x1 : (0 : Int) < (i : Int) := by omega
    have x2 : ((d : Int) == 0) = false := by simp; omega
    by_cases h9 : i = 9
    · subst h9
      have x3 : ¬ (1 : Int) < (d : Int) := by omega
      go_enter Try.func46, Try.ntmps46
      go_wp2
      go_ret3
      exact ⟨ret3 (or_sh n d 63 (by simpa using hn) (by decide) (by omega)) rfl rfl, rfl⟩
    · have x3 : ((i : Int) == 9) = false := by simp; omega
      go_enter Try.func46, Try.ntmps46
      go_wp2
      go_ret3
      exact ⟨ret3 (or_shw n d i hn hd (by omega)) (by omega) rfl, rfl⟩
  · obtain rfl : i = 0 := by omega
    go_enter Try.func46, Try.ntmps46
    go_wp2
    go_ret3
    refine ⟨ret3 ?_ rfl rfl, rfl⟩
    have h := or_sh n d 0 (by simpa using hn) (by decide) (by omega)
    simpa using h

/-- What the loop of firstNumber knows at place k. -/
def FirstRel (l : List UInt8) (k : Nat) (t : Value) : Prop :=
  (k ≤ 9 ∧ ∃ n : Nat, t = .int .u64 n ∧ n < 128 ^ k ∧ k ≤ l.length ∧ rdN l = rn k n (l.drop k)) ∨ (k = 10 ∧ 10 ≤ l.length ∧ rdN l = (0, 0, 2) ∧ ∃ x, t = .int .u64 x)

theorem rn_lt {n d k : Nat} (hn : n < 128 ^ k) (hd : d < 128) : n + d * 128 ^ k < 128 ^ (k + 1) := by
  have : (d + 1) * 128 ^ k ≤ 128 * 128 ^ k := Nat.mul_le_mul_right _ (by omega)
  rw [Nat.pow_succ, Nat.mul_comm (128 ^ k)]
  rw [Nat.add_mul, Nat.one_mul] at this
  omega

set_option maxHeartbeats 1000000 in
set_option maxRecDepth 100000 in
theorem first_some (b o c : Nat) (l : List UInt8) (w : World) (hne : 0 < l.length) (hc : l.length ≤ c) (hcell : ∀ i, i < l.length → w.cell? ⟨b, o + i, none⟩ = some (.int .u8 (l.getD i 0).toNat)) (hl : l.length ≤ 1099511627796) :
    Calls Try.prog 44 #[.slice (some ⟨b, o, none⟩) l.length c] w fun e w' => e = .returned (.tuple #[.int .u64 ((rdN l).1 : Int), .int .i64 ((rdN l).2.1 : Int), .int .i64 (rdN l).2.2]) ∧ w = w' := by
  have Hc := Lib.hid hcell; clear hcell
  by_cases h10 : (10 : Int) < (l.length : Int)
  · go_enter Try.func44, Try.ntmps44
    go_wp2
    go_loop [2, 13] (fun t i => ∃ k : Nat, i = .int .i64 k ∧ FirstRel l k t) (fun _ i => 11 - (intOf i).toNat)
    case atStart => exact ⟨0, rfl, .inl ⟨by omega, 0, rfl, by decide, by omega, rfl⟩⟩
    case round =>
      obtain ⟨k, rfl, ⟨h9, n, rfl, hn, hkl, hrd⟩ | ⟨rfl, hten, hrd, x, rfl⟩⟩ := hrel
      · by_cases hlt : k < l.length
        · obtain ⟨d, hd⟩ : ∃ d, d = (l.getD k 0).toNat := ⟨_, rfl⟩
          have c1 := Hc.out k hlt
          rw [← hd] at c1
          have hd2 : d < 256 := by rw [hd]; exact UInt8.toNat_lt _
          rw [rn_step l k n d hlt hd] at hrd
          have x1 : (k : Int) < (l.length : Int) := by omega
          have x2 : (k : Int) < 10 := by omega
          clear hd
          by_cases hd3 : d < 128
          · have x3 : (d : Int) < 128 := by omega
            by_cases hbad : (k = 9 ∧ 1 < d) ∨ (0 < k ∧ d = 0)
            · rw [if_pos hbad] at hrd
              have Hb := Lib.hid hbad; have Hr := Lib.hid hrd; clear hbad hrd
              go_wp2_with (go_at_call 46; refine (last_bad n k d w (by omega) hd3 Hb.out).mono ?_; rintro e w' ⟨rfl, rfl⟩)
              go_ret3
              exact ⟨ret3 (by rw [Hr.out]; rfl) (by rw [Hr.out]; rfl) (by rw [Hr.out]), rfl⟩
            · rw [if_neg hbad, if_pos hd3] at hrd
              have Hb := Lib.hid hbad; have Hr := Lib.hid hrd; clear hbad hrd
              go_wp2_with (go_at_call 46; refine (last_good n k d w (by omega) hd3 Hb.out hn).mono ?_; rintro e w' ⟨rfl, rfl⟩)
              go_ret3
              exact ⟨ret3 (by rw [Hr.out]; simp) (by rw [Hr.out]; simp) (by rw [Hr.out]), rfl⟩
          · have x3 : ¬ (d : Int) < 128 := by omega
            by_cases hk9 : k = 9
            · subst hk9
              rw [if_pos (.inl ⟨rfl, by omega⟩)] at hrd
              have Hr := Lib.hid hrd; clear hrd
              go_wp2
              go_round
              case rel => exact ⟨10, rfl, .inr ⟨rfl, by omega, Hr.out, _, rfl⟩⟩
              case measure => simp [intOf]
            · rw [if_neg (by omega), if_neg hd3] at hrd
              have Hr := Lib.hid hrd; clear hrd
              have Ho := Lib.hid (or_shw n (d - 128) k hn (by omega) (by omega))
              have hs : ((d : Int) - 128) = ((d - 128 : Nat) : Int) := by omega
              go_wp2
              go_round
              case rel => exact ⟨k + 1, by go_num, .inl ⟨by omega, n + (d - 128) * 128 ^ k, by rw [Ho.out], rn_lt hn (by omega), by omega, Hr.out⟩⟩
              case measure => simp [intOf]; omega
        · exfalso; omega
      · have Hr := Lib.hid hrd; clear hrd
        have x4 : (10 : Int) ≤ (l.length : Int) := by omega
        go_wp2
        go_ret3
        exact ⟨ret3 (by rw [Hr.out]; rfl) (by rw [Hr.out]; rfl) (by rw [Hr.out]), rfl⟩
  · go_enter Try.func44, Try.ntmps44
    go_wp2
    go_loop [2, 13] (fun t i => ∃ k : Nat, i = .int .i64 k ∧ FirstRel l k t) (fun _ i => 11 - (intOf i).toNat)
    case atStart => exact ⟨0, rfl, .inl ⟨by omega, 0, rfl, by decide, by omega, rfl⟩⟩
    case round =>
      obtain ⟨k, rfl, ⟨h9, n, rfl, hn, hkl, hrd⟩ | ⟨rfl, hten, hrd, x, rfl⟩⟩ := hrel
      · by_cases hlt : k < l.length
        · obtain ⟨d, hd⟩ : ∃ d, d = (l.getD k 0).toNat := ⟨_, rfl⟩
          have c1 := Hc.out k hlt
          rw [← hd] at c1
          have hd2 : d < 256 := by rw [hd]; exact UInt8.toNat_lt _
          rw [rn_step l k n d hlt hd] at hrd
          have x1 : (k : Int) < (l.length : Int) := by omega
          have x2 : (k : Int) < 10 := by omega
          clear hd
          by_cases hd3 : d < 128
          · have x3 : (d : Int) < 128 := by omega
            by_cases hbad : (k = 9 ∧ 1 < d) ∨ (0 < k ∧ d = 0)
            · rw [if_pos hbad] at hrd
              have Hb := Lib.hid hbad; have Hr := Lib.hid hrd; clear hbad hrd
              go_wp2_with (go_at_call 46; refine (last_bad n k d w (by omega) hd3 Hb.out).mono ?_; rintro e w' ⟨rfl, rfl⟩)
              go_ret3
              exact ⟨ret3 (by rw [Hr.out]; rfl) (by rw [Hr.out]; rfl) (by rw [Hr.out]), rfl⟩
            · rw [if_neg hbad, if_pos hd3] at hrd
              have Hb := Lib.hid hbad; have Hr := Lib.hid hrd; clear hbad hrd
              go_wp2_with (go_at_call 46; refine (last_good n k d w (by omega) hd3 Hb.out hn).mono ?_; rintro e w' ⟨rfl, rfl⟩)
              go_ret3
              exact ⟨ret3 (by rw [Hr.out]; simp) (by rw [Hr.out]; simp) (by rw [Hr.out]), rfl⟩
          · have x3 : ¬ (d : Int) < 128 := by omega
            by_cases hk9 : k = 9
            · subst hk9
              rw [if_pos (.inl ⟨rfl, by omega⟩)] at hrd
              have Hr := Lib.hid hrd; clear hrd
              go_wp2
              go_round
              case rel => exact ⟨10, rfl, .inr ⟨rfl, by omega, Hr.out, _, rfl⟩⟩
              case measure => simp [intOf]
            · rw [if_neg (by omega), if_neg hd3] at hrd
              have Hr := Lib.hid hrd; clear hrd
              have Ho := Lib.hid (or_shw n (d - 128) k hn (by omega) (by omega))
              have hs : ((d : Int) - 128) = ((d - 128 : Nat) : Int) := by omega
              go_wp2
              go_round
              case rel => exact ⟨k + 1, by go_num, .inl ⟨by omega, n + (d - 128) * 128 ^ k, by rw [Ho.out], rn_lt hn (by omega), by omega, Hr.out⟩⟩
              case measure => simp [intOf]; omega
        · rw [rn_end l k n (by omega)] at hrd
          have Hr := Lib.hid hrd; clear hrd
          have x1 : ¬ (k : Int) < (l.length : Int) := by omega
          have x4 : ¬ (10 : Int) ≤ (l.length : Int) := by omega
          go_wp2
          go_ret3
          exact ⟨ret3 (by rw [Hr.out]; rfl) (by rw [Hr.out]; rfl) (by rw [Hr.out]), rfl⟩
      · have Hr := Lib.hid hrd; clear hrd
        have x1 : ¬ (10 : Int) < (l.length : Int) := by omega
        have x4 : (10 : Int) ≤ (l.length : Int) := by omega
        go_wp2
        go_ret3
        exact ⟨ret3 (by rw [Hr.out]; rfl) (by rw [Hr.out]; rfl) (by rw [Hr.out]), rfl⟩

set_option maxHeartbeats 400000 in
set_option maxRecDepth 100000 in
theorem first_any (v : Value) (l : List UInt8) (w : World) (h : Rd w v l) (hl : l.length ≤ 1099511627796) :
    Calls Try.prog 44 #[v] w fun e w' => e = .returned (.tuple #[.int .u64 ((rdN l).1 : Int), .int .i64 ((rdN l).2.1 : Int), .int .i64 (rdN l).2.2]) ∧ w = w' := by
  obtain ⟨a, c, rfl, hc, ha, hcell⟩ := h
  by_cases hne : l = []
  · subst hne
    clear hcell
    have Hr : RowKit.Hid (rdN [] = (0, 0, 3)) := Lib.hid (by rw [rdN, rn])
    cases a with
    | none =>
      obtain rfl := ha rfl
      clear ha
      go_enter Try.func44, Try.ntmps44
      go_wp2
      go_loop [13] (fun t => t = .int .i64 0) (fun _ => 0)
      case atStart => rfl
      case round =>
        subst hrel
        go_wp2
        go_ret3
        exact ⟨ret3 (by rw [Hr.out]; rfl) (by rw [Hr.out]; rfl) (by rw [Hr.out]), rfl⟩
    | some x =>
      clear ha
      go_enter Try.func44, Try.ntmps44
      go_wp2
      go_loop [13] (fun t => t = .int .i64 0) (fun _ => 0)
      case atStart => rfl
      case round =>
        subst hrel
        go_wp2
        go_ret3
        exact ⟨ret3 (by rw [Hr.out]; rfl) (by rw [Hr.out]; rfl) (by rw [Hr.out]), rfl⟩
  · obtain ⟨b, o, rfl, hcell2⟩ := hcell hne
    exact first_some b o c l w (List.length_pos_iff.2 hne) hc hcell2 hl

end Go.Proofs.Ytkpjbmcgfdophaa
