/-
  Reader, Read2, Ref in one text.
-/
import Derived.Test.YtjdbmlifekghfaaEt0
import Derived.Laws.BitsAllLaws
import Derived.Lib.ConvBytes
set_option linter.unusedVariables false
set_option maxHeartbeats 16000000
set_option maxRecDepth 100000
namespace Go.Proofs.Ytjdbmlifekghfaa
open Go.RowKit
theorem or_sh (n d s : Nat) (hn : n < 2 ^ s) (hs : s <= 63) (hx : d * 2 ^ s < 18446744073709551616) : bits .or .u64 (n : Int) ((d : Int) * ((2 ^ s : Nat) : Int)) = ((n + d * 2 ^ s : Nat) : Int) := by
 have e : (d : Int) * ((2 ^ s : Nat) : Int) = ((d * 2 ^ s : Nat) : Int) := by simp
 have hp : (2 : Nat) ^ s <= 2 ^ 63 := Nat.pow_le_pow_right (by decide) hs
 rw [e, u64_or_nat n (d * 2 ^ s) (by omega) hx, Nat.or_comm, Nat.mul_comm d, <- Nat.two_pow_add_eq_or_of_lt hn d, Nat.add_comm]
theorem pow128 (i : Nat) : 128 ^ i = 2 ^ (7 * i) := by rw [Nat.pow_mul]
theorem or_shw (n d i : Nat) (hn : n < 128 ^ i) (hd : d < 128) (hi : i <= 8) : bits .or .u64 (n : Int) (IntKind.u64.wrap ((d : Int) * 2 ^ (7 * i))) = ((n + d * 128 ^ i : Nat) : Int) := by
 have hp : (2 : Nat) ^ (7 * i) <= 2 ^ 56 := Nat.pow_le_pow_right (by decide) (by omega)
 have hm : d * 2 ^ (7 * i) <= 127 * 2 ^ 56 := Nat.mul_le_mul (by omega) hp
 have e : (d : Int) * 2 ^ (7 * i) = (d : Int) * ((2 ^ (7 * i) : Nat) : Int) := by simp
 have e2 : IntKind.u64.wrap ((d : Int) * ((2 ^ (7 * i) : Nat) : Int)) = (d : Int) * ((2 ^ (7 * i) : Nat) : Int) := by
  rw [IntKind.wrap_u64, <- Int.natCast_mul]
  omega
 rw [e, e2, pow128]
 exact or_sh n d (7 * i) (by rw [<- pow128]; exact hn) (by omega) (by omega)
theorem ret3 {a b c a' b' c' : Int} (h1 : a = a') (h2 : b = b') (h3 : c = c') : Ending.returned (.tuple #[.int .u64 a, .int .i64 b, .int .i64 c]) = .returned (.tuple #[.int .u64 a', .int .i64 b', .int .i64 c']) := by rw [h1, h2, h3]
theorem last_bad (n : Int) (i d : Nat) (w : World) (hi : i <= 9) (hd : d < 128) (hb : (i = 9 /\ 1 < d) ∨ (0 < i /\ d = 0)) :
  Calls Try.prog 96 #[.int .u64 n, .int .i64 i, .int .u8 d] w fun e w' => e = .returned (.tuple #[.int .u64 0, .int .i64 0, .int .i64 2]) /\ w = w' := by
 by_cases h1 : 0 < i /\ d = 0
 ·obtain ⟨h1, rfl⟩ := h1
  have x1 : (0 : Int) < (i : Int) := by omega
  by_cases h9 : i = 9
  ·subst h9
   go_enter Try.func96, Try.ntmps96
   go_wp2
   go_ret3
   exact ⟨rfl, rfl⟩
  have x2 : ((i : Int) == 9) = false := by simp; omega
  go_enter Try.func96, Try.ntmps96
  go_wp2
  go_ret3
  exact ⟨rfl, rfl⟩
 ·obtain ⟨rfl, h2⟩ : i = 9 /\ 1 < d := by rcases hb with h | h; exact h; exact absurd h h1
  have x1 : ((d : Int) == 0) = false := by simp; omega
  have x2 : (1 : Int) < (d : Int) := by omega
  clear h1 hb
  go_enter Try.func96, Try.ntmps96
  go_wp2
  go_ret3
  exact ⟨rfl, rfl⟩
theorem last_good (n i d : Nat) (w : World) (hi : i <= 9) (hd : d < 128) (hb : ¬ ((i = 9 /\ 1 < d) ∨ (0 < i /\ d = 0))) (hn : n < 128 ^ i) :
  Calls Try.prog 96 #[.int .u64 n, .int .i64 i, .int .u8 d] w fun e w' => e = .returned (.tuple #[.int .u64 ((n + d * 128 ^ i : Nat) : Int), .int .i64 ((i + 1 : Nat) : Int), .int .i64 0]) /\ w = w' := by
 by_cases h0 : 0 < i
 ·have x1 : (0 : Int) < (i : Int) := by omega
  have x2 : ((d : Int) == 0) = false := by simp; omega
  by_cases h9 : i = 9
  ·subst h9
   have x3 : ¬ (1 : Int) < (d : Int) := by omega
   go_enter Try.func96, Try.ntmps96
   go_wp2
   go_ret3
   exact ⟨ret3 (or_sh n d 63 (by simpa using hn) (by decide) (by omega)) rfl rfl, rfl⟩
  have x3 : ((i : Int) == 9) = false := by simp; omega
  go_enter Try.func96, Try.ntmps96
  go_wp2
  go_ret3
  exact ⟨ret3 (or_shw n d i hn hd (by omega)) (by omega) rfl, rfl⟩
 ·obtain rfl : i = 0 := by omega
  go_enter Try.func96, Try.ntmps96
  go_wp2
  go_ret3
  refine ⟨ret3 ?_ rfl rfl, rfl⟩
  have h := or_sh n d 0 (by simpa using hn) (by decide) (by omega)
  simpa using h
def FirstRel (l : List UInt8) (k : Nat) (t : Value) : Prop :=
 (k <= 9 /\ ∃ n : Nat, t = .int .u64 n /\ n < 128 ^ k /\ k <= l.length /\ rdN l = rn k n (l.drop k)) ∨ (k = 10 /\ 10 <= l.length /\ rdN l = (0, 0, 2) /\ ∃ x, t = .int .u64 x)
theorem rn_lt {n d k : Nat} (hn : n < 128 ^ k) (hd : d < 128) : n + d * 128 ^ k < 128 ^ (k + 1) := by
 have : (d + 1) * 128 ^ k <= 128 * 128 ^ k := Nat.mul_le_mul_right _ (by omega)
 rw [Nat.pow_succ, Nat.mul_comm (128 ^ k)]
 rw [Nat.add_mul, Nat.one_mul] at this
 omega
theorem first_some (b o c : Nat) (l : List UInt8) (w : World) (hne : 0 < l.length) (hc : l.length <= c) (hcell : ∀ i, i < l.length -> w.cell? ⟨b, o + i, none⟩ = some (.int .u8 (l.getD i 0).toNat)) (hl : l.length <= 1099511627796) :
  Calls Try.prog 93 #[.slice (some ⟨b, o, none⟩) l.length c] w fun e w' => e = .returned (.tuple #[.int .u64 ((rdN l).1 : Int), .int .i64 ((rdN l).2.1 : Int), .int .i64 (rdN l).2.2]) /\ w = w' := by
 have Hc := iH hcell; clear hcell
 by_cases h10 : (10 : Int) < (l.length : Int)
 ·go_enter Try.func93, Try.ntmps93
  go_wp2
  go_loop [2, 13] (fun t i => ∃ k : Nat, i = .int .i64 k /\ FirstRel l k t) (fun _ i => 11 - (intOf i).toNat)
  case atStart => exact ⟨0, rfl, .inl ⟨by omega, 0, rfl, by decide, by omega, rfl⟩⟩
  case round =>
  obtain ⟨k, rfl, ⟨h9, n, rfl, hn, hkl, hrd⟩ | ⟨rfl, hten, hrd, x, rfl⟩⟩ := hrel
  ·by_cases hlt : k < l.length
   ·obtain ⟨d, hd⟩ : ∃ d, d = (l.getD k 0).toNat := ⟨_, rfl⟩
    have c1 := Hc.out k hlt
    rw [<- hd] at c1
    have hd2 : d < 256 := by rw [hd]; exact UInt8.toNat_lt _
    rw [rn_step l k n d hlt hd] at hrd
    have x1 : (k : Int) < (l.length : Int) := by omega
    have x2 : (k : Int) < 10 := by omega
    clear hd
    by_cases hd3 : d < 128
    ·have x3 : (d : Int) < 128 := by omega
     by_cases hbad : (k = 9 /\ 1 < d) ∨ (0 < k /\ d = 0)
     ·rw [if_pos hbad] at hrd
      have Hb := iH hbad; have Hr := iH hrd; clear hbad hrd
      go_wp2_with (go_at_call 96; refine (last_bad n k d w (by omega) hd3 Hb.out).mono ?_; rintro e w' ⟨rfl, rfl⟩)
      go_ret3
      exact ⟨ret3 (by rw [Hr.out]; rfl) (by rw [Hr.out]; rfl) (by rw [Hr.out]), rfl⟩
     rw [if_neg hbad, if_pos hd3] at hrd
     have Hb := iH hbad; have Hr := iH hrd; clear hbad hrd
     go_wp2_with (go_at_call 96; refine (last_good n k d w (by omega) hd3 Hb.out hn).mono ?_; rintro e w' ⟨rfl, rfl⟩)
     go_ret3
     exact ⟨ret3 (by rw [Hr.out]; simp) (by rw [Hr.out]; simp) (by rw [Hr.out]), rfl⟩
    have x3 : ¬ (d : Int) < 128 := by omega
    by_cases hk9 : k = 9
    ·subst hk9
     rw [if_pos (.inl ⟨rfl, by omega⟩)] at hrd
     have Hr := iH hrd; clear hrd
     go_wp2
     go_round
     case rel => exact ⟨10, rfl, .inr ⟨rfl, by omega, Hr.out, _, rfl⟩⟩
     case measure => simp [intOf]
    rw [if_neg (by omega), if_neg hd3] at hrd
    have Hr := iH hrd; clear hrd
    have Ho := iH (or_shw n (d - 128) k hn (by omega) (by omega))
    have hs : ((d : Int) - 128) = ((d - 128 : Nat) : Int) := by omega
    go_wp2
    go_round
    case rel => exact ⟨k + 1, by go_num, .inl ⟨by omega, n + (d - 128) * 128 ^ k, by rw [Ho.out], rn_lt hn (by omega), by omega, Hr.out⟩⟩
    case measure => simp [intOf]; omega
   exfalso; omega
  have Hr := iH hrd; clear hrd
  have x4 : (10 : Int) <= (l.length : Int) := by omega
  go_wp2
  go_ret3
  exact ⟨ret3 (by rw [Hr.out]; rfl) (by rw [Hr.out]; rfl) (by rw [Hr.out]), rfl⟩
 ·go_enter Try.func93, Try.ntmps93
  go_wp2
  go_loop [2, 13] (fun t i => ∃ k : Nat, i = .int .i64 k /\ FirstRel l k t) (fun _ i => 11 - (intOf i).toNat)
  case atStart => exact ⟨0, rfl, .inl ⟨by omega, 0, rfl, by decide, by omega, rfl⟩⟩
  case round =>
  obtain ⟨k, rfl, ⟨h9, n, rfl, hn, hkl, hrd⟩ | ⟨rfl, hten, hrd, x, rfl⟩⟩ := hrel
  ·by_cases hlt : k < l.length
   ·obtain ⟨d, hd⟩ : ∃ d, d = (l.getD k 0).toNat := ⟨_, rfl⟩
    have c1 := Hc.out k hlt
    rw [<- hd] at c1
    have hd2 : d < 256 := by rw [hd]; exact UInt8.toNat_lt _
    rw [rn_step l k n d hlt hd] at hrd
    have x1 : (k : Int) < (l.length : Int) := by omega
    have x2 : (k : Int) < 10 := by omega
    clear hd
    by_cases hd3 : d < 128
    ·have x3 : (d : Int) < 128 := by omega
     by_cases hbad : (k = 9 /\ 1 < d) ∨ (0 < k /\ d = 0)
     ·rw [if_pos hbad] at hrd
      have Hb := iH hbad; have Hr := iH hrd; clear hbad hrd
      go_wp2_with (go_at_call 96; refine (last_bad n k d w (by omega) hd3 Hb.out).mono ?_; rintro e w' ⟨rfl, rfl⟩)
      go_ret3
      exact ⟨ret3 (by rw [Hr.out]; rfl) (by rw [Hr.out]; rfl) (by rw [Hr.out]), rfl⟩
     rw [if_neg hbad, if_pos hd3] at hrd
     have Hb := iH hbad; have Hr := iH hrd; clear hbad hrd
     go_wp2_with (go_at_call 96; refine (last_good n k d w (by omega) hd3 Hb.out hn).mono ?_; rintro e w' ⟨rfl, rfl⟩)
     go_ret3
     exact ⟨ret3 (by rw [Hr.out]; simp) (by rw [Hr.out]; simp) (by rw [Hr.out]), rfl⟩
    have x3 : ¬ (d : Int) < 128 := by omega
    by_cases hk9 : k = 9
    ·subst hk9
     rw [if_pos (.inl ⟨rfl, by omega⟩)] at hrd
     have Hr := iH hrd; clear hrd
     go_wp2
     go_round
     case rel => exact ⟨10, rfl, .inr ⟨rfl, by omega, Hr.out, _, rfl⟩⟩
     case measure => simp [intOf]
    rw [if_neg (by omega), if_neg hd3] at hrd
    have Hr := iH hrd; clear hrd
    have Ho := iH (or_shw n (d - 128) k hn (by omega) (by omega))
    have hs : ((d : Int) - 128) = ((d - 128 : Nat) : Int) := by omega
    go_wp2
    go_round
    case rel => exact ⟨k + 1, by go_num, .inl ⟨by omega, n + (d - 128) * 128 ^ k, by rw [Ho.out], rn_lt hn (by omega), by omega, Hr.out⟩⟩
    case measure => simp [intOf]; omega
   rw [rn_end l k n (by omega)] at hrd
   have Hr := iH hrd; clear hrd
   have x1 : ¬ (k : Int) < (l.length : Int) := by omega
   have x4 : ¬ (10 : Int) <= (l.length : Int) := by omega
   go_wp2
   go_ret3
   exact ⟨ret3 (by rw [Hr.out]; rfl) (by rw [Hr.out]; rfl) (by rw [Hr.out]), rfl⟩
  have Hr := iH hrd; clear hrd
  have x1 : ¬ (10 : Int) < (l.length : Int) := by omega
  have x4 : (10 : Int) <= (l.length : Int) := by omega
  go_wp2
  go_ret3
  exact ⟨ret3 (by rw [Hr.out]; rfl) (by rw [Hr.out]; rfl) (by rw [Hr.out]), rfl⟩
theorem first_any (v : Value) (l : List UInt8) (w : World) (h : Rd w v l) (hl : l.length <= 1099511627796) :
  Calls Try.prog 93 #[v] w fun e w' => e = .returned (.tuple #[.int .u64 ((rdN l).1 : Int), .int .i64 ((rdN l).2.1 : Int), .int .i64 (rdN l).2.2]) /\ w = w' := by
 obtain ⟨a, c, rfl, hc, ha, hcell⟩ := h
 by_cases hne : l = []
 ·subst hne
  clear hcell
  have Hr : RowKit.Hid (rdN [] = (0, 0, 3)) := iH (by rw [rdN, rn])
  cases a with
  | none =>
  obtain rfl := ha rfl
  clear ha
  go_enter Try.func93, Try.ntmps93
  go_wp2
  go_loop [13] (fun t => t = .int .i64 0) (fun _ => 0)
  case atStart => rfl
  case round =>
  subst hrel
  go_wp2
  go_ret3
  exact ⟨ret3 (by rw [Hr.out]; rfl) (by rw [Hr.out]; rfl) (by rw [Hr.out]), rfl⟩
  | some x =>
  clear ha
  go_enter Try.func93, Try.ntmps93
  go_wp2
  go_loop [13] (fun t => t = .int .i64 0) (fun _ => 0)
  case atStart => rfl
  case round =>
  subst hrel
  go_wp2
  go_ret3
  exact ⟨ret3 (by rw [Hr.out]; rfl) (by rw [Hr.out]; rfl) (by rw [Hr.out]), rfl⟩
 ·obtain ⟨b, o, rfl, hcell2⟩ := hcell hne
  exact first_some b o c l w (List.length_pos_iff.2 hne) hc hcell2 hl
def Rr (w : World) (r : Nat) (v : Value) (e : Int) (l : List UInt8) : Prop :=
 w.heap[r]? = some (.cells #[v, .int .i64 e] 126 (0, 0)) /\ Rd w v l /\ ∀ b, v.ownBlock = some b -> b ≠ r
theorem Rr.kept {w w' : World} {r : Nat} {v : Value} {e : Int} {l : List UInt8} {bs : List Nat} (h : Rr w r v e l) (hk : Kept w w' bs) (hr : r ∉ bs) (hb : ∀ b, v.ownBlock = some b -> b ∉ bs) : Rr w' r v e l :=
 ⟨hk.heap hr h.1, h.2.1.kept hk hb, h.2.2⟩
theorem Rr.cells {w : World} {r : Nat} {v : Value} {e : Int} {l : List UInt8} (h : Rr w r v e l) :
  w.cell? ⟨r, 0, none⟩ = some v /\ w.cell? ⟨r, 1, none⟩ = some (.int .i64 e) /\ w.frozen? ⟨r, 0, none⟩ = false /\ w.frozen? ⟨r, 1, none⟩ = false :=
 ⟨by simpa using cell_of_row w r 0 #[v, .int .i64 e] _ _ h.1, by simpa using cell_of_row w r 1 #[v, .int .i64 e] _ _ h.1, frozen_of_row w r 0 _ _ h.1, frozen_of_row w r 1 _ _ h.1⟩
theorem xqC (r : Nat) (v : Value) (e : Int) (l : List UInt8) (w : World) (h : Rr w r v e l) :
  Calls Try.prog 88 #[.pointer (some ⟨r, 0, none⟩)] w fun en w' => en = .returned (.int .i64 e) /\ w = w' := by
 obtain ⟨c0, c1, f0, f1⟩ := h.cells
 clear h
 go_enter Try.func88, Try.ntmps88
 go_wp2
 go_ret
 exact ⟨rfl, rfl⟩
theorem left_any (r : Nat) (v : Value) (e : Int) (l : List UInt8) (w : World) (h : Rr w r v e l) :
  Calls Try.prog 90 #[.pointer (some ⟨r, 0, none⟩)] w fun en w' => en = .returned (.int .i64 l.length) /\ w = w' := by
 obtain ⟨c0, c1, f0, f1⟩ := h.cells
 obtain ⟨a, c, rfl, _⟩ := h.2.1
 clear h
 go_enter Try.func90, Try.ntmps90
 go_wp2
 go_ret
 exact ⟨rfl, rfl⟩
theorem fail_any (r : Nat) (v : Value) (e e' : Int) (l : List UInt8) (w : World) (h : Rr w r v e l) :
  Calls Try.prog 89 #[.pointer (some ⟨r, 0, none⟩), .int .i64 e'] w fun en w' => en = .returned (.tuple #[]) /\ Rr w' r (.slice none 0 0) e' [] /\ Kept w w' [r] := by
 obtain ⟨c0, c1, f0, f1⟩ := h.cells
 have H := iH h; clear h
 go_enter Try.func89, Try.ntmps89
 go_wp2
 go_end0
 refine ⟨rfl, ⟨?_, Rd.nil _, by simp [Value.ownBlock]⟩, ((Kept.refl w [r]).setCell (.inl (by simp)) _).setCell (.inl (by simp)) _⟩
 have h1 := xqa H.out.1 0 (.slice none 0 0)
 simpa using xqa h1 1 (.int .i64 e')
theorem Rr.cut {w : World} {r : Nat} {v : Value} {e : Int} {l : List UInt8} (h : Rr w r v e l) {b o c : Nat} (hv : v = .slice (some ⟨b, o, none⟩) l.length c)
  (hcell : ∀ i, i < l.length -> w.cell? ⟨b, o + i, none⟩ = some (.int .u8 (l.getD i 0).toNat)) (s o' n' c' : Nat) (hn : n' = l.length - s) (hc : n' <= c') (ho : s < l.length -> o' = o + s) :
  Rr (w.setCell ⟨r, 0, none⟩ (.slice (some ⟨b, o', none⟩) n' c')) r (.slice (some ⟨b, o', none⟩) n' c') e (l.drop s) /\
   Kept w (w.setCell ⟨r, 0, none⟩ (.slice (some ⟨b, o', none⟩) n' c')) [r] /\ (∀ x, (Value.slice (some ⟨b, o', none⟩) n' c').ownBlock = some x -> v.ownBlock = some x) := by
 have hbr : b ≠ r := h.2.2 b (by rw [hv]; rfl)
 have hk : Kept w (w.setCell ⟨r, 0, none⟩ (.slice (some ⟨b, o', none⟩) n' c')) [r] := (Kept.refl w [r]).setCell (.inl (by simp)) _
 refine ⟨⟨by simpa using xqa h.1 0 (.slice (some ⟨b, o', none⟩) n' c'), ⟨some ⟨b, o', none⟩, c', ?_, ?_, by simp, ?_⟩, ?_⟩, hk, ?_⟩
 ·rw [List.length_drop, hn]
 ·rw [List.length_drop, <- hn]; exact hc
 ·intro hne
  have hs : s < l.length := by
   rcases Nat.lt_or_ge s l.length with h1 | h1
   ·exact h1
   exact absurd (List.drop_of_length_le h1) hne
  refine ⟨b, o', rfl, fun i hi => ?_⟩
  rw [List.length_drop] at hi
  have h1 := hk.cell (p := ⟨b, o + (s + i), none⟩) (by simpa using hbr) (hcell (s + i) (by omega))
  obtain rfl := ho hs
  rw [Nat.add_assoc, h1]
  simp [List.getD, show s + i < l.length by omega]
 ·intro x hx
  simp [Value.ownBlock] at hx
  omega
 ·intro x hx
  rw [hv]
  simpa [Value.ownBlock] using hx
theorem ret_u64 {a b : Int} (h : a = b) : Ending.returned (.int .u64 a) = .returned (.int .u64 b) := by rw [h]
theorem ret_i64 {a b : Int} (h : a = b) : Ending.returned (.int .i64 a) = .returned (.int .i64 b) := by rw [h]
theorem rnum_any (r : Nat) (v : Value) (e : Int) (l : List UInt8) (w : World) (h : Rr w r v e l) (hl : l.length <= 1099511627796) :
  Calls Try.prog 86 #[.pointer (some ⟨r, 0, none⟩)] w fun en w' => en = .returned (.int .u64 (rNum e l).1) /\ ∃ v', Rr w' r v' (rNum e l).2.2 (rNum e l).2.1 /\ Kept w w' [r] /\ (∀ b, v'.ownBlock = some b -> v.ownBlock = some b) := by
 obtain ⟨c0, c1, f0, f1⟩ := h.cells
 have H := iH h; clear h
 by_cases he : e = 0
 ·subst he
  by_cases hr : (rdN l).2.2 = 0
  ·obtain ⟨hp, hs, hx⟩ := rdN_ok l hr
   have hrn : rNum 0 l = ((rdN l).1, l.drop (rdN l).2.1, 0) := by rw [rNum, if_pos rfl, if_pos hr]
   obtain ⟨a, c, hv, hc, hna, hcell⟩ := H.out.2.1
   obtain ⟨b, o, rfl, hcell2⟩ := hcell (by rintro rfl; simp at hs; omega)
   obtain ⟨x, hX⟩ : ∃ x, x = (rdN l).1 := ⟨_, rfl⟩
   obtain ⟨s, hS⟩ : ∃ s, s = (rdN l).2.1 := ⟨_, rfl⟩
   rw [<- hS] at hp hs
   rw [<- hX] at hx
   have Hrn := iH hrn
   have Hf := iH (first_any v l w H.out.2.1 hl)
   have HX := iH hX; have HS := iH hS; have Hr := iH hr; have Hcell := iH hcell2; have Hv := iH hv
   rw [hv] at c0
   clear hrn hX hS hr hcell hcell2 hv hna
   by_cases hcs : c = s
   ·subst hcs
    go_enter Try.func86, Try.ntmps86
    go_wp2_with fail
    refine (xqC r v 0 l w H.out).mono ?_
    rintro en w1 ⟨rfl, rfl⟩
    go_wp2_with fail
    rw [<- Hv.out]
    refine Hf.out.mono ?_
    rintro en w1 ⟨rfl, rfl⟩
    rw [<- HX.out, <- HS.out, Hr.out]
    go_wp2
    go_ret
    obtain ⟨q1, q2, q3⟩ := H.out.cut Hv.out Hcell.out c o 0 0 (by omega) (by omega) (by omega)
    rw [Hrn.out]
    exact ⟨ret_u64 (by rw [HX.out]), _, by rw [<- HS.out]; exact q1, q2, q3⟩
   have hcs' : (s : Int) < (c : Int) := by omega
   go_enter Try.func86, Try.ntmps86
   go_wp2_with fail
   refine (xqC r v 0 l w H.out).mono ?_
   rintro en w1 ⟨rfl, rfl⟩
   go_wp2_with fail
   rw [<- Hv.out]
   refine Hf.out.mono ?_
   rintro en w1 ⟨rfl, rfl⟩
   rw [<- HX.out, <- HS.out, Hr.out]
   go_wp2
   go_ret
   obtain ⟨q1, q2, q3⟩ := H.out.cut Hv.out Hcell.out s (o + s) (l.length - s) (c - s) rfl (by omega) (fun _ => rfl)
   rw [Hrn.out]
   exact ⟨ret_u64 (by rw [HX.out]), _, by rw [<- HS.out]; exact q1, q2, q3⟩
  have hrn : rNum 0 l = (0, [], (rdN l).2.2) := by rw [rNum, if_pos rfl, if_neg hr]
  obtain ⟨x, hx⟩ : ∃ x, x = (rdN l).2.2 := ⟨_, rfl⟩
  have hx0 : (x != 0) = true := by rw [hx]; simpa using hr
  have Hf := iH (first_any v l w H.out.2.1 hl)
  have Hx := iH hx; have Hrn := iH hrn
  clear hrn hx hr
  go_enter Try.func86, Try.ntmps86
  go_wp2_with fail
  refine (xqC r v 0 l w H.out).mono ?_
  rintro en w1 ⟨rfl, rfl⟩
  go_wp2_with fail
  refine Hf.out.mono ?_
  rintro en w1 ⟨rfl, rfl⟩
  rw [<- Hx.out]
  go_wp2_with fail
  refine (fail_any r v 0 x l w H.out).mono ?_
  rintro en w1 ⟨rfl, q1, q2⟩
  have Q1 := iH q1; have Q2 := iH q2; clear q1 q2
  go_wp2
  go_ret
  rw [Hrn.out]
  exact ⟨rfl, _, by rw [<- Hx.out]; exact Q1.out, Q2.out, by simp [Value.ownBlock]⟩
 ·have hrn : rNum e l = (0, l, e) := by rw [rNum, if_neg he]
  have hx0 : (e != 0) = true := by simpa using he
  have Hrn := iH hrn
  clear hrn he
  go_enter Try.func86, Try.ntmps86
  go_wp2_with fail
  refine (xqC r v e l w H.out).mono ?_
  rintro en w1 ⟨rfl, rfl⟩
  go_wp2
  go_ret
  rw [Hrn.out]
  exact ⟨rfl, v, H.out, Kept.refl _ _, fun _ h => h⟩
theorem end_any (r : Nat) (v : Value) (e : Int) (l : List UInt8) (w : World) (h : Rr w r v e l) (hl : l.length <= 1099511627796) :
  Calls Try.prog 63 #[.pointer (some ⟨r, 0, none⟩)] w fun en w' => en = .returned (.int .i64 (rEnd e l)) /\ w = w' := by
 have H := iH h; clear h
 by_cases he : e = 0
 ·subst he
  by_cases hne : l = []
  ·subst hne
   go_enter Try.func63, Try.ntmps63
   go_wp2_with (first | (go_at_call 88; refine (xqC r v 0 [] w H.out).mono ?_; rintro en w1 ⟨rfl, rfl⟩) | (go_at_call 90; refine (left_any r v 0 [] w H.out).mono ?_; rintro en w1 ⟨rfl, rfl⟩))
   go_ret
   exact ⟨rfl, rfl⟩
  have hp : (0 : Int) < (l.length : Int) := by have := List.length_pos_iff.2 hne; omega
  have Hx := iH hne; clear hne
  go_enter Try.func63, Try.ntmps63
  go_wp2_with (first | (go_at_call 88; refine (xqC r v 0 l w H.out).mono ?_; rintro en w1 ⟨rfl, rfl⟩) | (go_at_call 90; refine (left_any r v 0 l w H.out).mono ?_; rintro en w1 ⟨rfl, rfl⟩))
  go_ret
  exact ⟨ret_i64 (by rw [rEnd, if_pos rfl, if_neg Hx.out]), rfl⟩
 ·have hx0 : (e != 0) = true := by simpa using he
  have He := iH he; clear he
  go_enter Try.func63, Try.ntmps63
  go_wp2_with (go_at_call 88; refine (xqC r v e l w H.out).mono ?_; rintro en w1 ⟨rfl, rfl⟩)
  go_ret
  exact ⟨ret_i64 (by rw [rEnd, if_neg He.out]), rfl⟩
theorem rd_conv (w : World) (e : TypeId) (s : ByteArray) : Rd (Lib.bytesWorld w e s) (.slice (some ⟨w.heap.size, 0, none⟩) s.size (grownCap w s.size 0 e)) s.data.toList /\ Kept w (Lib.bytesWorld w e s) [] := by
 have hsz : s.data.toList.length = s.size := by rw [Array.length_toList]; rfl
 refine ⟨⟨_, _, by rw [hsz], by rw [hsz]; exact grownCap_ge _ _ _ _, by simp, fun _ => ⟨w.heap.size, 0, rfl, fun i hi => ?_⟩⟩, ⟨?_, ?_, ?_, ?_, fun k hk _ => Lib.bytesWorld_at_old w e s k hk⟩⟩
 ·rw [Nat.zero_add]; exact Lib.bytesWorld_cell w e s i (by omega)
 ·simp [Lib.bytesWorld, World.freeze]; rfl
 ·simp [Lib.bytesWorld, World.freeze]
 ·simp [Lib.bytesWorld, World.freeze]; rfl
 rw [Lib.bytesWorld_size]; omega
theorem join_any (va vb : Value) (l m : List UInt8) (w : World) (ha : Rd w va l) (hb : Rd w vb m) (hl : l.length <= 1099511627776) (hm : m.length <= 1099511627776) :
  Calls Try.prog 22 #[va, vb] w fun e w' => ∃ v', e = .returned v' /\ Own w' w.heap.size 5 v' (l ++ m) /\ Kept w w' [] := by
 obtain ⟨i0, hi, hz0, hz1, hz2⟩ := info_parts Try.infoB
 have Ha := iH ha; have Hb := iH hb; clear ha hb
 go_enter Try.func22, Try.ntmps22
 go_wp2_with (at_builtin; refine xql _ rfl (.tmp 6) (.tmp 7) 22 22 rfl w.heap.size 5 i0 (.int .u8 0) 1 1 Try.underlying22 hi hz0 hz1 hz2 rfl (.slice none 0 0) 0 [] rfl (Own.nil w _ _) va l.length (bc l) rfl (Ha.out.src Try.underlying22) ?b1 ?b2 ?base ?next)
 case b1 => unfold maxLen; omega
 case b2 => omega
 case base => omega
 case next =>
  intro v2 w2 hown hgrow _ _
  have ho : Own w2 w.heap.size 5 v2 l := by unfold Own; simpa using hown
  have hk : Kept w w2 [] := (Kept.refl w []).grown hgrow (fun k hk => by simp [Value.ownBlock] at hk)
  have hz : w.heap.size <= w2.heap.size := hk.size
  have Ho := iH ho; have Hk := iH hk
  clear ho hk hown hgrow
  go_wp2_with (at_builtin; refine xql _ rfl (.tmp 9) (.tmp 10) 22 22 rfl w.heap.size 5 i0 (.int .u8 0) 1 1 Try.underlying22 hi hz0 hz1 hz2 rfl v2 l.length (bc l) rfl Ho.out vb m.length (bc m) rfl ((Hb.out.kept Hk.out (by simp)).src Try.underlying22) ?b1 ?b2 ?base ?next)
  case b1 => unfold maxLen; omega
  case b2 => omega
  case base => omega
  case next =>
  intro v3 w3 hown hgrow _ _
  have ho : Own w3 w.heap.size 5 v3 (l ++ m) := by unfold Own; rw [xqU, List.length_append]; exact hown
  have hk : Kept w w3 [] := Hk.out.grown hgrow (fun k hk => .inr (Ho.out.lt k hk).1)
  have Ho3 := iH ho; have Hk3 := iH hk
  clear ho hk hown hgrow
  go_wp2
  go_ret
  exact ⟨_, rfl, Ho3.out, Hk3.out⟩
theorem refnum_any (n : Nat) (w : World) (hn : n <= 18446744073709551615) :
  Calls Try.prog 67 #[.int .u64 n] w fun e w' => ∃ v', e = .returned v' /\ Own w' w.heap.size 5 v' (numL n) /\ Kept w w' [] := by
 obtain ⟨i0, hi, hz0, hz1, hz2⟩ := info_parts Try.infoB
 go_enter Try.func67, Try.ntmps67
 go_wp2
 go_loopw [0, 3] (fun t s wr => ∃ (m : Nat) (l' : List UInt8) (x : Value), t = .int .u64 m /\ s = x /\ m <= n /\ numL n = l' ++ numL m /\ l'.length + (numL m).length <= 10 /\ Own wr w.heap.size 5 x l' /\ Kept w wr []) (fun t _ _ => (intOf t).toNat)
 case atStart => exact ⟨n, [], _, rfl, rfl, by omega, rfl, by have := xqc (n := n) (by omega); simpa using this, Own.nil _ _ _, Kept.refl _ _⟩
 case round =>
  obtain ⟨m, l', x, rfl, rfl, hmn, hnum, hlen, hown, hk⟩ := hrel
  have hpos := numL_pos m
  have hbr : w.heap.size <= wr.heap.size := hk.size
  have Hnum := iH hnum; have Hown := iH hown; have Hk := iH hk
  clear hnum hown hk
  by_cases hlt : 127 < m
  ·have H2 := iH (xqX (n := m) (by omega))
   go_wp2_with (at_builtin; refine xql _ rfl (.tmp 6) (.tmp 11) 22 22 rfl w.heap.size 5 i0 (.int .u8 0) 1 1 Try.underlying22 hi hz0 hz1 hz2 rfl _ l'.length (bc l') rfl ?hown _ 1 [.int .u8 ((m : Int) % 128 + 128)] rfl (xq9 Try.underlying22 wr _ rfl _) ?b1 ?b2 ?base ?next)
   case hown => exact World.ownsRow.alloc Hown.out _
   case b1 => unfold maxLen; omega
   case b2 => omega
   case base => first | omega | (simp; omega)
   case next =>
   intro v2 w2 hown hgrow _ _
   have e1 : bc [UInt8.ofNat (m % 128 + 128)] = [Value.int .u8 ((m : Int) % 128 + 128)] := by rw [bc_nat (by omega)]; simp
   rw [<- e1] at hown
   have ho : Own w2 w.heap.size 5 v2 (l' ++ [UInt8.ofNat (m % 128 + 128)]) := by unfold Own; rw [xqU, List.length_append]; exact hown
   have hk : Kept w w2 [] := (Hk.out.alloc _).grown hgrow (fun k hk => .inr (Hown.out.lt k hk).1)
   have Ho := iH ho; have Hk2 := iH hk
   clear ho hk hown hgrow e1
   go_wp2
   go_roundw
   case rel =>
    refine ⟨m / 128, l' ++ [UInt8.ofNat (m % 128 + 128)], _, by go_num, rfl, by omega, ?_, ?_, Ho.out, Hk2.out⟩
    ·rw [Hnum.out, H2.out]; simp
    have := H2.out; rw [this] at hlen; simp at hlen ⊢; omega
   case measure => simp [intOf]; omega
  have H2 := iH (xqF (n := m) (by omega))
  have hm : ¬ (127 : Int) < (m : Int) := by omega
  go_wp2_with (at_builtin; refine xql _ rfl (.tmp 15) (.tmp 18) 22 22 rfl w.heap.size 5 i0 (.int .u8 0) 1 1 Try.underlying22 hi hz0 hz1 hz2 rfl _ l'.length (bc l') rfl ?hown _ 1 [.int .u8 (m : Int)] rfl (xq9 Try.underlying22 wr _ rfl _) ?b1 ?b2 ?base ?next)
  case hown => exact World.ownsRow.alloc Hown.out _
  case b1 => unfold maxLen; omega
  case b2 => omega
  case base => first | omega | (simp; omega)
  case next =>
  intro v2 w2 hown hgrow _ _
  have e1 : bc [UInt8.ofNat m] = [Value.int .u8 (m : Int)] := bc_nat (by omega)
  rw [<- e1] at hown
  have ho : Own w2 w.heap.size 5 v2 (numL n) := by rw [Hnum.out, H2.out]; unfold Own; rw [xqU, List.length_append]; exact hown
  have hk : Kept w w2 [] := (Hk.out.alloc _).grown hgrow (fun k hk => .inr (Hown.out.lt k hk).1)
  have Ho := iH ho; have Hk2 := iH hk
  clear ho hk hown hgrow e1
  go_wp2
  go_ret
  exact ⟨_, rfl, Ho.out, Hk2.out⟩
theorem refint_any (n : Int) (w : World) (hn : -9223372036854775808 <= n /\ n <= 9223372036854775807) :
  Calls Try.prog 42 #[.int .i64 n] w fun e w' => ∃ v', e = .returned v' /\ Own w' w.heap.size 5 v' (intL n) /\ Kept w w' [] := by
 obtain ⟨h1, h2⟩ := hn
 have hz := Lib.zigzag_lt h1 h2
 by_cases h0 : 0 <= n
 ·go_enter Try.func42, Try.ntmps42
  go_wp2_with fail
  rw [show (2 * n : Int) = ((Lib.zigzag n : Nat) : Int) from by rw [Lib.zigzag_nonneg h0]; omega]
  refine (refnum_any (Lib.zigzag n) w (by omega)).mono ?_
  rintro e w1 ⟨v1, rfl, ho, hk⟩
  have Ho := iH ho; have Hk := iH hk; clear ho hk
  go_wp2
  go_ret
  exact ⟨_, rfl, Ho.out, Hk.out⟩
 ·go_enter Try.func42, Try.ntmps42
  go_wp2_with fail
  rw [show (2 * -(n + 1) + 1 : Int) = ((Lib.zigzag n : Nat) : Int) from by unfold Lib.zigzag; rw [if_neg (by omega)]; omega]
  refine (refnum_any (Lib.zigzag n) w (by omega)).mono ?_
  rintro e w1 ⟨v1, rfl, ho, hk⟩
  have Ho := iH ho; have Hk := iH hk; clear ho hk
  go_wp2
  go_ret
  exact ⟨_, rfl, Ho.out, Hk.out⟩
theorem reftext_any (s : ByteArray) (w : World) (hs : s.size <= 1099511627776) :
  Calls Try.prog 43 #[.string s] w fun e w' => ∃ v', e = .returned v' /\ Own w' w.heap.size 5 v' (xqr s.data.toList) /\ Kept w w' [] := by
 go_enter Try.func43, Try.ntmps43
 go_wp2_with fail
 refine (refnum_any s.size w (by omega)).mono ?_
 rintro e w1 ⟨v1, rfl, ho, hk⟩
 have Ho := iH ho; have Hk := iH hk; clear ho hk
 have hcv := Lib.run_convert_string_bytes w1 9 22 5 s Try.underlying9 Try.underlying22 Try.underlying5
 obtain ⟨rdc, hkc⟩ := rd_conv w1 5 s
 obtain ⟨vc, hvc⟩ : ∃ vc, vc = Value.slice (some ⟨w1.heap.size, 0, none⟩) s.size (grownCap w1 s.size 0 5) := ⟨_, rfl⟩
 obtain ⟨wc, hwc⟩ : ∃ wc, wc = Lib.bytesWorld w1 5 s := ⟨_, rfl⟩
 rw [<- hvc, <- hwc] at hcv rdc
 rw [<- hwc] at hkc
 have Rc := iH rdc; have Kc := iH hkc
 clear rdc hkc hvc hwc
 have hlen := xqc (n := s.size) (by omega)
 go_wp2_with fail
 refine (join_any v1 vc _ _ wc ((Ho.out.rd).kept Kc.out (by simp)) Rc.out (by omega) (by rw [Array.length_toList]; exact hs)).mono ?_
 rintro e w2 ⟨v2, rfl, ho2, hk2⟩
 have hsz : s.data.toList.length = s.size := by rw [Array.length_toList]; rfl
 have Ho2 := iH (Own.mono ho2 (Nat.le_trans Hk.out.size Kc.out.size)); have Hk2 := iH ((Hk.out.trans Kc.out (by simp)).trans hk2 (by simp))
 have Hsz := iH hsz
 clear ho2 hk2 hcv hsz
 go_wp2
 go_ret
 exact ⟨_, rfl, by unfold xqr; rw [Hsz.out]; exact Ho2.out, Hk2.out⟩
end Go.Proofs.Ytjdbmlifekghfaa
