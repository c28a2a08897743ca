/-
  RefRead, RefRead2, Read3, Items, Ev0 in one text.
-/
import Derived.Test.YtjdbmlifekghfaaEt0
import Derived.Test.YtjdbmlifekghfaaEt1
import Derived.RegionTactic
import Derived.ChangeAlike
import Derived.Lib.SlBytesRow
set_option linter.unusedVariables false
set_option maxHeartbeats 16000000
set_option maxRecDepth 100000
namespace Go.Proofs.Ytjdbmlifekghfaa
open Go.RowKit
theorem acc_eq {n d s k : Nat} (hs : s = 128 ^ k) (hk : k <= 8 ∨ (k <= 9 /\ d % 128 <= 1)) (hn : n < 128 ^ k) :
  IntKind.u64.wrap ((n : Int) + IntKind.u64.wrap ((d : Int) % 128 * (s : Int))) = ((n + d % 128 * 128 ^ k : Nat) : Int) := by
 subst hs
 have e : (d : Int) % 128 * ((128 ^ k : Nat) : Int) = ((d % 128 * 128 ^ k : Nat) : Int) := by simp
 have hlt : n + d % 128 * 128 ^ k < 18446744073709551616 /\ d % 128 * 128 ^ k < 18446744073709551616 := by
  rcases hk with h | ⟨h, h1⟩
  ·have hp : (128 : Nat) ^ k <= 128 ^ 8 := Nat.pow_le_pow_right (by decide) h
   have hm : d % 128 * 128 ^ k <= 127 * 128 ^ 8 := Nat.mul_le_mul (by omega) hp
   omega
  have hp : (128 : Nat) ^ k <= 128 ^ 9 := Nat.pow_le_pow_right (by decide) h
  have hm : d % 128 * 128 ^ k <= 1 * 128 ^ 9 := Nat.mul_le_mul h1 hp
  omega
 rw [e, IntKind.wrap_u64, IntKind.wrap_u64]
 omega
theorem sc_eq {s k : Nat} (hs : s = 128 ^ k) (hk : k <= 8) : IntKind.u64.wrap ((s : Int) * 128) = ((128 ^ (k + 1) : Nat) : Int) := by
 have hp : (128 : Nat) ^ k <= 128 ^ 8 := Nat.pow_le_pow_right (by decide) hk
 rw [IntKind.wrap_u64, Nat.pow_succ, <- hs]
 rw [<- hs] at hp
 omega
theorem rd_cut {w : World} {b o : Nat} {l : List UInt8} (hcell : ∀ i, i < l.length -> w.cell? ⟨b, o + i, none⟩ = some (.int .u8 (l.getD i 0).toNat)) (s o' n' c' : Nat) (hn : n' = l.length - s) (hc : n' <= c') (ho : s < l.length -> o' = o + s) :
  Rd w (.slice (some ⟨b, o', none⟩) n' c') (l.drop s) := by
 refine ⟨some ⟨b, o', none⟩, c', ?_, ?_, by simp, ?_⟩
 ·rw [List.length_drop, hn]
 ·rw [List.length_drop, <- hn]; exact hc
 ·intro hne
  have hs : s < l.length := by
   rcases Nat.lt_or_ge s l.length with h1 | h1
   ·exact h1
   exact absurd (List.drop_of_length_le h1) hne
  refine ⟨b, o', rfl, fun i hi => ?_⟩
  rw [List.length_drop] at hi
  obtain rfl := ho hs
  rw [Nat.add_assoc, hcell (s + i) (by omega)]
  simp [List.getD, show s + i < l.length by omega]
theorem refread_some (b o c : Nat) (l : List UInt8) (w : World) (hc : l.length <= c) (hne : 0 < l.length) (hcell : ∀ i, i < l.length -> w.cell? ⟨b, o + i, none⟩ = some (.int .u8 (l.getD i 0).toNat)) (hl : l.length <= 1099511627796) :
  Calls Try.prog 66 #[.agg #[.slice (some ⟨b, o, none⟩) l.length c, .int .i64 0]] w fun en w' => ∃ v', en = .returned (.tuple #[.int .u64 (rNum 0 l).1, .agg #[v', .int .i64 (rNum 0 l).2.2]]) /\ Rd w' v' (rNum 0 l).2.1 /\ Kept w w' [] /\ (∀ x, v'.ownBlock = some x -> x = b) := by
 have Hc := iH hcell
 have hbw : b < w.heap.size := World.block_lt_of_cell? w _ (hcell 0 hne)
 have hl0 : ¬ l = [] := by rintro rfl; simp at hne
 clear hcell
 go_enter Try.func66, Try.ntmps66
 go_wp2
 go_loop [4, 5, 6] (fun t sc i => ∃ k n s : Nat, i = .int .i64 k /\ t = .int .u64 n /\ sc = .int .u64 s /\ s = 128 ^ k /\ k <= 9 /\ n < 128 ^ k /\ k <= l.length /\ rdN l = rn k n (l.drop k)) (fun _ _ i => 11 - (intOf i).toNat)
 case atStart => exact ⟨0, 0, 1, rfl, rfl, rfl, rfl, by omega, by decide, by omega, rfl⟩
 case round =>
  obtain ⟨k, n, s, rfl, rfl, rfl, hsc, h9, hn, hkl, hrd⟩ := hrel
  have hs9 : s <= 9223372036854775808 := by rw [hsc]; exact Nat.le_trans (Nat.pow_le_pow_right (by decide) h9) (by decide)
  have hns : n < s := by rw [hsc]; exact hn
  have Hsc := iH hsc
  clear hsc
  have x0 : (k : Int) < 10 := by omega
  by_cases hlt : k < l.length
  ·obtain ⟨d, hd⟩ : ∃ d, d = (l.getD k 0).toNat := ⟨_, rfl⟩
   have c1 := Hc.out k hlt
   rw [<- hd] at c1
   have hd2 : d < 256 := by rw [hd]; exact UInt8.toNat_lt _
   rw [rn_step l k n d hlt hd] at hrd
   have x1 : ¬ (l.length : Int) <= (k : Int) := by omega
   have x1' : (k : Int) < (l.length : Int) := by omega
   clear hd
   by_cases hbad : (k = 9 /\ 1 < d) ∨ (0 < k /\ d = 0)
   ·rw [if_pos hbad] at hrd
    have hr : rNum 0 l = (0, [], 2) := by rw [rNum, if_pos rfl, if_neg (by rw [hrd]; decide), hrd]
    have Hr := iH hr
    clear hrd hr
    by_cases h1 : k = 9 /\ 1 < d
    ·obtain ⟨rfl, h2⟩ := h1
     have x2 : (1 : Int) < (d : Int) := by omega
     clear hbad
     go_wp2
     refine bodyPost_ret (v := .tuple #[.int .u64 0, .agg #[.slice none 0 0, .int .i64 2]]) (by simp [results, Try.results66, go_sem]) rfl ?_
     rw [Hr.out]
     exact ⟨_, rfl, Rd.nil _, ((Kept.refl w []).alloc _).alloc _, by simp [Value.ownBlock]⟩
    obtain ⟨h2, rfl⟩ : 0 < k /\ d = 0 := by rcases hbad with h | h; exact absurd h h1; exact h
    have x2 : (0 : Int) < (k : Int) := by omega
    clear hbad h1
    by_cases h9' : k = 9
    ·subst h9'
     go_wp2
     refine bodyPost_ret (v := .tuple #[.int .u64 0, .agg #[.slice none 0 0, .int .i64 2]]) (by simp [results, Try.results66, go_sem]) rfl ?_
     rw [Hr.out]
     exact ⟨_, rfl, Rd.nil _, ((Kept.refl w []).alloc _).alloc _, by simp [Value.ownBlock]⟩
    have x3 : ((k : Int) == 9) = false := by simp; omega
    go_wp2
    refine bodyPost_ret (v := .tuple #[.int .u64 0, .agg #[.slice none 0 0, .int .i64 2]]) (by simp [results, Try.results66, go_sem]) rfl ?_
    rw [Hr.out]
    exact ⟨_, rfl, Rd.nil _, ((Kept.refl w []).alloc _).alloc _, by simp [Value.ownBlock]⟩
   rw [if_neg hbad] at hrd
   have hbad1 : k = 9 -> d <= 1 := by intro h; rcases Nat.lt_or_ge 1 d with h2 | h2; exact absurd (.inl ⟨h, h2⟩) hbad; exact h2
   have hbad2 : 0 < k -> ((d : Int) == 0) = false := by intro h; simp; intro h2; exact hbad (.inr ⟨h, h2⟩)
   by_cases hd3 : d < 128
   ·rw [if_pos hd3] at hrd
    have hr : rNum 0 l = (n + d * 128 ^ k, l.drop (k + 1), 0) := by rw [rNum, if_pos rfl, if_pos (by rw [hrd]), hrd]
    have Hr := iH hr
    have x4 : (d : Int) < 128 := by omega
    clear hrd hr hbad
    by_cases hk0 : k = 0
    ·subst hk0
     rw [Nat.add_zero] at c1
     by_cases hck : c = 1
     ·subst hck
      go_wp2
      go_region
      go_wp2
      refine bodyPost_ret (v := .tuple #[.int .u64 (IntKind.u64.wrap ((n : Int) + IntKind.u64.wrap ((d : Int) % 128 * (s : Int)))), .agg #[.slice (some ⟨b, o, none⟩) 0 0, .int .i64 0]]) (by simp [results, Try.results66, go_sem]) rfl ?_
      rw [acc_eq Hsc.out (by omega) hn, Hr.out, show d % 128 = d from by omega]
      have hk := (((Kept.refl w []).alloc (.cells #[.slice (some ⟨b, o, none⟩) l.length 1, .int .i64 0] 95)).alloc (.cells #[.slice (some ⟨b, o, none⟩) 0 0, .int .i64 0] 95)).drew
      exact ⟨_, rfl, rd_cut (fun i hi => hk.cell (p := ⟨b, o + i, none⟩) (by simp) (Hc.out i hi)) 1 _ _ _ (by omega) (by omega) (by omega), hk, by simp [Value.ownBlock]⟩
     have hck' : (1 : Int) < (c : Int) := by omega
     go_wp2
     go_region
     go_wp2
     refine bodyPost_ret (v := .tuple #[.int .u64 (IntKind.u64.wrap ((n : Int) + IntKind.u64.wrap ((d : Int) % 128 * (s : Int)))), .agg #[.slice (some ⟨b, o + 1, none⟩) (l.length - 1) (c - 1), .int .i64 0]]) (by simp [results, Try.results66, go_sem]) rfl ?_
     rw [acc_eq Hsc.out (by omega) hn, Hr.out, show d % 128 = d from by omega]
     have hk := (((Kept.refl w []).alloc (.cells #[.slice (some ⟨b, o, none⟩) l.length c, .int .i64 0] 95)).alloc (.cells #[.slice (some ⟨b, o + 1, none⟩) (l.length - 1) (c - 1), .int .i64 0] 95)).drew
     exact ⟨_, rfl, rd_cut (fun i hi => hk.cell (p := ⟨b, o + i, none⟩) (by simp) (Hc.out i hi)) 1 _ _ _ (by omega) (by omega) (by omega), hk, by simp [Value.ownBlock]⟩
    have x7 : (0 : Int) < (k : Int) := by omega
    have x6 := hbad2 (by omega)
    by_cases hk9 : k = 9
    ·subst hk9
     have x8 : ¬ (1 : Int) < (d : Int) := by have := hbad1 rfl; omega
     by_cases hck : c = 10
     ·subst hck
      go_wp2
      go_region
      go_wp2
      refine bodyPost_ret (v := .tuple #[.int .u64 (IntKind.u64.wrap ((n : Int) + IntKind.u64.wrap ((d : Int) % 128 * (s : Int)))), .agg #[.slice (some ⟨b, o, none⟩) 0 0, .int .i64 0]]) (by simp [results, Try.results66, go_sem]) rfl ?_
      rw [acc_eq Hsc.out (by omega) hn, Hr.out, show d % 128 = d from by omega]
      have hk := (((Kept.refl w []).alloc (.cells #[.slice (some ⟨b, o, none⟩) l.length 10, .int .i64 0] 95)).alloc (.cells #[.slice (some ⟨b, o, none⟩) 0 0, .int .i64 0] 95)).drew
      exact ⟨_, rfl, rd_cut (fun i hi => hk.cell (p := ⟨b, o + i, none⟩) (by simp) (Hc.out i hi)) 10 _ _ _ (by omega) (by omega) (by omega), hk, by simp [Value.ownBlock]⟩
     have hck' : (10 : Int) < (c : Int) := by omega
     go_wp2
     go_region
     go_wp2
     refine bodyPost_ret (v := .tuple #[.int .u64 (IntKind.u64.wrap ((n : Int) + IntKind.u64.wrap ((d : Int) % 128 * (s : Int)))), .agg #[.slice (some ⟨b, o + 10, none⟩) (l.length - 10) (c - 10), .int .i64 0]]) (by simp [results, Try.results66, go_sem]) rfl ?_
     rw [acc_eq Hsc.out (by omega) hn, Hr.out, show d % 128 = d from by omega]
     have hk := (((Kept.refl w []).alloc (.cells #[.slice (some ⟨b, o, none⟩) l.length c, .int .i64 0] 95)).alloc (.cells #[.slice (some ⟨b, o + 10, none⟩) (l.length - 10) (c - 10), .int .i64 0] 95)).drew
     exact ⟨_, rfl, rd_cut (fun i hi => hk.cell (p := ⟨b, o + i, none⟩) (by simp) (Hc.out i hi)) 10 _ _ _ (by omega) (by omega) (by omega), hk, by simp [Value.ownBlock]⟩
    have x5 : ((k : Int) == 9) = false := by simp; omega
    by_cases hck : c = k + 1
    ·subst hck
     go_wp2
     go_region
     go_wp2
     refine bodyPost_ret (v := .tuple #[.int .u64 (IntKind.u64.wrap ((n : Int) + IntKind.u64.wrap ((d : Int) % 128 * (s : Int)))), .agg #[.slice (some ⟨b, o, none⟩) 0 0, .int .i64 0]]) (by simp [results, Try.results66, go_sem]) rfl ?_
     rw [acc_eq Hsc.out (by omega) hn, Hr.out, show d % 128 = d from by omega]
     have hk := (((Kept.refl w []).alloc (.cells #[.slice (some ⟨b, o, none⟩) l.length (k + 1), .int .i64 0] 95)).alloc (.cells #[.slice (some ⟨b, o, none⟩) 0 0, .int .i64 0] 95)).drew
     exact ⟨_, rfl, rd_cut (fun i hi => hk.cell (p := ⟨b, o + i, none⟩) (by simp) (Hc.out i hi)) (k + 1) _ _ _ (by omega) (by omega) (by omega), hk, by simp [Value.ownBlock]⟩
    have hck' : (k : Int) + 1 < (c : Int) := by omega
    go_wp2
    go_region
    go_wp2
    refine bodyPost_ret (v := .tuple #[.int .u64 (IntKind.u64.wrap ((n : Int) + IntKind.u64.wrap ((d : Int) % 128 * (s : Int)))), .agg #[.slice (some ⟨b, o + (k + 1), none⟩) (l.length - (k + 1)) (c - (k + 1)), .int .i64 0]]) (by simp [results, Try.results66, go_sem]) rfl ?_
    rw [acc_eq Hsc.out (by omega) hn, Hr.out, show d % 128 = d from by omega]
    have hk := (((Kept.refl w []).alloc (.cells #[.slice (some ⟨b, o, none⟩) l.length c, .int .i64 0] 95)).alloc (.cells #[.slice (some ⟨b, o + (k + 1), none⟩) (l.length - (k + 1)) (c - (k + 1)), .int .i64 0] 95)).drew
    exact ⟨_, rfl, rd_cut (fun i hi => hk.cell (p := ⟨b, o + i, none⟩) (by simp) (Hc.out i hi)) (k + 1) _ _ _ (by omega) (by omega) (by omega), hk, by simp [Value.ownBlock]⟩
   rw [if_neg hd3] at hrd
   have Hr := iH hrd
   have hk9 : k ≠ 9 := by intro h; have := hbad1 h; omega
   have x4 : ¬ (d : Int) < 128 := by omega
   have x5 : ((k : Int) == 9) = false := by simp; omega
   have x6 : ((d : Int) == 0) = false := by simp; omega
   clear hrd hbad
   by_cases hk0 : k = 0
   ·subst hk0
    rw [Nat.add_zero] at c1
    go_wp2
    go_round
    case rel => exact ⟨1, n + d % 128 * 128 ^ 0, 128 ^ 1, rfl, by rw [acc_eq Hsc.out (by omega) hn], by rw [sc_eq Hsc.out (by omega)], rfl, by omega, rn_lt hn (by omega), by omega, by rw [Hr.out, show d % 128 = d - 128 from by omega]⟩
    case measure => simp [intOf]
   have x7 : (0 : Int) < (k : Int) := by omega
   go_wp2
   go_round
   case rel => exact ⟨k + 1, n + d % 128 * 128 ^ k, 128 ^ (k + 1), by go_num, by rw [acc_eq Hsc.out (by omega) hn], by rw [sc_eq Hsc.out (by omega)], rfl, by omega, rn_lt hn (by omega), by omega, by rw [Hr.out, show d % 128 = d - 128 from by omega]⟩
   case measure => simp [intOf]; omega
  have hk : k = l.length := by omega
  rw [rn_end l k n (by omega)] at hrd
  have hr : rNum 0 l = (0, [], 3) := by rw [rNum, if_pos rfl, if_neg (by rw [hrd]; decide), hrd]
  have Hr := iH hr
  clear hrd hr
  have x1 : (l.length : Int) <= (k : Int) := by omega
  go_wp2
  refine bodyPost_ret (v := .tuple #[.int .u64 0, .agg #[.slice none 0 0, .int .i64 3]]) (by simp [results, Try.results66, go_sem]) rfl ?_
  rw [Hr.out]
  exact ⟨_, rfl, Rd.nil _, ((Kept.refl w []).alloc _).alloc _, by simp [Value.ownBlock]⟩
theorem yqb (v : Value) (e : Int) (l : List UInt8) (w : World) (h : Rd w v l) (hl : l.length <= 1099511627796) :
  Calls Try.prog 66 #[.agg #[v, .int .i64 e]] w fun en w' => ∃ v', en = .returned (.tuple #[.int .u64 (rNum e l).1, .agg #[v', .int .i64 (rNum e l).2.2]]) /\ Rd w' v' (rNum e l).2.1 /\ Kept w w' [] /\ (∀ x, v'.ownBlock = some x -> v.ownBlock = some x) := by
 obtain ⟨a, c, rfl, hc, ha, hcell⟩ := id h
 by_cases he : e = 0
 ·subst he
  by_cases hne : l = []
  ·subst hne
   have hr : rNum 0 [] = (0, [], 3) := by decide
   have Hr := iH hr
   clear hr hcell ha h
   go_enter Try.func66, Try.ntmps66
   go_wp2
   go_loop [6] (fun i => i = .int .i64 0) (fun _ => 0)
   case atStart => rfl
   case round =>
   subst hrel
   go_wp2
   refine bodyPost_ret (v := .tuple #[.int .u64 0, .agg #[.slice none 0 0, .int .i64 3]]) (by simp [results, Try.results66, go_sem]) rfl ?_
   rw [Hr.out]
   exact ⟨_, rfl, Rd.nil _, ((Kept.refl w []).alloc _).alloc _, by simp [Value.ownBlock]⟩
  obtain ⟨b, o, rfl, hcell2⟩ := hcell hne
  refine (refread_some b o c l w hc (List.length_pos_iff.2 hne) hcell2 hl).mono ?_
  rintro en w' ⟨v', rfl, h1, h2, h3⟩
  exact ⟨v', rfl, h1, h2, fun x hx => by rw [h3 x hx]; rfl⟩
 ·have hr : rNum e l = (0, l, e) := by rw [rNum, if_neg he]
  have hx0 : (e != 0) = true := by simpa using he
  have Hr := iH hr
  have H := iH h
  clear hr hcell ha h he
  go_enter Try.func66, Try.ntmps66
  go_wp2
  go_region
  go_wp2
  refine bodyPost_ret (v := .tuple #[.int .u64 0, .agg #[.slice a l.length c, .int .i64 e]]) (by simp [results, Try.results66, go_sem]) rfl ?_
  rw [Hr.out]
  have hk := (((Kept.refl w []).alloc (.cells #[.slice a l.length c, .int .i64 e] 95)).alloc (.cells #[.slice a l.length c, .int .i64 e] 95)).drew
  exact ⟨_, rfl, H.out.kept hk (by simp), hk, fun x hx => hx⟩
theorem xqx (v : Value) (e : Int) (l : List UInt8) (w : World) (h : Rd w v l) :
  Calls Try.prog 38 #[.agg #[v, .int .i64 e]] w fun en w' => en = .returned (.int .i64 (rEnd e l)) /\ Kept w w' [] := by
 obtain ⟨a, c, rfl, hc, ha, hcell⟩ := h
 clear ha hcell
 by_cases he : e = 0
 ·subst he
  by_cases hne : l = []
  ·subst hne
   go_enter Try.func38, Try.ntmps38
   go_wp2
   go_ret
   exact ⟨rfl, (Kept.refl w []).alloc _⟩
  have hp : (0 : Int) < (l.length : Int) := by have := List.length_pos_iff.2 hne; omega
  have hx : rEnd 0 l = 2 := by rw [rEnd, if_pos rfl, if_neg hne]
  have Hx := iH hx
  clear hx
  go_enter Try.func38, Try.ntmps38
  go_wp2
  go_ret
  exact ⟨ret_i64 Hx.out.symm, (Kept.refl w []).alloc _⟩
 ·have hx0 : (e == 0) = false := by simpa using he
  have hx : rEnd e l = e := by rw [rEnd, if_neg he]
  have Hx := iH hx
  clear hx he
  go_enter Try.func38, Try.ntmps38
  go_wp2
  go_ret
  exact ⟨ret_i64 Hx.out.symm, (Kept.refl w []).alloc _⟩
theorem Rd.kept2 {w w' : World} {v : Value} {l : List UInt8} {bs : List Nat} (h : Rd w v l) (hk : Kept w w' bs) (hb : l ≠ [] -> ∀ b, v.ownBlock = some b -> b ∉ bs) : Rd w' v l := by
 obtain ⟨a, c, rfl, hc, ha, hl⟩ := h
 refine ⟨a, c, rfl, hc, ha, fun hne => ?_⟩
 obtain ⟨b, o, rfl, hcell⟩ := hl hne
 exact ⟨b, o, rfl, fun i hi => hk.cell (p := ⟨b, o + i, none⟩) (hb hne b rfl) (hcell i hi)⟩
theorem Rd.block_lt {w : World} {v : Value} {l : List UInt8} (h : Rd w v l) (hne : l ≠ []) : ∀ b, v.ownBlock = some b -> b < w.heap.size := by
 obtain ⟨a, c, rfl, hc, ha, hl⟩ := h
 obtain ⟨b, o, rfl, hcell⟩ := hl hne
 intro x hx
 simp [Value.ownBlock] at hx
 subst hx
 exact World.block_lt_of_cell? w _ (hcell 0 (List.length_pos_iff.2 hne))
theorem Rd.not_new {w : World} {v v' : Value} {l l' : List UInt8} (h : Rd w v l) (hlen : l'.length <= l.length) (hb : ∀ x, v'.ownBlock = some x -> v.ownBlock = some x) {k : Nat} (hk : w.heap.size <= k) : l' ≠ [] -> ∀ b, v'.ownBlock = some b -> b ∉ [k] := by
 intro hne b hb'
 have := h.block_lt (by rintro rfl; exact hne (List.eq_nil_of_length_eq_zero (by simpa using hlen))) b (hb b hb')
 simp
 omega
theorem xqw {w : World} {p : Nat} {x y : Value} {T : TypeId} (h : w.heap[p]? = some (.cells #[x, y] T (0, 0))) (u v : Value) (o : Obj) :
  (((w.setCell ⟨p, 0, none⟩ u).setCell ⟨p, 1, none⟩ v).alloc o).cell? ⟨p, 0, none⟩ = some u /\ (((w.setCell ⟨p, 0, none⟩ u).setCell ⟨p, 1, none⟩ v).alloc o).cell? ⟨p, 1, none⟩ = some v := by
 have h1 := xqa h 0 u
 have h2 := xqa h1 1 v
 have hlt : p < ((w.setCell ⟨p, 0, none⟩ u).setCell ⟨p, 1, none⟩ v).heap.size := (Array.getElem?_eq_some_iff.1 h2).1
 rw [World.cell?_alloc_past _ _ _ hlt, World.cell?_alloc_past _ _ _ hlt, cell_of_row _ _ _ _ _ _ h2, cell_of_row _ _ _ _ _ _ h2]
 exact ⟨rfl, rfl⟩
def unzig (n : Nat) : Int := if n % 2 = 1 then -((n / 2 : Nat) : Int) - 1 else ((n / 2 : Nat) : Int)
theorem refreadint_any (v : Value) (e : Int) (l : List UInt8) (w : World) (h : Rd w v l) (hl : l.length <= 1099511627796) :
  Calls Try.prog 35 #[.agg #[v, .int .i64 e]] w fun en w' => ∃ v', en = .returned (.tuple #[.int .i64 (unzig (rNum e l).1), .agg #[v', .int .i64 (rNum e l).2.2]]) /\ Rd w' v' (rNum e l).2.1 /\ Kept w w' [] /\ (∀ x, v'.ownBlock = some x -> v.ownBlock = some x) := by
 have H := iH h
 obtain ⟨a, len, c, hv⟩ := h.shape3
 clear h
 subst hv
 have hn2 := rNum_lt e l
 obtain ⟨n, hn⟩ : ∃ n, n = (rNum e l).1 := ⟨_, rfl⟩
 rw [<- hn] at hn2
 have Hn := iH hn; clear hn
 go_enter Try.func35, Try.ntmps35
 go_wp2_with fail
 refine (yqb _ e l _ (H.out.kept (((Kept.refl w []).alloc _).alloc _) (by simp)) hl).mono ?_
 rintro en w1 ⟨v1, rfl, hr1, hk1, hb1⟩
 have hB : w1.heap[w.heap.size + 1]? = some (.cells #[.slice none 0 0, .int .i64 0] 95 (0, 0)) := hk1.heap (by simp) (by
  have := heap_alloc_new (w.alloc (.cells #[.slice a len c, .int .i64 e] 95)) (.cells #[.slice none 0 0, .int .i64 0] 95)
  simpa using this)
 have hlt : w.heap.size + 1 < w1.heap.size := (Array.getElem?_eq_some_iff.1 hB).1
 have k0 : w1.cell? ⟨w.heap.size + 1, 0, none⟩ = some (.slice none 0 0) := by simpa using cell_of_row w1 (w.heap.size + 1) 0 _ _ _ hB
 have k1 : w1.cell? ⟨w.heap.size + 1, 1, none⟩ = some (.int .i64 0) := by simpa using cell_of_row w1 (w.heap.size + 1) 1 _ _ _ hB
 have f0 := frozen_of_row w1 (w.heap.size + 1) 0 _ _ hB
 have f1 := frozen_of_row w1 (w.heap.size + 1) 1 _ _ hB
 obtain ⟨a1, n1, c1, hv1⟩ := hr1.shape3
 obtain ⟨e1, he1⟩ : ∃ e1, e1 = (rNum e l).2.2 := ⟨_, rfl⟩
 have Hr1 := iH hr1; have Hk1 := iH (((((Kept.refl w []).alloc _).alloc _)).trans hk1 (by simp)); have Hb1 := iH hb1
 rw [<- Hn.out, <- he1]
 have He := iH he1
 clear hr1 hk1 hb1 he1
 subst hv1
 obtain ⟨q0, q1⟩ := xqw hB (.slice a1 n1 c1) (.int .i64 e1) (.cells #[.slice a1 n1 c1, .int .i64 e1] 95)
 clear hB
 by_cases ho : n % 2 = 1
 ·have x1 : ((n : Int) % 2 == 1) = true := by simp; omega
  have Hu : RowKit.Hid (unzig n = -((n / 2 : Nat) : Int) - 1) := iH (by rw [unzig, if_pos ho])
  clear ho
  go_wp2
  go_region
  go_wp2
  refine bodyPost_ret (v := .tuple #[.int .i64 (-(n / 2 : Int) - 1), .agg #[.slice a1 n1 c1, .int .i64 e1]]) (by simp [results, Try.results35, go_sem, q0, q1]) rfl ?_
  have hk3 : ∀ o : Obj, Kept w1 (((w1.setCell ⟨w.heap.size + 1, 0, none⟩ (.slice a1 n1 c1)).setCell ⟨w.heap.size + 1, 1, none⟩ (.int .i64 e1)).alloc o).drew [w.heap.size + 1] := fun o =>
   ((((Kept.refl w1 _).setCell (.inl (by simp)) _).setCell (.inl (by simp)) _).alloc o).drew
  rw [<- Hn.out, <- He.out, Hu.out]
  exact ⟨_, rfl, Hr1.out.kept2 (hk3 _) (H.out.not_new (xqt e l) Hb1.out (by omega)), Hk1.out.trans (hk3 _) (by simp), Hb1.out⟩
 ·have x1 : ((n : Int) % 2 == 1) = false := by simp; omega
  have Hu : RowKit.Hid (unzig n = ((n / 2 : Nat) : Int)) := iH (by rw [unzig, if_neg ho])
  clear ho
  go_wp2
  go_region
  go_wp2
  refine bodyPost_ret (v := .tuple #[.int .i64 ((n / 2 : Int)), .agg #[.slice a1 n1 c1, .int .i64 e1]]) (by simp [results, Try.results35, go_sem, q0, q1]) rfl ?_
  have hk3 : ∀ o : Obj, Kept w1 (((w1.setCell ⟨w.heap.size + 1, 0, none⟩ (.slice a1 n1 c1)).setCell ⟨w.heap.size + 1, 1, none⟩ (.int .i64 e1)).alloc o).drew [w.heap.size + 1] := fun o =>
   ((((Kept.refl w1 _).setCell (.inl (by simp)) _).setCell (.inl (by simp)) _).alloc o).drew
  rw [<- Hn.out, <- He.out, Hu.out]
  exact ⟨_, rfl, Hr1.out.kept2 (hk3 _) (H.out.not_new (xqt e l) Hb1.out (by omega)), Hk1.out.trans (hk3 _) (by simp), Hb1.out⟩
theorem rint_any (r : Nat) (v : Value) (e : Int) (l : List UInt8) (w : World) (h : Rr w r v e l) (hl : l.length <= 1099511627796) :
  Calls Try.prog 59 #[.pointer (some ⟨r, 0, none⟩)] w fun en w' => en = .returned (.int .i64 (unzig (rNum e l).1)) /\ ∃ v', Rr w' r v' (rNum e l).2.2 (rNum e l).2.1 /\ Kept w w' [r] /\ (∀ b, v'.ownBlock = some b -> v.ownBlock = some b) := by
 have H := iH h; clear h
 have hn2 := rNum_lt e l
 obtain ⟨n, hn⟩ : ∃ n, n = (rNum e l).1 := ⟨_, rfl⟩
 rw [<- hn] at hn2
 have Hn := iH hn; clear hn
 have hx2 : bits .and .u64 (n : Int) 1 = (n : Int) % 2 := Lib.u64_and1 n (by omega) (by omega)
 go_enter Try.func59, Try.ntmps59
 go_wp2_with fail
 refine (rnum_any r v e l w H.out hl).mono ?_
 rintro en w1 ⟨rfl, hq⟩
 have Hq := iH hq; clear hq
 rw [<- Hn.out]
 by_cases ho : n % 2 = 1
 ·have x1 : ((n : Int) % 2 == 1) = true := by simp; omega
  have Hu : RowKit.Hid (unzig n = -((n / 2 : Nat) : Int) - 1) := iH (by rw [unzig, if_pos ho])
  clear ho
  go_wp2
  all_goals
  go_ret
  refine ⟨ret_i64 ?_, Hq.out⟩
  rw [<- Hn.out, Hu.out, show ((n : Int) / 2) = ((n / 2 : Nat) : Int) from by omega]
  exact Lib.i64_not (n / 2) (by omega)
 ·have x1 : ((n : Int) % 2 == 1) = false := by simp; omega
  have Hu : RowKit.Hid (unzig n = ((n / 2 : Nat) : Int)) := iH (by rw [unzig, if_neg ho])
  clear ho
  go_wp2
  go_ret
  refine ⟨ret_i64 ?_, Hq.out⟩
  rw [<- Hn.out, Hu.out]
  omega
def xqG (most : Int) (n : Nat) (l1 : List UInt8) (e1 : Int) : List UInt8 × List UInt8 × Int :=
 if e1 = 0 then (if max most 0 < (n : Int) then ([], [], 2) else if l1.length < n then ([], [], 3) else (l1.take n, l1.drop n, 0)) else ([], l1, e1)
def xqg (most e : Int) (l : List UInt8) : List UInt8 × List UInt8 × Int := xqG most (rNum e l).1 (rNum e l).2.1 (rNum e l).2.2
def strL (l : List UInt8) : ByteArray := ⟨l.toArray⟩
theorem ret_str {a b : ByteArray} (h : a = b) : Ending.returned (.string a) = .returned (.string b) := by rw [h]
theorem conv_empty (w : World) (x : Option Addr) (k : Nat) : (convert 22 9 (.slice x 0 k)).run Try.prog w = .ok (.string ⟨#[]⟩) w := by
 rw [run_convert_bytes_string w 22 9 5 x 0 k Try.underlying22 Try.underlying5 Try.underlying9]
 cases x <;> simp [Conv.bytesToString, loadCells, loadCellsFrom] <;> rfl
theorem conv_take (w : World) (b o k n : Nat) (l : List UInt8) (hn : n <= l.length) (hcell : ∀ i, i < l.length -> w.cell? ⟨b, o + i, none⟩ = some (.int .u8 (l.getD i 0).toNat)) :
  (convert 22 9 (.slice (some ⟨b, o, none⟩) n k)).run Try.prog w = .ok (.string (strL (l.take n))) w := by
 have h := run_convert_bytes_arg (P := Try.prog) w 22 5 Try.underlying22 Try.underlying5 b o n k ((l.take n).map fun x => (x.toNat : Int)) (by simp; omega) (fun i hi => by
  rw [hcell i (by omega)]
  simp [List.getD, hi, show i < l.length by omega]) 9 Try.underlying9
 rw [h]
 congr 2
 apply ByteArray.ext
 apply Array.toList_inj.1
 rw [strOfNums_data, List.map_map]
 show _ = l.take n
 conv => rhs; rw [<- List.map_id (l.take n)]
 apply List.map_congr_left
 intro x _
 simp
theorem rtext_any (r : Nat) (v : Value) (most e : Int) (l : List UInt8) (w : World) (h : Rr w r v e l) (hl : l.length <= 1099511627796) (hm : -9223372036854775808 <= most /\ most <= 9223372036854775807) :
  Calls Try.prog 61 #[.pointer (some ⟨r, 0, none⟩), .int .i64 most] w fun en w' => en = .returned (.string (strL (xqg most e l).1)) /\ ∃ v', Rr w' r v' (xqg most e l).2.2 (xqg most e l).2.1 /\ Kept w w' [r] /\ (∀ b, v'.ownBlock = some b -> v.ownBlock = some b) := by
 have H := iH h; clear h
 obtain ⟨h1, h2⟩ := hm
 have hn2 := rNum_lt e l
 have hln := xqt e l
 obtain ⟨n, hn⟩ : ∃ n, n = (rNum e l).1 := ⟨_, rfl⟩
 obtain ⟨l1, hl1⟩ : ∃ l1, l1 = (rNum e l).2.1 := ⟨_, rfl⟩
 obtain ⟨e1, he1⟩ : ∃ e1, e1 = (rNum e l).2.2 := ⟨_, rfl⟩
 have hT : xqg most e l = xqG most n l1 e1 := by rw [xqg, <- hn, <- hl1, <- he1]
 rw [<- hn] at hn2
 rw [<- hl1] at hln
 have Hn := iH hn; have Hl1 := iH hl1; have He1 := iH he1; have HT := iH hT
 clear hn hl1 he1 hT
 go_enter Try.func61, Try.ntmps61
 go_wp2_with fail
 refine (rnum_any r v e l w H.out hl).mono ?_
 rintro en w1 ⟨rfl, v1, hr1, hk1, hb1⟩
 rw [<- Hl1.out, <- He1.out] at hr1
 have Hr1 := iH hr1; have Hk1 := iH hk1; have Hb1 := iH hb1
 clear hr1 hk1 hb1
 rw [<- Hn.out]
 go_wp2_with fail
 refine (xqC r v1 e1 l1 w1 Hr1.out).mono ?_
 rintro en w2 ⟨rfl, rfl⟩
 by_cases he : e1 = 0
 ·subst he
  by_cases hmx : max most 0 < (n : Int)
  ·have HX : RowKit.Hid (xqg most e l = ([], [], 2)) := iH (by rw [HT.out, xqG, if_pos rfl, if_pos hmx])
   go_wp2_with fail
   refine (fail_any r v1 0 2 l1 w1 Hr1.out).mono ?_
   rintro en w3 ⟨rfl, q1, q2⟩
   have Q1 := iH q1; have Q2 := iH (Hk1.out.trans q2 (fun x hx => .inl hx)); clear q1 q2
   go_wp2
   go_ret
   rw [HX.out]
   exact ⟨rfl, _, Q1.out, Q2.out, by simp [Value.ownBlock]⟩
  obtain ⟨c0, c1, f0, f1⟩ := Hr1.out.cells
  by_cases hlen : l1.length < n
  ·have HX : RowKit.Hid (xqg most e l = ([], [], 3)) := iH (by rw [HT.out, xqG, if_pos rfl, if_neg hmx, if_pos hlen])
   obtain ⟨a, c, hv, _⟩ := Hr1.out.2.1
   have Hv := iH hv
   rw [hv] at c0
   have hlen2 : (l1.length : Int) < (n : Int) := by omega
   clear hv
   go_wp2_with fail
   refine (fail_any r v1 0 3 l1 w1 Hr1.out).mono ?_
   rintro en w3 ⟨rfl, q1, q2⟩
   have Q1 := iH q1; have Q2 := iH (Hk1.out.trans q2 (fun x hx => .inl hx)); clear q1 q2
   go_wp2
   go_ret
   rw [HX.out]
   exact ⟨rfl, _, Q1.out, Q2.out, by simp [Value.ownBlock]⟩
  have HX : RowKit.Hid (xqg most e l = (l1.take n, l1.drop n, 0)) := iH (by rw [HT.out, xqG, if_pos rfl, if_neg hmx, if_neg hlen])
  have hlen2 : ¬ (l1.length : Int) < (n : Int) := by omega
  obtain ⟨a, c, hv, hcc, hna, hcell⟩ := Hr1.out.2.1
  by_cases hne : l1 = []
  ·subst hne
   obtain rfl : n = 0 := by simpa using hlen
   have hcv : ∀ (x : Option Addr) (k : Nat), (convert 22 9 (.slice x 0 k)).run Try.prog w1 = .ok (.string ⟨#[]⟩) w1 := conv_empty w1
   have Hv := iH hv
   rw [hv] at c0
   clear hv hcell
   cases a with
   | none =>
   obtain rfl := hna rfl
   clear hna
   go_wp2
   go_ret
   rw [HX.out]
   have hk := (Kept.refl w1 [r]).setCell (p := ⟨r, 0, none⟩) (.inl (by simp)) (.slice none 0 0)
   exact ⟨rfl, .slice none 0 0, ⟨by simpa using xqa Hr1.out.1 0 (.slice none 0 0), Rd.nil _, by simp [Value.ownBlock]⟩, Hk1.out.trans hk (fun x hx => .inl hx), by simp [Value.ownBlock]⟩
   | some x =>
   clear hna
   go_wp2
   go_ret
   rw [HX.out]
   have hk := (Kept.refl w1 [r]).setCell (p := ⟨r, 0, none⟩) (.inl (by simp)) (.slice (some x) 0 c)
   have hb : ∀ y, (Value.slice (some x) 0 c).ownBlock = some y -> v1.ownBlock = some y := by rw [Hv.out]; exact fun y hy => hy
   exact ⟨rfl, .slice (some x) 0 c, ⟨by simpa using xqa Hr1.out.1 0 (.slice (some x) 0 c), ⟨some x, c, rfl, Nat.zero_le _, by simp, fun h => absurd rfl h⟩, fun y hy => Hr1.out.2.2 y (hb y hy)⟩, Hk1.out.trans hk (fun x hx => .inl hx), fun y hy => Hb1.out y (hb y hy)⟩
  obtain ⟨b, o, rfl, hcell2⟩ := hcell hne
  have hcv : ∀ k : Nat, (convert 22 9 (.slice (some ⟨b, o, none⟩) n k)).run Try.prog w1 = .ok (.string (strL (l1.take n))) w1 := fun k => conv_take w1 b o k n l1 (by omega) hcell2
  obtain ⟨S, hS⟩ : ∃ S, S = strL (l1.take n) := ⟨_, rfl⟩
  rw [<- hS] at hcv
  have HS := iH hS; have Hv := iH hv; have Hcell := iH hcell2
  rw [hv] at c0
  clear hv hcell hcell2 hna hS
  by_cases hcs : c = n
  ·subst hcs
   go_wp2
   go_ret
   obtain ⟨q1, q2, q3⟩ := Hr1.out.cut Hv.out Hcell.out c o 0 0 (by omega) (by omega) (by omega)
   rw [HX.out]
   exact ⟨ret_str HS.out, _, q1, Hk1.out.trans q2 (fun x hx => .inl hx), fun x hx => Hb1.out x (q3 x hx)⟩
  have hcs' : (n : Int) < (c : Int) := by omega
  go_wp2
  go_ret
  obtain ⟨q1, q2, q3⟩ := Hr1.out.cut Hv.out Hcell.out n (o + n) (l1.length - n) (c - n) rfl (by omega) (fun _ => rfl)
  rw [HX.out]
  exact ⟨ret_str HS.out, _, q1, Hk1.out.trans q2 (fun x hx => .inl hx), fun x hx => Hb1.out x (q3 x hx)⟩
 ·have x1 : (e1 != 0) = true := by simpa using he
  have HX : RowKit.Hid (xqg most e l = ([], l1, e1)) := iH (by rw [HT.out, xqG, if_neg he])
  clear he
  go_wp2
  go_ret
  rw [HX.out]
  exact ⟨rfl, v1, Hr1.out, Hk1.out, Hb1.out⟩
theorem rn_back (t : List UInt8) (n : Nat) : ∀ (i acc : Nat), n * 128 ^ i < 18446744073709551616 -> (0 < i -> 0 < n) -> i <= 9 -> rn i acc (numL n ++ t) = (acc + n * 128 ^ i, i + (numL n).length, 0) := by
 induction n using Nat.strongRecOn with
 | _ n ih =>
 intro i acc hlt hpos hi
 by_cases h : n < 128
 ·rw [xqF h, List.cons_append, rn]
  have e : (UInt8.ofNat n).toNat = n := by rw [UInt8.toNat_ofNat']; omega
  rw [e, if_neg, if_pos h]
  ·simp
  rintro (⟨h9, h1⟩ | ⟨h1, h2⟩)
  ·subst h9
   have : 2 * 128 ^ 9 <= n * 128 ^ 9 := Nat.mul_le_mul_right _ h1
   omega
  have := hpos h1; omega
 have e : (UInt8.ofNat (n % 128 + 128)).toNat = n % 128 + 128 := by rw [UInt8.toNat_ofNat']; omega
 have hi9 : i ≠ 9 := by
  rintro rfl
  have : 128 * 128 ^ 9 <= n * 128 ^ 9 := Nat.mul_le_mul_right _ (by omega)
  omega
 have hdm : n / 128 * 128 ^ (i + 1) + n % 128 * 128 ^ i = n * 128 ^ i := by
  rw [Nat.pow_succ, Nat.mul_comm (128 ^ i) 128, <- Nat.mul_assoc, <- Nat.add_mul]
  congr 1
  omega
 rw [xqX (by omega), List.cons_append, rn, e, if_neg (by omega), if_neg (by omega), ih (n / 128) (by omega) (i + 1) _ (by omega) (by intro _; omega) (by omega)]
 rw [show n % 128 + 128 - 128 = n % 128 from by omega]
 simp only [List.length_cons, Prod.mk.injEq, and_true]
 omega
theorem rNum_back (n : Nat) (t : List UInt8) (hn : n < 18446744073709551616) : rNum 0 (numL n ++ t) = (n, t, 0) := by
 have h : rdN (numL n ++ t) = (n, (numL n).length, 0) := by
  have := rn_back t n 0 0 (by simpa using hn) (by omega) (by omega)
  simpa [rdN] using this
 rw [rNum, if_pos rfl, if_pos (by rw [h]), h]
 simp
theorem unzig_zigzag (x : Int) : unzig (Lib.zigzag x) = x := by
 unfold unzig Lib.zigzag
 by_cases h : 0 <= x
 ·rw [if_pos h, if_neg (by omega)]; omega
 rw [if_neg h, if_pos (by omega)]; omega
theorem xq6 (most : Int) (s t : List UInt8) (hs : (s.length : Int) <= max most 0) (hl : s.length < 18446744073709551616) : xqg most 0 (xqr s ++ t) = (s, t, 0) := by
 have h : rNum 0 (xqr s ++ t) = (s.length, s ++ t, 0) := by
  unfold xqr
  rw [List.append_assoc]
  exact rNum_back _ _ hl
 rw [xqg, h, xqG, if_pos rfl, if_neg (by simp only; omega), if_neg (by simp)]
 simp
structure Ev where
 id : Int
 tx : Int
 ow : ByteArray
 tr : Int
 tb : Int
 kd : Int
 key : Int
 t : ByteArray
def Ev.zero : Ev := ⟨0, 0, ⟨#[]⟩, 0, 0, 0, 0, ⟨#[]⟩⟩
def Ev.cs (e : Ev) : Array Value := #[.int .i64 e.id, .int .i64 e.tx, .string e.ow, .int .i64 e.tr, .int .i64 e.tb, .int .u8 e.kd, .int .i64 e.key, .string e.t]
end Go.Proofs.Ytjdbmlifekghfaa
