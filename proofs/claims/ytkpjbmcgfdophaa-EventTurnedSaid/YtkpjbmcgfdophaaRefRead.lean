/-
  The contracts of the document's own reader: carrierref02.ReadNum, ReadInt, ReadText.
-/
import Derived.Test.YtkpjbmcgfdophaaRef
import Derived.RegionTactic
import Derived.ChangeAlike
namespace Go.Proofs.Ytkpjbmcgfdophaa
open Go.RowKit

theorem acc_eq {n d s k : Nat} (hs : s = 128 ^ k) (hk : k ≤ 8 ∨ (k ≤ 9 ∧ d % 128 ≤ 1)) (hn : n < 128 ^ k) :
    IntKind.u64.wrap ((n : Int) + IntKind.u64.wrap ((d : Int) % 128 * (s : Int))) = ((n + d % 128 * 128 ^ k : Nat) : Int) := by
  subst hs
  have e : (d : Int) % 128 * ((128 ^ k : Nat) : Int) = ((d % 128 * 128 ^ k : Nat) : Int) := by simp
  have hlt : n + d % 128 * 128 ^ k < 18446744073709551616 ∧ d % 128 * 128 ^ k < 18446744073709551616 := by
    rcases hk with h | ⟨h, h1⟩
    · have hp : (128 : Nat) ^ k ≤ 128 ^ 8 := Nat.pow_le_pow_right (by decide) h
      have hm : d % 128 * 128 ^ k ≤ 127 * 128 ^ 8 := Nat.mul_le_mul (by omega) hp
      omega
    · have hp : (128 : Nat) ^ k ≤ 128 ^ 9 := Nat.pow_le_pow_right (by decide) h
      have hm : d % 128 * 128 ^ k ≤ 1 * 128 ^ 9 := Nat.mul_le_mul h1 hp
      omega
  rw [e, IntKind.wrap_u64, IntKind.wrap_u64]
  omega

theorem sc_eq {s k : Nat} (hs : s = 128 ^ k) (hk : k ≤ 8) : IntKind.u64.wrap ((s : Int) * 128) = ((128 ^ (k + 1) : Nat) : Int) := by
  have hp : (128 : Nat) ^ k ≤ 128 ^ 8 := Nat.pow_le_pow_right (by decide) hk
  rw [IntKind.wrap_u64, Nat.pow_succ, ← hs]
  rw [← hs] at hp
  omega

/-- Bytes, cut at s. -/
theorem rd_cut {w : World} {b o : Nat} {l : List UInt8} (hcell : ∀ i, i < l.length → w.cell? ⟨b, o + i, none⟩ = some (.int .u8 (l.getD i 0).toNat)) (s o' n' c' : Nat) (hn : n' = l.length - s) (hc : n' ≤ c') (ho : s < l.length → o' = o + s) :
    Rd w (.slice (some ⟨b, o', none⟩) n' c') (l.drop s) := by
  refine ⟨some ⟨b, o', none⟩, c', ?_, ?_, by simp, ?_⟩
  · rw [List.length_drop, hn]
  · rw [List.length_drop, ← hn]; exact hc
  · intro hne
    have hs : s < l.length := by
      rcases Nat.lt_or_ge s l.length with h1 | h1
      · exact h1
      · exact absurd (List.drop_of_length_le h1) hne
    refine ⟨b, o', rfl, fun i hi => ?_⟩
    rw [List.length_drop] at hi
    obtain rfl := ho hs
    rw [Nat.add_assoc, hcell (s + i) (by omega)]
    simp [List.getD, show s + i < l.length by omega]

set_option maxHeartbeats 2000000 in
set_option maxRecDepth 100000 in
theorem refread_some (b o c : Nat) (l : List UInt8) (w : World) (hc : l.length ≤ c) (hne : 0 < l.length) (hcell : ∀ i, i < l.length → w.cell? ⟨b, o + i, none⟩ = some (.int .u8 (l.getD i 0).toNat)) (hl : l.length ≤ 1099511627796) :
    Calls Try.prog 43 #[.agg #[.slice (some ⟨b, o, none⟩) l.length c, .int .i64 0]] w fun en w' => ∃ v', en = .returned (.tuple #[.int .u64 (rNum 0 l).1, .agg #[v', .int .i64 (rNum 0 l).2.2]]) ∧ Rd w' v' (rNum 0 l).2.1 ∧ Kept w w' [] ∧ (∀ x, v'.ownBlock = some x → x = b) := by
  have Hc := Lib.hid hcell
  have hbw : b < w.heap.size := World.block_lt_of_cell? w _ (hcell 0 hne)
  have hl0 : ¬ l = [] := by rintro rfl; simp at hne
  clear hcell
  go_enter Try.func43, Try.ntmps43
  go_wp2
  go_loop [4, 5, 6] (fun t sc i => ∃ k n s : Nat, i = .int .i64 k ∧ t = .int .u64 n ∧ sc = .int .u64 s ∧ s = 128 ^ k ∧ k ≤ 9 ∧ n < 128 ^ k ∧ k ≤ l.length ∧ rdN l = rn k n (l.drop k)) (fun _ _ i => 11 - (intOf i).toNat)
  case atStart => exact ⟨0, 0, 1, rfl, rfl, rfl, rfl, by omega, by decide, by omega, rfl⟩
  case round =>
    obtain ⟨k, n, s, rfl, rfl, rfl, hsc, h9, hn, hkl, hrd⟩ := hrel
    have hs9 : s ≤ 9223372036854775808 := by rw [hsc]; exact Nat.le_trans (Nat.pow_le_pow_right (by decide) h9) (by decide)
    have hns : n < s := by rw [hsc]; exact hn
    have Hsc := Lib.hid hsc
    clear hsc
    have x0 : (k : Int) < 10 := by omega
    by_cases hlt : k < l.length
    · obtain ⟨d, hd⟩ : ∃ d, d = (l.getD k 0).toNat := ⟨_, rfl⟩
      have c1 := Hc.out k hlt
      rw [← hd] at c1
      have hd2 : d < 256 := by rw [hd]; exact UInt8.toNat_lt _
      rw [rn_step l k n d hlt hd] at hrd
      have x1 : ¬ (l.length : Int) ≤ (k : Int) := by omega
      have x1' : (k : Int) < (l.length : Int) := by omega
      clear hd
      by_cases hbad : (k = 9 ∧ 1 < d) ∨ (0 < k ∧ d = 0)
      · rw [if_pos hbad] at hrd
        have hr : rNum 0 l = (0, [], 2) := by rw [rNum, if_pos rfl, if_neg (by rw [hrd]; decide), hrd]
        have Hr := Lib.hid hr
        clear hrd hr
        by_cases h1 : k = 9 ∧ 1 < d
        · obtain ⟨rfl, h2⟩ := h1
          have x2 : (1 : Int) < (d : Int) := by omega
          clear hbad
          go_wp2
          refine bodyPost_ret (v := .tuple #[.int .u64 0, .agg #[.slice none 0 0, .int .i64 2]]) (by simp [results, Try.results43, go_sem]) rfl ?_
          rw [Hr.out]
          exact ⟨_, rfl, Rd.nil _, ((Kept.refl w []).alloc _).alloc _, by simp [Value.ownBlock]⟩
        · obtain ⟨h2, rfl⟩ : 0 < k ∧ d = 0 := by rcases hbad with h | h; exact absurd h h1; exact h
          have x2 : (0 : Int) < (k : Int) := by omega
          clear hbad h1
          by_cases h9' : k = 9
          · subst h9'
            go_wp2
            refine bodyPost_ret (v := .tuple #[.int .u64 0, .agg #[.slice none 0 0, .int .i64 2]]) (by simp [results, Try.results43, go_sem]) rfl ?_
            rw [Hr.out]
            exact ⟨_, rfl, Rd.nil _, ((Kept.refl w []).alloc _).alloc _, by simp [Value.ownBlock]⟩
          · have x3 : ((k : Int) == 9) = false := by simp; omega
            go_wp2
            refine bodyPost_ret (v := .tuple #[.int .u64 0, .agg #[.slice none 0 0, .int .i64 2]]) (by simp [results, Try.results43, go_sem]) rfl ?_
            rw [Hr.out]
            exact ⟨_, rfl, Rd.nil _, ((Kept.refl w []).alloc _).alloc _, by simp [Value.ownBlock]⟩
      · rw [if_neg hbad] at hrd
        have hbad1 : k = 9 → d ≤ 1 := by intro h; rcases Nat.lt_or_ge 1 d with h2 | h2; exact absurd (.inl ⟨h, h2⟩) hbad; exact h2
        have hbad2 : 0 < k → ((d : Int) == 0) = false := by intro h; simp; intro h2; exact hbad (.inr ⟨h, h2⟩)
        by_cases hd3 : d < 128
        · rw [if_pos hd3] at hrd
          have hr : rNum 0 l = (n + d * 128 ^ k, l.drop (k + 1), 0) := by rw [rNum, if_pos rfl, if_pos (by rw [hrd]), hrd]
          have Hr := Lib.hid hr
          have x4 : (d : Int) < 128 := by omega
          clear hrd hr hbad
          by_cases hk0 : k = 0
          · subst hk0
            rw [Nat.add_zero] at c1
            by_cases hck : c = 1
            · subst hck
              go_wp2
              go_region
              go_wp2
              refine bodyPost_ret (v := .tuple #[.int .u64 (IntKind.u64.wrap ((n : Int) + IntKind.u64.wrap ((d : Int) % 128 * (s : Int)))), .agg #[.slice (some ⟨b, o, none⟩) 0 0, .int .i64 0]]) (by simp [results, Try.results43, go_sem]) rfl ?_
              rw [acc_eq Hsc.out (by omega) hn, Hr.out, show d % 128 = d from by omega]
              have hk := (((Kept.refl w []).alloc (.cells #[.slice (some ⟨b, o, none⟩) l.length 1, .int .i64 0] 64)).alloc (.cells #[.slice (some ⟨b, o, none⟩) 0 0, .int .i64 0] 64)).drew
              exact ⟨_, rfl, rd_cut (fun i hi => hk.cell (p := ⟨b, o + i, none⟩) (by simp) (Hc.out i hi)) 1 _ _ _ (by omega) (by omega) (by omega), hk, by simp [Value.ownBlock]⟩
            · have hck' : (1 : Int) < (c : Int) := by omega
              go_wp2
              go_region
              go_wp2
              refine bodyPost_ret (v := .tuple #[.int .u64 (IntKind.u64.wrap ((n : Int) + IntKind.u64.wrap ((d : Int) % 128 * (s : Int)))), .agg #[.slice (some ⟨b, o + 1, none⟩) (l.length - 1) (c - 1), .int .i64 0]]) (by simp [results, Try.results43, go_sem]) rfl ?_
              rw [acc_eq Hsc.out (by omega) hn, Hr.out, show d % 128 = d from by omega]
              have hk := (((Kept.refl w []).alloc (.cells #[.slice (some ⟨b, o, none⟩) l.length c, .int .i64 0] 64)).alloc (.cells #[.slice (some ⟨b, o + 1, none⟩) (l.length - 1) (c - 1), .int .i64 0] 64)).drew
              exact ⟨_, rfl, rd_cut (fun i hi => hk.cell (p := ⟨b, o + i, none⟩) (by simp) (Hc.out i hi)) 1 _ _ _ (by omega) (by omega) (by omega), hk, by simp [Value.ownBlock]⟩
          · have x7 : (0 : Int) < (k : Int) := by omega
            have x6 := hbad2 (by omega)
            by_cases hk9 : k = 9
            · subst hk9
              have x8 : ¬ (1 : Int) < (d : Int) := by have := hbad1 rfl; omega
              by_cases hck : c = 10
              · subst hck
                go_wp2
                go_region
                go_wp2
                refine bodyPost_ret (v := .tuple #[.int .u64 (IntKind.u64.wrap ((n : Int) + IntKind.u64.wrap ((d : Int) % 128 * (s : Int)))), .agg #[.slice (some ⟨b, o, none⟩) 0 0, .int .i64 0]]) (by simp [results, Try.results43, go_sem]) rfl ?_
                rw [acc_eq Hsc.out (by omega) hn, Hr.out, show d % 128 = d from by omega]
                have hk := (((Kept.refl w []).alloc (.cells #[.slice (some ⟨b, o, none⟩) l.length 10, .int .i64 0] 64)).alloc (.cells #[.slice (some ⟨b, o, none⟩) 0 0, .int .i64 0] 64)).drew
                exact ⟨_, rfl, rd_cut (fun i hi => hk.cell (p := ⟨b, o + i, none⟩) (by simp) (Hc.out i hi)) 10 _ _ _ (by omega) (by omega) (by omega), hk, by simp [Value.ownBlock]⟩
              · have hck' : (10 : Int) < (c : Int) := by omega
                go_wp2
                go_region
                go_wp2
                refine bodyPost_ret (v := .tuple #[.int .u64 (IntKind.u64.wrap ((n : Int) + IntKind.u64.wrap ((d : Int) % 128 * (s : Int)))), .agg #[.slice (some ⟨b, o + 10, none⟩) (l.length - 10) (c - 10), .int .i64 0]]) (by simp [results, Try.results43, go_sem]) rfl ?_
                rw [acc_eq Hsc.out (by omega) hn, Hr.out, show d % 128 = d from by omega]
                have hk := (((Kept.refl w []).alloc (.cells #[.slice (some ⟨b, o, none⟩) l.length c, .int .i64 0] 64)).alloc (.cells #[.slice (some ⟨b, o + 10, none⟩) (l.length - 10) (c - 10), .int .i64 0] 64)).drew
                exact ⟨_, rfl, rd_cut (fun i hi => hk.cell (p := ⟨b, o + i, none⟩) (by simp) (Hc.out i hi)) 10 _ _ _ (by omega) (by omega) (by omega), hk, by simp [Value.ownBlock]⟩
            · have x5 : ((k : Int) == 9) = false := by simp; omega
              by_cases hck : c = k + 1
              · subst hck
                go_wp2
                go_region
                go_wp2
                refine bodyPost_ret (v := .tuple #[.int .u64 (IntKind.u64.wrap ((n : Int) + IntKind.u64.wrap ((d : Int) % 128 * (s : Int)))), .agg #[.slice (some ⟨b, o, none⟩) 0 0, .int .i64 0]]) (by simp [results, Try.results43, go_sem]) rfl ?_
                rw [acc_eq Hsc.out (by omega) hn, Hr.out, show d % 128 = d from by omega]
                have hk := (((Kept.refl w []).alloc (.cells #[.slice (some ⟨b, o, none⟩) l.length (k + 1), .int .i64 0] 64)).alloc (.cells #[.slice (some ⟨b, o, none⟩) 0 0, .int .i64 0] 64)).drew
                exact ⟨_, rfl, rd_cut (fun i hi => hk.cell (p := ⟨b, o + i, none⟩) (by simp) (Hc.out i hi)) (k + 1) _ _ _ (by omega) (by omega) (by omega), hk, by simp [Value.ownBlock]⟩
              · have hck' : (k : Int) + 1 < (c : Int) := by omega
                go_wp2
                go_region
                go_wp2
                refine bodyPost_ret (v := .tuple #[.int .u64 (IntKind.u64.wrap ((n : Int) + IntKind.u64.wrap ((d : Int) % 128 * (s : Int)))), .agg #[.slice (some ⟨b, o + (k + 1), none⟩) (l.length - (k + 1)) (c - (k + 1)), .int .i64 0]]) (by simp [results, Try.results43, go_sem]) rfl ?_
                rw [acc_eq Hsc.out (by omega) hn, Hr.out, show d % 128 = d from by omega]
                have hk := (((Kept.refl w []).alloc (.cells #[.slice (some ⟨b, o, none⟩) l.length c, .int .i64 0] 64)).alloc (.cells #[.slice (some ⟨b, o + (k + 1), none⟩) (l.length - (k + 1)) (c - (k + 1)), .int .i64 0] 64)).drew
                exact ⟨_, rfl, rd_cut (fun i hi => hk.cell (p := ⟨b, o + i, none⟩) (by simp) (Hc.out i hi)) (k + 1) _ _ _ (by omega) (by omega) (by omega), hk, by simp [Value.ownBlock]⟩
        · rw [if_neg hd3] at hrd
          have Hr := Lib.hid hrd
          have hk9 : k ≠ 9 := by intro h; have := hbad1 h; omega
          have x4 : ¬ (d : Int) < 128 := by omega
          have x5 : ((k : Int) == 9) = false := by simp; omega
          have x6 : ((d : Int) == 0) = false := by simp; omega
          clear hrd hbad
          by_cases hk0 : k = 0
          · subst hk0
            rw [Nat.add_zero] at c1
            go_wp2
            go_round
            case rel => exact ⟨1, n + d % 128 * 128 ^ 0, 128 ^ 1, rfl, by rw [acc_eq Hsc.out (by omega) hn], by rw [sc_eq Hsc.out (by omega)], rfl, by omega, rn_lt hn (by omega), by omega, by rw [Hr.out, show d % 128 = d - 128 from by omega]⟩
            case measure => simp [intOf]
          · have x7 : (0 : Int) < (k : Int) := by omega
            go_wp2
            go_round
            case rel => exact ⟨k + 1, n + d % 128 * 128 ^ k, 128 ^ (k + 1), by go_num, by rw [acc_eq Hsc.out (by omega) hn], by rw [sc_eq Hsc.out (by omega)], rfl, by omega, rn_lt hn (by omega), by omega, by rw [Hr.out, show d % 128 = d - 128 from by omega]⟩
            case measure => simp [intOf]; omega
    · have hk : k = l.length := by omega
      rw [rn_end l k n (by omega)] at hrd
      have hr : rNum 0 l = (0, [], 3) := by rw [rNum, if_pos rfl, if_neg (by rw [hrd]; decide), hrd]
      have Hr := Lib.hid hr
      clear hrd hr
      have x1 : (l.length : Int) ≤ (k : Int) := by omega
      go_wp2
      refine bodyPost_ret (v := .tuple #[.int .u64 0, .agg #[.slice none 0 0, .int .i64 3]]) (by simp [results, Try.results43, go_sem]) rfl ?_
      rw [Hr.out]
      exact ⟨_, rfl, Rd.nil _, ((Kept.refl w []).alloc _).alloc _, by simp [Value.ownBlock]⟩

end Go.Proofs.Ytkpjbmcgfdophaa
