/-
  Eol in one text.
-/
import Derived.Test.YtjdbmlifekghfaaEt0
import Derived.Test.YtjdbmlifekghfaaEt28
set_option linter.unusedVariables false
set_option maxHeartbeats 16000000
set_option maxRecDepth 100000
namespace Go.Proofs.Ytjdbmlifekghfaa
open Go.RowKit
theorem rparts_any (q r c p : Nat) (k : Int) (hk : 1 <= k /\ k <= 11) (l : List UInt8) (w : World) (D0 : RowKit.Hid (Pz w q r c p #[.int .u8 k, .int .i64 0, .int .i64 0, .int .i64 0, .slice none 0 0, .slice none 0 0, .int .i64 0, .int .i64 0, .slice none 0 0, .int .i64 0, .string ⟨#[]⟩, .int .i64 0, .int .i64 0] w 0 l)) :
  Calls Try.prog 30 #[.pointer (some ⟨q, 0, none⟩), .pointer (some ⟨p, 0, none⟩)] w fun en w' => en = .returned (.tuple #[]) /\ RPost q r c p k l w w' := by
 by_cases h1 : k = 1
 ·subst h1; exact rp1 q r c p l w D0
 by_cases h8 : k = 8
 ·subst h8; exact rp8 q r c p l w D0
 by_cases h2 : k = 2
 ·subst h2; exact rp2 q r c p l w D0
 by_cases h3 : 3 <= k /\ k <= 6
 ·exact rp3 q r c p k (by omega) l w D0
 by_cases h7 : k = 7
 ·subst h7; exact rp7 q r c p l w D0
 by_cases h9 : k = 9 ∨ k = 10
 ·exact rp9 q r c p k h9 l w D0
 ·obtain rfl : k = 11 := by omega
  exact rp11 q r c p l w D0
theorem rparts_bad (q r c p : Nat) (k : Int) (hk : ¬ (1 <= k /\ k <= 11)) (l : List UInt8) (w : World) (D0 : RowKit.Hid (Pz w q r c p #[.int .u8 k, .int .i64 0, .int .i64 0, .int .i64 0, .slice none 0 0, .slice none 0 0, .int .i64 0, .int .i64 0, .slice none 0 0, .int .i64 0, .string ⟨#[]⟩, .int .i64 0, .int .i64 0] w 0 l)) :
  Calls Try.prog 30 #[.pointer (some ⟨q, 0, none⟩), .pointer (some ⟨p, 0, none⟩)] w fun en w' => en = .returned (.tuple #[]) /\ Zs w' q r c 2 l /\ Kept w w' [q] := by
 have HM := iH (zmeet_any q r c 0 2 l l w D0.out.zs (fun _ h => absurd h (by decide)))
 have n1 : (k == 1) = false := by rw [beq_eq_false_iff_ne]; omega
 have n2 : (k == 2) = false := by rw [beq_eq_false_iff_ne]; omega
 have n3 : (k == 3) = false := by rw [beq_eq_false_iff_ne]; omega
 have n4 : (k == 4) = false := by rw [beq_eq_false_iff_ne]; omega
 have n5 : (k == 5) = false := by rw [beq_eq_false_iff_ne]; omega
 have n6 : (k == 6) = false := by rw [beq_eq_false_iff_ne]; omega
 have n7 : (k == 7) = false := by rw [beq_eq_false_iff_ne]; omega
 have n8 : (k == 8) = false := by rw [beq_eq_false_iff_ne]; omega
 have n9 : (k == 9) = false := by rw [beq_eq_false_iff_ne]; omega
 have n10 : (k == 10) = false := by rw [beq_eq_false_iff_ne]; omega
 have n11 : (k == 11) = false := by rw [beq_eq_false_iff_ne]; omega
 clear hk
 obtain ⟨ck, _⟩ := D0.out.cell 0
 simp at ck
 go_enter Try.func30, Try.ntmps30
 go_wp2_with fail
 refine HM.out.mono ?_
 rintro en w2 ⟨rfl, z2, k2⟩
 have Z2 := iH (show Zs w2 q r c 2 l by simpa using z2); have K2 := iH k2
 clear z2 k2 ck
 go_wp2
 go_end0
 exact ⟨rfl, Z2.out, K2.out⟩
theorem zend_any (q r c : Nat) (e : Int) (l : List UInt8) (w : World) (h : Zs w q r c e l) :
  Calls Try.prog 31 #[.pointer (some ⟨q, 0, none⟩)] w fun en w' => en = .returned (.int .i64 (rEnd e l)) /\ Kept w w' [q] := by
 have pr := h.cell
 obtain ⟨x, e0, l0, z, s⟩ := h
 obtain ⟨v, h1, h2, h3, h4, h5, h6⟩ := _root_.id z
 obtain ⟨m, hm⟩ : ∃ m, m = rEnd e0 l0 := ⟨_, rfl⟩
 have HE : RowKit.Hid (Calls Try.prog 63 #[.pointer (some ⟨r, 0, none⟩)] w fun en w' => en = .returned (.int .i64 m) /\ w' = w) := iH (by
  rw [hm]; exact (end_any r v e0 l0 w h2 h6).mono (fun _ _ h => ⟨h.1, h.2.symm⟩))
 have HM := iH (zmeet_any q r c e m l l w ⟨x, e0, l0, z, s⟩ (fun _ _ => rfl))
 have hR : (if e = 0 then m else e) = rEnd e l := by
  by_cases he : e = 0
  ·subst he
   obtain ⟨rfl, rfl⟩ := xq7 s.1
   obtain rfl := s.2 rfl
   rw [if_pos rfl, hm]
  rw [if_neg he, rEnd, if_neg he]
 rw [hR] at HM
 obtain ⟨R, hRR⟩ : ∃ R, R = rEnd e l := ⟨_, rfl⟩
 rw [<- hRR] at HM ⊢
 clear hR hRR hm z s h1 h2 h3 h4 h5 h6
 go_enter Try.func31, Try.ntmps31
 go_wp2_with fail
 refine HE.out.mono ?_
 rintro en w1 ⟨rfl, hw⟩
 subst hw
 go_wp2_with fail
 refine HM.out.mono ?_
 rintro en w2 ⟨rfl, z2, k2⟩
 obtain ⟨x2, e2, l2, z2, s2⟩ := z2
 have hf := efirst_any q r c x2 e2 l2 w2 z2
 rw [s2.1] at hf
 have HF := iH hf; have K2 := iH k2
 clear hf k2 z2 s2 pr
 go_wp2_with fail
 refine HF.out.mono ?_
 rintro en w3 ⟨rfl, hw⟩
 subst hw
 go_wp2
 go_ret
 exact ⟨rfl, K2.out⟩
theorem Rd.sub1 {w : World} {bb bo c : Nat} {b : List UInt8} (h : Rd w (.slice (some ⟨bb, bo, none⟩) b.length c) b) (hs : 1 <= b.length) :
  Rd w (if c = 1 then .slice (some ⟨bb, bo, none⟩) (b.length - 1) 0 else .slice (some ⟨bb, bo + 1, none⟩) (b.length - 1) (c - 1)) (b.drop 1) := by
 obtain ⟨a', c', e, hc, _, hl⟩ := h
 simp only [Value.slice.injEq] at e
 obtain ⟨rfl, _, rfl⟩ := e
 by_cases h1 : c = 1
 ·rw [if_pos h1, List.drop_of_length_le (by omega), show b.length - 1 = 0 by omega]
  exact ⟨_, 0, rfl, Nat.le_refl _, by simp, fun h => absurd rfl h⟩
 ·rw [if_neg h1]
  obtain ⟨b', o', e, hc'⟩ := hl (by rintro rfl; simp at hs)
  simp only [Option.some.injEq, Addr.mk.injEq] at e
  obtain ⟨rfl, rfl, _⟩ := e
  refine ⟨_, c - 1, by rw [List.length_drop], by rw [List.length_drop]; omega, by simp, fun _ => ⟨bb, bo + 1, rfl, fun i hi => ?_⟩⟩
  rw [List.length_drop] at hi
  have := hc' (i + 1) (by omega)
  rw [show bo + 1 + i = bo + (i + 1) by omega, this]
  simp [List.getD]
theorem xqi {w : World} {g : Nat} {cs : Array Value} {T : TypeId} {fz : Nat × Nat} (us : List Value) (h : w.heap[g]? = some (.cells cs T fz)) (hl : us.length = cs.size) :
  (putAll w g 0 us).heap[g]? = some (.cells us.toArray T fz) /\ Kept w (putAll w g 0 us) [g] := by
 obtain ⟨cs', h1, h2, h3⟩ := heap_putAll us w 0 cs h (by omega)
 have e : cs' = us.toArray := by
  apply Array.toList_inj.1
  rw [h3]
  simp [hl]
 rw [e] at h1
 exact ⟨h1, putAll_kept us w 0 (Kept.refl w [g]) (.inl (by simp))⟩
def DPost (l : List UInt8) (w : World) (en : Ending) (w' : World) : Prop :=
 ∃ vo ve vi, en = .returned (.tuple #[.agg ((dEn l).cs vo ve vi), .int .i64 (dEr l)]) /\ RdN w' (dEn l) vo ve vi /\ Kept w w' [] /\ (∀ b, vo.ownBlock = some b -> w.heap.size <= b) /\ (∀ b, ve.ownBlock = some b -> w.heap.size <= b) /\ (∀ b, vi.ownBlock = some b -> w.heap.size <= b)
theorem DPost.bad {l : List UInt8} {w w' : World} {e : Int} (he : e = dEr l) (h0 : e ≠ 0) (k : Kept w w' []) : DPost l w (.returned (.tuple #[.agg #[.int .u8 0, .int .i64 0, .int .i64 0, .int .i64 0, .slice none 0 0, .slice none 0 0, .int .i64 0, .int .i64 0, .slice none 0 0, .int .i64 0, .string ⟨#[]⟩, .int .i64 0, .int .i64 0], .int .i64 e])) w' := by
 have hE : dEn l = En.zero := by
  cases l with
  | nil => rfl
  | cons b t => rw [dEn, if_neg (he ▸ h0)]
 exact ⟨.slice none 0 0, .slice none 0 0, .slice none 0 0, by rw [hE, he]; rfl, by rw [hE]; exact RdN.nil _ rfl rfl rfl, k, fun b hb => by simp [Value.ownBlock] at hb, fun b hb => by simp [Value.ownBlock] at hb, fun b hb => by simp [Value.ownBlock] at hb⟩
theorem RdN.upon {w w' : World} {E : En} {vo ve vi : Value} {g : Nat} (h : RdN w E vo ve vi) (k : Kept w w' [g]) (h1 : ∀ b, vo.ownBlock = some b -> b ≠ g) (h2 : ∀ b, ve.ownBlock = some b -> b ≠ g) (h3 : ∀ b, vi.ownBlock = some b -> b ≠ g) : RdN w' E vo ve vi :=
 ⟨h.ro.kept k (fun b hb => by simpa using h1 b hb), h.re.kept k (fun b hb => by simpa using h2 b hb), h.ri.kept k (fun b hb => by simpa using h3 b hb)⟩
theorem rall_any (q r c p : Nat) (k : Int) (l : List UInt8) (w : World) (D0 : RowKit.Hid (Pz w q r c p #[.int .u8 k, .int .i64 0, .int .i64 0, .int .i64 0, .slice none 0 0, .slice none 0 0, .int .i64 0, .int .i64 0, .slice none 0 0, .int .i64 0, .string ⟨#[]⟩, .int .i64 0, .int .i64 0] w 0 l)) :
  Calls Try.prog 30 #[.pointer (some ⟨q, 0, none⟩), .pointer (some ⟨p, 0, none⟩)] w fun en w' => en = .returned (.tuple #[]) /\
   ∃ (k1 tx nx id1 : Int) (oa : Option Addr) (on oc : Nat) (ea : Option Addr) (en1 ec : Nat) (tn tm : Int) (ia : Option Addr) (in1 ic1 : Nat) (ta : Int) (nm : ByteArray) (n1 at1 : Int) (E : En) (e : Int),
    w'.heap[p]? = some (.cells #[.int .u8 k1, .int .i64 tx, .int .i64 nx, .int .i64 id1, .slice oa on oc, .slice ea en1 ec, .int .i64 tn, .int .i64 tm, .slice ia in1 ic1, .int .i64 ta, .string nm, .int .i64 n1, .int .i64 at1] 41 (0, 0)) /\ Kept w w' [q, r, p] /\
    (Calls Try.prog 31 #[.pointer (some ⟨q, 0, none⟩)] w' fun en w2 => en = .returned (.int .i64 e) /\ Kept w' w2 [q]) /\
    e = (if 1 <= k /\ k <= 11 then rEnd (xqO k l).2.2 (xqO k l).2.1 else 2) /\
    (e = 0 -> E = (xqO k l).1 /\ #[.int .u8 k1, .int .i64 tx, .int .i64 nx, .int .i64 id1, .slice oa on oc, .slice ea en1 ec, .int .i64 tn, .int .i64 tm, .slice ia in1 ic1, .int .i64 ta, .string nm, .int .i64 n1, .int .i64 at1] = E.cs (.slice oa on oc) (.slice ea en1 ec) (.slice ia in1 ic1)) /\
    RdN w' E (.slice oa on oc) (.slice ea en1 ec) (.slice ia in1 ic1) /\ (∀ b, (Value.slice oa on oc).ownBlock = some b -> w.heap.size <= b) /\ (∀ b, (Value.slice ea en1 ec).ownBlock = some b -> w.heap.size <= b) /\ (∀ b, (Value.slice ia in1 ic1).ownBlock = some b -> w.heap.size <= b) := by
 by_cases hk : 1 <= k /\ k <= 11
 ·refine (rparts_any q r c p k hk l w D0).mono ?_
  rintro en w' ⟨rfl, E, vo, ve, vi, hp, rd, z, kk, hE, b1, b2, b3, ⟨oa, on, oc, rfl⟩, ⟨ea, en1, ec, rfl⟩, ⟨ia, in1, ic1, rfl⟩⟩
  rw [if_pos hk]
  refine ⟨rfl, E.k, E.tx, E.nx, E.id, oa, on, oc, ea, en1, ec, E.tn, E.tm, ia, in1, ic1, E.ta, E.nm, E.n, E.at', E, _, hp, kk, zend_any q r c _ _ w' z, rfl, fun h0 => ⟨hE ?_, rfl⟩, rd, b1, b2, b3⟩
  unfold rEnd at h0
  split at h0
  ·assumption
  exact absurd h0 (by assumption)
 ·refine (rparts_bad q r c p k hk l w D0).mono ?_
  rintro en w' ⟨rfl, z, kk⟩
  rw [if_neg hk]
  have hp := kk.heap (by have := D0.out.ne; simp; omega) D0.out.hp
  refine ⟨rfl, k, 0, 0, 0, none, 0, 0, none, 0, 0, 0, 0, none, 0, 0, 0, ⟨#[]⟩, 0, 0, En.zero, 2, hp, kk.mono (by simp), ?_, rfl, fun h => absurd h (by decide), RdN.nil _ rfl rfl rfl, fun b hb => by simp [Value.ownBlock] at hb, fun b hb => by simp [Value.ownBlock] at hb, fun b hb => by simp [Value.ownBlock] at hb⟩
  exact zend_any q r c 2 l w' z
theorem edecode_any (v : Value) (l : List UInt8) (w : World) (h : Rd w v l) (hl : l.length <= 1000000000) :
  Calls Try.prog 14 #[v] w fun en w' => DPost l w en w' := by
 obtain ⟨va, vc, hv, hvc, hvn, _⟩ := id h
 subst hv
 by_cases hn : l = []
 ·subst hn
  clear h hvn
  go_enter Try.func14, Try.ntmps14
  go_wp2
  refine bodyPost_ret (v := .tuple #[.agg #[.int .u8 0, .int .i64 0, .int .i64 0, .int .i64 0, .slice none 0 0, .slice none 0 0, .int .i64 0, .int .i64 0, .slice none 0 0, .int .i64 0, .string ⟨#[]⟩, .int .i64 0, .int .i64 0], .int .i64 3]) (by simp [results, Try.results14, go_sem]) rfl ?_
  exact DPost.bad rfl (by decide) ((Kept.refl w []).alloc _)
 ·have hl1 : 1 <= l.length := List.length_pos_iff.2 hn
  obtain ⟨vb, vo, rfl, hcell⟩ := (by obtain ⟨a', c', e, _, _, hx⟩ := h; simp only [Value.slice.injEq] at e; obtain ⟨rfl, _, rfl⟩ := e; exact hx hn : ∃ b o, va = some ⟨b, o, none⟩ /\ ∀ i, i < l.length -> w.cell? ⟨b, o + i, none⟩ = some (.int .u8 (l.getD i 0).toNat))
  have c0 := hcell 0 (by omega)
  rw [Nat.add_zero] at c0
  obtain ⟨k, hk⟩ : ∃ k : Int, k = ((l.getD 0 0).toNat : Int) := ⟨_, rfl⟩
  rw [<- hk] at c0
  have c0a : ∀ ob, (w.alloc ob).cell? ⟨vb, vo, none⟩ = some (.int .u8 k) := fun ob => ((Kept.refl w []).alloc ob).cell (by simp) c0
  clear c0
  obtain ⟨t, ht⟩ : ∃ t, t = l.drop 1 := ⟨_, rfl⟩
  have hlt : l = l.getD 0 0 :: t := by
   rw [ht]
   cases l with
   | nil => exact absurd rfl hn
   | cons b m => rfl
  have hER : dEr l = if 1 <= k /\ k <= 11 then rEnd (xqO k t).2.2 (xqO k t).2.1 else 2 := by
   rw [hlt]; show (if 1 <= kOf (l.getD 0 0) /\ kOf (l.getD 0 0) <= 11 then _ else _) = _
   rw [show kOf (l.getD 0 0) = k from hk.symm]
  have hEN : dEr l = 0 -> dEn l = (xqO k t).1 := by
   intro h0
   rw [hlt] at h0 ⊢
   rw [dEn, if_pos h0, show kOf (l.getD 0 0) = k from hk.symm]
  have htl : t.length <= 1000000000 := by rw [ht, List.length_drop]; omega
  obtain ⟨W1, hW1⟩ : ∃ W1, W1 = (w.alloc (.cells #[.int .u8 0, .int .i64 0, .int .i64 0, .int .i64 0, .slice none 0 0, .slice none 0 0, .int .i64 0, .int .i64 0, .slice none 0 0, .int .i64 0, .string ⟨#[]⟩, .int .i64 0, .int .i64 0] 41)).alloc (.cells #[.int .u8 k, .int .i64 0, .int .i64 0, .int .i64 0, .slice none 0 0, .slice none 0 0, .int .i64 0, .int .i64 0, .slice none 0 0, .int .i64 0, .string ⟨#[]⟩, .int .i64 0, .int .i64 0] 41) := ⟨_, rfl⟩
  have hz : (w.alloc (.cells #[.int .u8 0, .int .i64 0, .int .i64 0, .int .i64 0, .slice none 0 0, .slice none 0 0, .int .i64 0, .int .i64 0, .slice none 0 0, .int .i64 0, .string ⟨#[]⟩, .int .i64 0, .int .i64 0] 41)).heap.size = w.heap.size + 1 := by simp
  have k1 : Kept w W1 [] := by rw [hW1]; exact ((Kept.refl w []).alloc _).alloc _
  have b1 : W1.heap[w.heap.size + 1]? = some (.cells #[.int .u8 k, .int .i64 0, .int .i64 0, .int .i64 0, .slice none 0 0, .slice none 0 0, .int .i64 0, .int .i64 0, .slice none 0 0, .int .i64 0, .string ⟨#[]⟩, .int .i64 0, .int .i64 0] 41 (0, 0)) := by rw [hW1, <- hz]; exact heap_alloc_new _ _
  have b2 : W1.heap[w.heap.size]? = some (.cells #[.int .u8 0, .int .i64 0, .int .i64 0, .int .i64 0, .slice none 0 0, .slice none 0 0, .int .i64 0, .int .i64 0, .slice none 0 0, .int .i64 0, .string ⟨#[]⟩, .int .i64 0, .int .i64 0] 41 (0, 0)) := by rw [hW1]; exact ((Kept.refl _ []).alloc _).heap (by simp) (heap_alloc_new w _)
  have hzW : W1.heap.size = w.heap.size + 2 := by rw [hW1]; simp
  have rd1 := (h.kept k1 (by simp)).sub1 hl1
  rw [<- ht] at rd1
  have HER := iH hER; have HEN := iH hEN; have HT := iH htl; have B1 := iH b1; have B2 := iH b2; have K1 := iH k1; have HZ := iH hzW
  have hn0 : ((l.length : Int) == 0) = false := by rw [beq_eq_false_iff_ne]; omega
  have x0 : (0 : Int) < (l.length : Int) := by omega
  have x1 : (1 : Int) <= (l.length : Int) := by omega
  have x2 : (l.length : Int) <= (vc : Int) := by omega
  clear h hl hvn hcell hk ht hlt hER hEN htl b1 b2 k1 hzW hz hn
  go_enter Try.func14, Try.ntmps14
  go_upto_region 4 with fail
  rw [<- hW1]
  clear hW1 c0a
  go_cut [5, 16, 17, 18, 19] (fun s5 s16 s17 s18 s19 wx => ∃ (W2 : World) (q r c : Nat), W2 = wx /\ s5 = .pointer (some ⟨q, 0, none⟩) /\ RowKit.Hid (Pz W2 q r c (w.heap.size + 1) #[.int .u8 k, .int .i64 0, .int .i64 0, .int .i64 0, .slice none 0 0, .slice none 0 0, .int .i64 0, .int .i64 0, .slice none 0 0, .int .i64 0, .string ⟨#[]⟩, .int .i64 0, .int .i64 0] W2 0 t) /\ RowKit.Hid (W2.heap[w.heap.size]? = some (.cells #[.int .u8 0, .int .i64 0, .int .i64 0, .int .i64 0, .slice none 0 0, .slice none 0 0, .int .i64 0, .int .i64 0, .slice none 0 0, .int .i64 0, .string ⟨#[]⟩, .int .i64 0, .int .i64 0] 41 (0, 0))) /\ RowKit.Hid (Kept w W2 []) /\ RowKit.Hid (w.heap.size + 2 <= r /\ w.heap.size + 2 <= q))
  case first =>
   by_cases hc : vc = 1
   ·rw [if_pos hc] at rd1
    subst hc
    obtain hl2 : l.length = 1 := by omega
    rw [show l.length - 1 = 0 by omega] at rd1
    clear hl2
    go_wp2_with fail
    refine (new_any2 _ t W1 rd1 (by have := HT.out; omega)).mono ?_
    rintro en w1 ⟨r, v0, rfl, hr, hr1, hr2, hvb, hk1⟩
    obtain ⟨c, hc1, hc2, hc3⟩ : ∃ c, (∀ b, v0.ownBlock = some b -> b = c) /\ W1.heap.size <= c /\ c < w1.heap.size := by
     cases hb : v0.ownBlock with
     | none => exact ⟨r, fun b hb2 => by simp at hb2, hr1, hr2⟩
     | some x => exact ⟨x, fun b hb2 => by simpa using hb2.symm, hvb x hb⟩
    obtain ⟨W2, hW2⟩ : ∃ W2, W2 = w1.alloc (.cells #[.pointer (some ⟨r, 0, none⟩), .int .i64 0] 90) := ⟨_, rfl⟩
    have k2 : Kept w1 W2 [] := by rw [hW2]; exact (Kept.refl w1 []).alloc _
    have bq : W2.heap[w1.heap.size]? = some (.cells #[.pointer (some ⟨r, 0, none⟩), .int .i64 0] 90 (0, 0)) := by rw [hW2]; exact heap_alloc_new w1 _
    have hz2 : W2.heap.size = w1.heap.size + 1 := by rw [hW2]; simp
    have z2 : Zs W2 w1.heap.size r c 0 t := ⟨0, 0, t, ⟨v0, bq, hr.kept k2 (by simp) (by simp), hc1, by omega, by omega, by have := HT.out; omega⟩, rfl, fun _ => rfl⟩
    have hs1 := hk1.size
    have P2 := iH (show Pz W2 w1.heap.size r c (w.heap.size + 1) #[.int .u8 k, .int .i64 0, .int .i64 0, .int .i64 0, .slice none 0 0, .slice none 0 0, .int .i64 0, .int .i64 0, .slice none 0 0, .int .i64 0, .string ⟨#[]⟩, .int .i64 0, .int .i64 0] W2 0 t from ⟨z2, (hk1.trans k2 (by simp)).heap (by simp) B1.out, Kept.refl _ _, by have := HZ.out; omega, by have := HZ.out; omega⟩)
    have B3 := iH ((hk1.trans k2 (by simp)).heap (by simp) B2.out); have K3 := iH (K1.out.trans (hk1.trans k2 (by simp)) (by simp))
    have SZ := iH (show w.heap.size + 2 <= r /\ w.heap.size + 2 <= w1.heap.size from by have := HZ.out; omega)
    clear hr hr1 hr2 hvb hk1 hc1 hc2 hc3 k2 bq hz2 z2 hs1 rd1
    go_wp2_with fail
    go_meet
    exact ⟨W2, w1.heap.size, r, c, hW2, rfl, P2, B3, K3, SZ⟩
   rw [if_neg hc] at rd1
   go_wp2_with fail
   refine (new_any2 _ t W1 rd1 (by have := HT.out; omega)).mono ?_
   rintro en w1 ⟨r, v0, rfl, hr, hr1, hr2, hvb, hk1⟩
   obtain ⟨c, hc1, hc2, hc3⟩ : ∃ c, (∀ b, v0.ownBlock = some b -> b = c) /\ W1.heap.size <= c /\ c < w1.heap.size := by
    cases hb : v0.ownBlock with
    | none => exact ⟨r, fun b hb2 => by simp at hb2, hr1, hr2⟩
    | some x => exact ⟨x, fun b hb2 => by simpa using hb2.symm, hvb x hb⟩
   obtain ⟨W2, hW2⟩ : ∃ W2, W2 = w1.alloc (.cells #[.pointer (some ⟨r, 0, none⟩), .int .i64 0] 90) := ⟨_, rfl⟩
   have k2 : Kept w1 W2 [] := by rw [hW2]; exact (Kept.refl w1 []).alloc _
   have bq : W2.heap[w1.heap.size]? = some (.cells #[.pointer (some ⟨r, 0, none⟩), .int .i64 0] 90 (0, 0)) := by rw [hW2]; exact heap_alloc_new w1 _
   have hz2 : W2.heap.size = w1.heap.size + 1 := by rw [hW2]; simp
   have z2 : Zs W2 w1.heap.size r c 0 t := ⟨0, 0, t, ⟨v0, bq, hr.kept k2 (by simp) (by simp), hc1, by omega, by omega, by have := HT.out; omega⟩, rfl, fun _ => rfl⟩
   have hs1 := hk1.size
   have P2 := iH (show Pz W2 w1.heap.size r c (w.heap.size + 1) #[.int .u8 k, .int .i64 0, .int .i64 0, .int .i64 0, .slice none 0 0, .slice none 0 0, .int .i64 0, .int .i64 0, .slice none 0 0, .int .i64 0, .string ⟨#[]⟩, .int .i64 0, .int .i64 0] W2 0 t from ⟨z2, (hk1.trans k2 (by simp)).heap (by simp) B1.out, Kept.refl _ _, by have := HZ.out; omega, by have := HZ.out; omega⟩)
   have B3 := iH ((hk1.trans k2 (by simp)).heap (by simp) B2.out); have K3 := iH (K1.out.trans (hk1.trans k2 (by simp)) (by simp))
   have SZ := iH (show w.heap.size + 2 <= r /\ w.heap.size + 2 <= w1.heap.size from by have := HZ.out; omega)
   clear hr hr1 hr2 hvb hk1 hc1 hc2 hc3 k2 bq hz2 z2 hs1 rd1
   go_wp2_with fail
   go_meet
   exact ⟨W2, w1.heap.size, r, c, hW2, rfl, P2, B3, K3, SZ⟩
  case rest =>
  obtain ⟨W2, q, r, c, hW2, rfl, P2, B3, K3, SZ⟩ := hcut
  subst hW2
  clear rd1 x0 x1 x2 hn0
  go_wp2_with fail
  refine (rall_any _ r c _ k t W2 P2).mono ?_
  rintro en w3 ⟨rfl, k1, tx, nx, id1, oa, on, oc, ea, en1, ec, tn, tm, ia, in1, ic1, ta, nm, n1, at1, E, e, hp, kk, hend, he, hE, rd, b1, b2, b3⟩
  have HEND := iH hend; have HE := iH (he.trans HER.out.symm); have HEE := iH hE; have RD := iH rd; have F1 := iH b1; have F2 := iH b2; have F3 := iH b3; have HP := iH hp
  have B4 := iH (kk.heap (by have := SZ.out; simp; omega) B3.out)
  have K4 := iH (K3.out.trans kk (by intro x hx; have := SZ.out; simp at hx; exact .inr (by omega)))
  have S2 : RowKit.Hid (w.heap.size <= W2.heap.size) := iH K3.out.size
  clear hp kk hend he hE rd b1 b2 b3
  go_wp2_with fail
  refine HEND.out.mono ?_
  rintro en w4 ⟨rfl, k4⟩
  have B5 := iH (k4.heap (by have := SZ.out; simp; omega) B4.out); have HP5 := iH (k4.heap (by have := SZ.out; simp; omega) HP.out)
  have K5 := iH (K4.out.trans k4 (by intro x hx; have := SZ.out; simp at hx; exact .inr (by omega)))
  have RD5 := iH (RD.out.upon k4 (fun b hb => by have := F1.out b hb; have := P2.out.lt; omega) (fun b hb => by have := F2.out b hb; have := P2.out.lt; omega) (fun b hb => by have := F3.out b hb; have := P2.out.lt; omega))
  clear k4
  have mm0 := cell_of_row w4 _ 0 _ _ _ HP5.out; have nn0 := cell_of_row w4 _ 0 _ _ _ B5.out; have ff0 := frozen_of_row w4 w.heap.size 0 _ _ B5.out
  have mm1 := cell_of_row w4 _ 1 _ _ _ HP5.out; have nn1 := cell_of_row w4 _ 1 _ _ _ B5.out; have ff1 := frozen_of_row w4 w.heap.size 1 _ _ B5.out
  have mm2 := cell_of_row w4 _ 2 _ _ _ HP5.out; have nn2 := cell_of_row w4 _ 2 _ _ _ B5.out; have ff2 := frozen_of_row w4 w.heap.size 2 _ _ B5.out
  have mm3 := cell_of_row w4 _ 3 _ _ _ HP5.out; have nn3 := cell_of_row w4 _ 3 _ _ _ B5.out; have ff3 := frozen_of_row w4 w.heap.size 3 _ _ B5.out
  have mm4 := cell_of_row w4 _ 4 _ _ _ HP5.out; have nn4 := cell_of_row w4 _ 4 _ _ _ B5.out; have ff4 := frozen_of_row w4 w.heap.size 4 _ _ B5.out
  have mm5 := cell_of_row w4 _ 5 _ _ _ HP5.out; have nn5 := cell_of_row w4 _ 5 _ _ _ B5.out; have ff5 := frozen_of_row w4 w.heap.size 5 _ _ B5.out
  have mm6 := cell_of_row w4 _ 6 _ _ _ HP5.out; have nn6 := cell_of_row w4 _ 6 _ _ _ B5.out; have ff6 := frozen_of_row w4 w.heap.size 6 _ _ B5.out
  have mm7 := cell_of_row w4 _ 7 _ _ _ HP5.out; have nn7 := cell_of_row w4 _ 7 _ _ _ B5.out; have ff7 := frozen_of_row w4 w.heap.size 7 _ _ B5.out
  have mm8 := cell_of_row w4 _ 8 _ _ _ HP5.out; have nn8 := cell_of_row w4 _ 8 _ _ _ B5.out; have ff8 := frozen_of_row w4 w.heap.size 8 _ _ B5.out
  have mm9 := cell_of_row w4 _ 9 _ _ _ HP5.out; have nn9 := cell_of_row w4 _ 9 _ _ _ B5.out; have ff9 := frozen_of_row w4 w.heap.size 9 _ _ B5.out
  have mm10 := cell_of_row w4 _ 10 _ _ _ HP5.out; have nn10 := cell_of_row w4 _ 10 _ _ _ B5.out; have ff10 := frozen_of_row w4 w.heap.size 10 _ _ B5.out
  have mm11 := cell_of_row w4 _ 11 _ _ _ HP5.out; have nn11 := cell_of_row w4 _ 11 _ _ _ B5.out; have ff11 := frozen_of_row w4 w.heap.size 11 _ _ B5.out
  have mm12 := cell_of_row w4 _ 12 _ _ _ HP5.out; have nn12 := cell_of_row w4 _ 12 _ _ _ B5.out; have ff12 := frozen_of_row w4 w.heap.size 12 _ _ B5.out
  simp at mm0 nn0 mm1 nn1 mm2 nn2 mm3 nn3 mm4 nn4 mm5 nn5 mm6 nn6 mm7 nn7 mm8 nn8 mm9 nn9 mm10 nn10 mm11 nn11 mm12 nn12
  by_cases h0 : e = 0
  ·have H0 := iH h0
   subst h0
   obtain ⟨g8, k8⟩ := xqi [.int .u8 k1, .int .i64 tx, .int .i64 nx, .int .i64 id1, .slice oa on oc, .slice ea en1 ec, .int .i64 tn, .int .i64 tm, .slice ia in1 ic1, .int .i64 ta, .string nm, .int .i64 n1, .int .i64 at1] B5.out rfl
   have G8 : RowKit.Hid ((((((((((((((w4.setCell ⟨w.heap.size, 0, none⟩ (.int .u8 k1)).setCell ⟨w.heap.size, 1, none⟩ (.int .i64 tx)).setCell ⟨w.heap.size, 2, none⟩ (.int .i64 nx)).setCell ⟨w.heap.size, 3, none⟩ (.int .i64 id1)).setCell ⟨w.heap.size, 4, none⟩ (.slice oa on oc)).setCell ⟨w.heap.size, 5, none⟩ (.slice ea en1 ec)).setCell ⟨w.heap.size, 6, none⟩ (.int .i64 tn)).setCell ⟨w.heap.size, 7, none⟩ (.int .i64 tm)).setCell ⟨w.heap.size, 8, none⟩ (.slice ia in1 ic1)).setCell ⟨w.heap.size, 9, none⟩ (.int .i64 ta)).setCell ⟨w.heap.size, 10, none⟩ (.string nm)).setCell ⟨w.heap.size, 11, none⟩ (.int .i64 n1)).setCell ⟨w.heap.size, 12, none⟩ (.int .i64 at1)).heap[w.heap.size]? = some (.cells #[.int .u8 k1, .int .i64 tx, .int .i64 nx, .int .i64 id1, .slice oa on oc, .slice ea en1 ec, .int .i64 tn, .int .i64 tm, .slice ia in1 ic1, .int .i64 ta, .string nm, .int .i64 n1, .int .i64 at1] 41 (0, 0))) := iH g8
   have K8 : RowKit.Hid (Kept w4 (((((((((((((w4.setCell ⟨w.heap.size, 0, none⟩ (.int .u8 k1)).setCell ⟨w.heap.size, 1, none⟩ (.int .i64 tx)).setCell ⟨w.heap.size, 2, none⟩ (.int .i64 nx)).setCell ⟨w.heap.size, 3, none⟩ (.int .i64 id1)).setCell ⟨w.heap.size, 4, none⟩ (.slice oa on oc)).setCell ⟨w.heap.size, 5, none⟩ (.slice ea en1 ec)).setCell ⟨w.heap.size, 6, none⟩ (.int .i64 tn)).setCell ⟨w.heap.size, 7, none⟩ (.int .i64 tm)).setCell ⟨w.heap.size, 8, none⟩ (.slice ia in1 ic1)).setCell ⟨w.heap.size, 9, none⟩ (.int .i64 ta)).setCell ⟨w.heap.size, 10, none⟩ (.string nm)).setCell ⟨w.heap.size, 11, none⟩ (.int .i64 n1)).setCell ⟨w.heap.size, 12, none⟩ (.int .i64 at1)) [w.heap.size]) := iH k8
   clear g8 k8
   go_wp2
   have z0 := cell_of_row _ w.heap.size 0 _ _ _ G8.out
   have z1 := cell_of_row _ w.heap.size 1 _ _ _ G8.out
   have z2 := cell_of_row _ w.heap.size 2 _ _ _ G8.out
   have z3 := cell_of_row _ w.heap.size 3 _ _ _ G8.out
   have z4 := cell_of_row _ w.heap.size 4 _ _ _ G8.out
   have z5 := cell_of_row _ w.heap.size 5 _ _ _ G8.out
   have z6 := cell_of_row _ w.heap.size 6 _ _ _ G8.out
   have z7 := cell_of_row _ w.heap.size 7 _ _ _ G8.out
   have z8 := cell_of_row _ w.heap.size 8 _ _ _ G8.out
   have z9 := cell_of_row _ w.heap.size 9 _ _ _ G8.out
   have z10 := cell_of_row _ w.heap.size 10 _ _ _ G8.out
   have z11 := cell_of_row _ w.heap.size 11 _ _ _ G8.out
   have z12 := cell_of_row _ w.heap.size 12 _ _ _ G8.out
   simp at z0 z1 z2 z3 z4 z5 z6 z7 z8 z9 z10 z11 z12
   refine bodyPost_ret (v := .tuple #[.agg #[.int .u8 k1, .int .i64 tx, .int .i64 nx, .int .i64 id1, .slice oa on oc, .slice ea en1 ec, .int .i64 tn, .int .i64 tm, .slice ia in1 ic1, .int .i64 ta, .string nm, .int .i64 n1, .int .i64 at1], .int .i64 0]) (by simp [results, Try.results14, go_sem, z0, z1, z2, z3, z4, z5, z6, z7, z8, z9, z10, z11, z12]) rfl ?_
   obtain ⟨e1, e2⟩ := HEE.out (by trivial)
   have eN : dEn l = E := (HEN.out HE.out.symm).trans e1.symm
   have hs := S2.out
   refine ⟨_, _, _, by rw [eN, <- e2, <- HE.out], ?_, K5.out.trans K8.out (by intro x hx; simp at hx; exact .inr (by omega)), fun b hb => Nat.le_trans hs (F1.out b hb), fun b hb => Nat.le_trans hs (F2.out b hb), fun b hb => Nat.le_trans hs (F3.out b hb)⟩
   rw [eN]
   exact RD5.out.upon K8.out (fun b hb => by have := F1.out b hb; have := SZ.out; have := P2.out.lt; omega) (fun b hb => by have := F2.out b hb; have := SZ.out; have := P2.out.lt; omega) (fun b hb => by have := F3.out b hb; have := SZ.out; have := P2.out.lt; omega)
  have x9 : (e != 0) = true := by simpa using h0
  have H0 := iH h0
  clear h0
  obtain ⟨g8, k8⟩ := xqi [.int .u8 0, .int .i64 0, .int .i64 0, .int .i64 0, .slice none 0 0, .slice none 0 0, .int .i64 0, .int .i64 0, .slice none 0 0, .int .i64 0, .string ⟨#[]⟩, .int .i64 0, .int .i64 0] B5.out rfl
  have G8 : RowKit.Hid ((((((((((((((w4.setCell ⟨w.heap.size, 0, none⟩ (.int .u8 0)).setCell ⟨w.heap.size, 1, none⟩ (.int .i64 0)).setCell ⟨w.heap.size, 2, none⟩ (.int .i64 0)).setCell ⟨w.heap.size, 3, none⟩ (.int .i64 0)).setCell ⟨w.heap.size, 4, none⟩ (.slice none 0 0)).setCell ⟨w.heap.size, 5, none⟩ (.slice none 0 0)).setCell ⟨w.heap.size, 6, none⟩ (.int .i64 0)).setCell ⟨w.heap.size, 7, none⟩ (.int .i64 0)).setCell ⟨w.heap.size, 8, none⟩ (.slice none 0 0)).setCell ⟨w.heap.size, 9, none⟩ (.int .i64 0)).setCell ⟨w.heap.size, 10, none⟩ (.string ⟨#[]⟩)).setCell ⟨w.heap.size, 11, none⟩ (.int .i64 0)).setCell ⟨w.heap.size, 12, none⟩ (.int .i64 0)).heap[w.heap.size]? = some (.cells #[.int .u8 0, .int .i64 0, .int .i64 0, .int .i64 0, .slice none 0 0, .slice none 0 0, .int .i64 0, .int .i64 0, .slice none 0 0, .int .i64 0, .string ⟨#[]⟩, .int .i64 0, .int .i64 0] 41 (0, 0))) := iH g8
  have K8 : RowKit.Hid (Kept w4 (((((((((((((w4.setCell ⟨w.heap.size, 0, none⟩ (.int .u8 0)).setCell ⟨w.heap.size, 1, none⟩ (.int .i64 0)).setCell ⟨w.heap.size, 2, none⟩ (.int .i64 0)).setCell ⟨w.heap.size, 3, none⟩ (.int .i64 0)).setCell ⟨w.heap.size, 4, none⟩ (.slice none 0 0)).setCell ⟨w.heap.size, 5, none⟩ (.slice none 0 0)).setCell ⟨w.heap.size, 6, none⟩ (.int .i64 0)).setCell ⟨w.heap.size, 7, none⟩ (.int .i64 0)).setCell ⟨w.heap.size, 8, none⟩ (.slice none 0 0)).setCell ⟨w.heap.size, 9, none⟩ (.int .i64 0)).setCell ⟨w.heap.size, 10, none⟩ (.string ⟨#[]⟩)).setCell ⟨w.heap.size, 11, none⟩ (.int .i64 0)).setCell ⟨w.heap.size, 12, none⟩ (.int .i64 0)) [w.heap.size]) := iH k8
  clear g8 k8
  go_wp2
  have z0 := cell_of_row _ w.heap.size 0 _ _ _ G8.out
  have z1 := cell_of_row _ w.heap.size 1 _ _ _ G8.out
  have z2 := cell_of_row _ w.heap.size 2 _ _ _ G8.out
  have z3 := cell_of_row _ w.heap.size 3 _ _ _ G8.out
  have z4 := cell_of_row _ w.heap.size 4 _ _ _ G8.out
  have z5 := cell_of_row _ w.heap.size 5 _ _ _ G8.out
  have z6 := cell_of_row _ w.heap.size 6 _ _ _ G8.out
  have z7 := cell_of_row _ w.heap.size 7 _ _ _ G8.out
  have z8 := cell_of_row _ w.heap.size 8 _ _ _ G8.out
  have z9 := cell_of_row _ w.heap.size 9 _ _ _ G8.out
  have z10 := cell_of_row _ w.heap.size 10 _ _ _ G8.out
  have z11 := cell_of_row _ w.heap.size 11 _ _ _ G8.out
  have z12 := cell_of_row _ w.heap.size 12 _ _ _ G8.out
  simp at z0 z1 z2 z3 z4 z5 z6 z7 z8 z9 z10 z11 z12
  refine bodyPost_ret (v := .tuple #[.agg #[.int .u8 0, .int .i64 0, .int .i64 0, .int .i64 0, .slice none 0 0, .slice none 0 0, .int .i64 0, .int .i64 0, .slice none 0 0, .int .i64 0, .string ⟨#[]⟩, .int .i64 0, .int .i64 0], .int .i64 e]) (by simp [results, Try.results14, go_sem, z0, z1, z2, z3, z4, z5, z6, z7, z8, z9, z10, z11, z12]) rfl ?_
  exact DPost.bad HE.out H0.out (K5.out.trans K8.out (by intro x hx; simp at hx; exact .inr (by omega)))
end Go.Proofs.Ytjdbmlifekghfaa
