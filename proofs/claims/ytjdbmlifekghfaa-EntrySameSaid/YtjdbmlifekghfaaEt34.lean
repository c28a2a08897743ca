/-
  Epg in one text.
-/
import Derived.Test.YtjdbmlifekghfaaEt0
import Derived.Test.YtjdbmlifekghfaaEt30
set_option linter.unusedVariables false
set_option maxHeartbeats 16000000
set_option maxRecDepth 100000
namespace Go.Proofs.Ytjdbmlifekghfaa
open Go.RowKit
theorem dOpen_halt (k : Nat) : ∀ (n : Nat) (e : Int) (l : List UInt8), k <= n -> (xqs k e l).2.2 ≠ 0 -> xqs n e l = xqs k e l := by
 induction k with
 | zero =>
  intro n e l _ h
  change e ≠ 0 at h
  cases n with
  | zero => rfl
  | succ n => simp only [xqs, if_neg h]
 | succ k ih =>
 intro n e l hn h
 obtain ⟨n, rfl⟩ : ∃ m, n = m + 1 := ⟨n - 1, by omega⟩
 by_cases he : e = 0
 ·rw [xqs, if_pos he] at h ⊢
  rw [xqs, if_pos he, ih n _ _ (by omega) h]
 rw [xqs, if_neg he, xqs, if_neg he]
theorem dOpen_le (k : Nat) : ∀ (e : Int) (l : List UInt8), (xqs k e l).1.length <= k := by
 induction k with
 | zero => intro e l; exact Nat.le_refl _
 | succ k ih =>
 intro e l
 rw [xqs]
 split
 ·have := ih (wA e l).2.2 (wA e l).2.1; simp only [List.length_cons]; omega
 simp
theorem rd2 (vb vo vc : Nat) (l : List UInt8) (w : World) (h : Rd w (.slice (some ⟨vb, vo, none⟩) l.length vc) l) (hl1 : 1 <= l.length) (hl : l.length <= 1000000000) (hkl : (2 : Int) = ((l.getD 0 0).toNat : Int)) :
  Calls Try.prog 15 #[.slice (some ⟨vb, vo, none⟩) l.length vc] w fun en w' => DPost l w en w' := by
 obtain ⟨i0, hi0, hz0, hz1, hz2⟩ := info_parts Try.infoI
 have hbl := h.block_lt (by rintro rfl; simp at hl1) vb rfl
 have c0 : w.cell? ⟨vb, vo, none⟩ = some (.int .u8 2) := by
  obtain ⟨a', c', e, _, _, hx⟩ := h
  simp only [Value.slice.injEq] at e
  obtain ⟨rfl, _, rfl⟩ := e
  obtain ⟨b', o', e, hc⟩ := hx (by rintro rfl; simp at hl1)
  simp only [Option.some.injEq, Addr.mk.injEq] at e
  obtain ⟨rfl, rfl, _⟩ := e
  have := hc 0 (by omega)
  rw [Nat.add_zero, <- hkl] at this
  exact this
 have c0a : ∀ ob, (w.alloc ob).cell? ⟨vb, vo, none⟩ = some (.int .u8 2) := fun ob => ((Kept.refl w []).alloc ob).cell (by simp) c0
 clear c0
 have x2 : (l.length : Int) <= (vc : Int) := by obtain ⟨a', c', e, hc, _⟩ := h; simp only [Value.slice.injEq] at e; omega
 have htl := hd_tl hl1
 obtain ⟨t, ht⟩ : ∃ t, t = l.drop 1 := ⟨_, rfl⟩
 rw [<- ht] at htl
 have HER := iH (dEr_k htl hkl); have HEN := iH (dEn_k htl hkl)
 have htl2 : t.length <= 1000000000 := by rw [ht, List.length_drop]; omega
 obtain ⟨W1, hW1⟩ : ∃ W1, W1 = (w.alloc (.cells #[.int .u8 0, .int .i64 0, .int .i64 0, .int .i64 0, .slice none 0 0, .slice none 0 0, .int .i64 0, .int .i64 0, .slice none 0 0, .int .i64 0, .string ⟨#[]⟩, .int .i64 0, .int .i64 0] 35)).alloc (.cells #[.int .u8 2, .int .i64 0, .int .i64 0, .int .i64 0, .slice none 0 0, .slice none 0 0, .int .i64 0, .int .i64 0, .slice none 0 0, .int .i64 0, .string ⟨#[]⟩, .int .i64 0, .int .i64 0] 35) := ⟨_, rfl⟩
 have hz : (w.alloc (.cells #[.int .u8 0, .int .i64 0, .int .i64 0, .int .i64 0, .slice none 0 0, .slice none 0 0, .int .i64 0, .int .i64 0, .slice none 0 0, .int .i64 0, .string ⟨#[]⟩, .int .i64 0, .int .i64 0] 35)).heap.size = w.heap.size + 1 := by simp
 have k1 : Kept w W1 [] := by rw [hW1]; exact ((Kept.refl w []).alloc _).alloc _
 have b1 : W1.heap[w.heap.size + 1]? = some (.cells #[.int .u8 2, .int .i64 0, .int .i64 0, .int .i64 0, .slice none 0 0, .slice none 0 0, .int .i64 0, .int .i64 0, .slice none 0 0, .int .i64 0, .string ⟨#[]⟩, .int .i64 0, .int .i64 0] 35 (0, 0)) := by rw [hW1, <- hz]; exact heap_alloc_new _ _
 have b2 : W1.heap[w.heap.size]? = some (.cells #[.int .u8 0, .int .i64 0, .int .i64 0, .int .i64 0, .slice none 0 0, .slice none 0 0, .int .i64 0, .int .i64 0, .slice none 0 0, .int .i64 0, .string ⟨#[]⟩, .int .i64 0, .int .i64 0] 35 (0, 0)) := by rw [hW1]; exact ((Kept.refl _ []).alloc _).heap (by simp) (heap_alloc_new w _)
 have hzW : W1.heap.size = w.heap.size + 2 := by rw [hW1]; simp
 have rd1 := (h.kept k1 (by simp)).sub1 hl1
 rw [<- ht] at rd1
 have HT := iH htl2; have B1 := iH b1; have B2 := iH b2; have K1 := iH k1; have HZ := iH hzW; have HBL := iH hbl
 have hn0 : ((l.length : Int) == 0) = false := by rw [beq_eq_false_iff_ne]; omega
 have x0 : (0 : Int) < (l.length : Int) := by omega
 have x1 : (1 : Int) <= (l.length : Int) := by omega
 clear h hl htl ht htl2 b1 b2 k1 hzW hz hkl hbl
 go_enter Try.func15, Try.ntmps15
 go_upto_region 4 with fail
 rw [<- hW1]
 clear hW1 c0a
 go_cut [5, 18, 19, 20] (fun s5 s18 s19 s20 wx => ∃ (W2 : World) (xa : Option Addr) (xn xc : Nat), W2 = wx /\ s5 = .pointer (some ⟨w.heap.size + 2, 0, none⟩) /\ RowKit.Hid (Gz w (w.heap.size + 2) (w.heap.size + 1) 35 (.slice xa xn xc) 0 t #[.int .u8 2, .int .i64 0, .int .i64 0, .int .i64 0, .slice none 0 0, .slice none 0 0, .int .i64 0, .int .i64 0, .slice none 0 0, .int .i64 0, .string ⟨#[]⟩, .int .i64 0, .int .i64 0] W2) /\ RowKit.Hid (W2.heap[w.heap.size]? = some (.cells #[.int .u8 0, .int .i64 0, .int .i64 0, .int .i64 0, .slice none 0 0, .slice none 0 0, .int .i64 0, .int .i64 0, .slice none 0 0, .int .i64 0, .string ⟨#[]⟩, .int .i64 0, .int .i64 0] 35 (0, 0))))
 case first =>
  by_cases hc : vc = 1
  ·rw [if_pos hc] at rd1
   subst hc
   obtain ⟨W2, hW2⟩ : ∃ W2, W2 = W1.alloc (.cells #[.slice (some ⟨vb, vo, none⟩) (l.length - 1) 0, .int .i64 0] 95) := ⟨_, rfl⟩
   have k2 : Kept W1 W2 [] := by rw [hW2]; exact (Kept.refl W1 []).alloc _
   have G := iH (show Gz w (w.heap.size + 2) (w.heap.size + 1) 35 (.slice (some ⟨vb, vo, none⟩) (l.length - 1) 0) 0 t #[.int .u8 2, .int .i64 0, .int .i64 0, .int .i64 0, .slice none 0 0, .slice none 0 0, .int .i64 0, .int .i64 0, .slice none 0 0, .int .i64 0, .string ⟨#[]⟩, .int .i64 0, .int .i64 0] W2 from ⟨rd1.kept k2 (by simp), by rw [hW2, <- HZ.out]; exact heap_alloc_new W1 _, k2.heap (by simp) B1.out, K1.out.trans k2 (by simp), by have := HT.out; omega, by omega, by omega, fun _ b hb => by simp only [Value.ownBlock, Option.some.injEq] at hb; subst hb; exact HBL.out⟩)
   have B3 := iH (k2.heap (by simp) B2.out)
   have hz2 : W1.heap.size = w.heap.size + 2 := HZ.out
   clear rd1 k2
   go_wp2_with fail
   go_meet
   exact ⟨W2, _, _, _, hW2, rfl, G, B3⟩
  rw [if_neg hc] at rd1
  obtain ⟨W2, hW2⟩ : ∃ W2, W2 = W1.alloc (.cells #[.slice (some ⟨vb, vo + 1, none⟩) (l.length - 1) (vc - 1), .int .i64 0] 95) := ⟨_, rfl⟩
  have k2 : Kept W1 W2 [] := by rw [hW2]; exact (Kept.refl W1 []).alloc _
  have G := iH (show Gz w (w.heap.size + 2) (w.heap.size + 1) 35 (.slice (some ⟨vb, vo + 1, none⟩) (l.length - 1) (vc - 1)) 0 t #[.int .u8 2, .int .i64 0, .int .i64 0, .int .i64 0, .slice none 0 0, .slice none 0 0, .int .i64 0, .int .i64 0, .slice none 0 0, .int .i64 0, .string ⟨#[]⟩, .int .i64 0, .int .i64 0] W2 from ⟨rd1.kept k2 (by simp), by rw [hW2, <- HZ.out]; exact heap_alloc_new W1 _, k2.heap (by simp) B1.out, K1.out.trans k2 (by simp), by have := HT.out; omega, by omega, by omega, fun _ b hb => by simp only [Value.ownBlock, Option.some.injEq] at hb; subst hb; exact HBL.out⟩)
  have B3 := iH (k2.heap (by simp) B2.out)
  have hz2 : W1.heap.size = w.heap.size + 2 := HZ.out
  clear rd1 k2
  go_wp2_with fail
  go_meet
  exact ⟨W2, _, _, _, hW2, rfl, G, B3⟩
 case rest =>
  obtain ⟨W2, xa, xn, xc, hW2, rfl, G1, B3⟩ := hcut
  subst hW2
  clear rd1 x0 x1 x2 hn0
  obtain ⟨q, hq⟩ : ∃ q, q = w.heap.size + 2 := ⟨_, rfl⟩
  have R1 := iH (Kept.refl W2 [w.heap.size + 2, w.heap.size + 1])
  clear hq
  have ck := (G1.out.cells 0).1
  simp at ck
  obtain ⟨n1, l1, e1, hs1⟩ : ∃ a b c, wA 0 t = (a, b, c) := ⟨_, _, _, rfl⟩
  have LN1 : RowKit.Hid (l1.length <= t.length) := iH (by have h1 : (wA 0 t).2.1.length <= t.length := xqm _ _ _ _; rw [hs1] at h1; exact h1)
  have HS1 := iH hs1
  clear hs1
  obtain ⟨q0, q1, _, _⟩ := G1.out.rcell
  go_wp2_with fail
  refine (xqq _ 0 t _ G1.out.rd G1.out.len).mono ?_
  rw [HS1.out]
  rintro en w2 ⟨v2, rfl, g, k, b⟩
  obtain ⟨va2, vn2, vc2, hv⟩ := g.shape3
  subst hv
  obtain ⟨u0, u1, f0, f1⟩ := (G1.out.keep k).rcell
  obtain ⟨x9, y9⟩ := (G1.out.keep k).cells 6; obtain ⟨c9, _⟩ := (G1.out.keep k).cells 0
  simp at x9 c9
  have G2 := iH (G1.out.both (e' := e1) g k b LN1.out 6 (.int .i64 (n1 : Nat)))
  simp only [List.setIfInBounds_toArray, List.set_cons_zero, List.set_cons_succ] at G2
  have kst : Kept w2 (((w2.setCell ⟨w.heap.size + 1, 6, none⟩ (.int .i64 (n1 : Nat))).setCell ⟨w.heap.size + 2, 0, none⟩ (.slice va2 vn2 vc2)).setCell ⟨w.heap.size + 2, 1, none⟩ (.int .i64 e1)) [w.heap.size + 2, w.heap.size + 1] := (((Kept.refl w2 _).setCell (p := ⟨w.heap.size + 1, 6, none⟩) (.inl (by simp)) (.int .i64 (n1 : Nat))).setCell (p := ⟨w.heap.size + 2, 0, none⟩) (.inl (by simp)) (.slice va2 vn2 vc2)).setCell (p := ⟨w.heap.size + 2, 1, none⟩) (.inl (by simp)) (.int .i64 e1)
  have R2 := iH ((R1.out.trans k (by simp)).trans kst (fun x hx => .inl hx))
  clear g k b q0 q1 kst
  obtain ⟨n2, l2, e2, hs2⟩ : ∃ a b c, wA e1 l1 = (a, b, c) := ⟨_, _, _, rfl⟩
  have LN2 : RowKit.Hid (l2.length <= l1.length) := iH (by have h1 : (wA e1 l1).2.1.length <= l1.length := xqm _ _ _ _; rw [hs2] at h1; exact h1)
  have HS2 := iH hs2
  clear hs2
  obtain ⟨q0, q1, _, _⟩ := G2.out.rcell
  go_wp2_with fail
  refine (xqq _ e1 l1 _ G2.out.rd G2.out.len).mono ?_
  rw [HS2.out]
  rintro en w3 ⟨v3, rfl, g, k, b⟩
  obtain ⟨va3, vn3, vc3, hv⟩ := g.shape3
  subst hv
  obtain ⟨u0, u1, f0, f1⟩ := (G2.out.keep k).rcell
  obtain ⟨x9, y9⟩ := (G2.out.keep k).cells 7; obtain ⟨c9, _⟩ := (G2.out.keep k).cells 0
  simp at x9 c9
  have G3 := iH (G2.out.both (e' := e2) g k b LN2.out 7 (.int .i64 (n2 : Nat)))
  simp only [List.setIfInBounds_toArray, List.set_cons_zero, List.set_cons_succ] at G3
  have kst : Kept w3 (((w3.setCell ⟨w.heap.size + 1, 7, none⟩ (.int .i64 (n2 : Nat))).setCell ⟨w.heap.size + 2, 0, none⟩ (.slice va3 vn3 vc3)).setCell ⟨w.heap.size + 2, 1, none⟩ (.int .i64 e2)) [w.heap.size + 2, w.heap.size + 1] := (((Kept.refl w3 _).setCell (p := ⟨w.heap.size + 1, 7, none⟩) (.inl (by simp)) (.int .i64 (n2 : Nat))).setCell (p := ⟨w.heap.size + 2, 0, none⟩) (.inl (by simp)) (.slice va3 vn3 vc3)).setCell (p := ⟨w.heap.size + 2, 1, none⟩) (.inl (by simp)) (.int .i64 e2)
  have R3 := iH ((R2.out.trans k (by simp)).trans kst (fun x hx => .inl hx))
  clear g k b q0 q1 kst
  obtain ⟨n3, l3, e3, hs3⟩ : ∃ a b c, bA e2 l2 = (a, b, c) := ⟨_, _, _, rfl⟩
  have LN3 : RowKit.Hid (l3.length <= l2.length) := iH (by have h1 : (bA e2 l2).2.1.length <= l2.length := xqm _ _ _ _; rw [hs3] at h1; exact h1)
  have H255 : RowKit.Hid (e3 = 0 -> n3 <= 255) := iH (fun h0 => by have := bA_le e2 l2 (by rw [hs3]; exact h0); rw [hs3] at this; exact this)
  have HS3 := iH hs3
  clear hs3
  obtain ⟨q0, q1, _, _⟩ := G3.out.rcell
  go_wp2_with fail
  refine (yqa _ e2 l2 255 _ G3.out.rd G3.out.len (by omega)).mono ?_
  change ∀ _ _, GPost _ _ (.int .i64 ((bA e2 l2).1 : Nat)) (bA e2 l2).2.2 (bA e2 l2).2.1 _ _ -> _
  rw [HS3.out]
  rintro en w4 ⟨v4, rfl, g, k, b⟩
  obtain ⟨va4, vn4, vc4, hv⟩ := g.shape3
  subst hv
  obtain ⟨u0, u1, f0, f1⟩ := (G3.out.keep k).rcell
  have G4 := iH (G3.out.call (e' := e3) g k b LN3.out)
  have kst : Kept w4 ((w4.setCell ⟨w.heap.size + 2, 0, none⟩ (.slice va4 vn4 vc4)).setCell ⟨w.heap.size + 2, 1, none⟩ (.int .i64 e3)) [w.heap.size + 2, w.heap.size + 1] := ((Kept.refl w4 _).setCell (p := ⟨w.heap.size + 2, 0, none⟩) (.inl (by simp)) _).setCell (p := ⟨w.heap.size + 2, 1, none⟩) (.inl (by simp)) _
  have R4 := iH ((R3.out.trans k (by simp)).trans kst (fun x hx => .inl hx))
  clear g k b q0 q1 kst
  go_upto_region 22 with fail
  obtain ⟨W, hW⟩ : ∃ W, W = (w4.setCell ⟨w.heap.size + 2, 0, none⟩ (.slice va4 vn4 vc4)).setCell ⟨w.heap.size + 2, 1, none⟩ (.int .i64 e3) := ⟨_, rfl⟩
  rw [<- hW] at G4 R4 ⊢
  clear hW u0 u1 f0 f1 x9 y9 c9
  have SZ2 : RowKit.Hid (w.heap.size + 3 <= W2.heap.size) := iH (by have h1 := (Array.getElem?_eq_some_iff.1 G1.out.at_).1; omega)
  go_wp2
  go_loopw [7, 8] (fun s7 s8 wr => ∃ (k : Nat) (ua : Option Addr) (uc : Nat) (xa : Option Addr) (xn xc : Nat), s7 = .int .i64 k /\ k <= n3 /\ wr.ownsRow (w.heap.size + 3) 2 1 (.slice ua (xqs k e3 l3).1.length uc) (xqs k e3 l3).1.length (ic (xqs k e3 l3).1) /\ Gz w (w.heap.size + 2) (w.heap.size + 1) 35 (.slice xa xn xc) (xqs k e3 l3).2.2 (xqs k e3 l3).2.1 #[.int .u8 2, .int .i64 0, .int .i64 0, .int .i64 0, .slice none 0 0, .slice none 0 0, .int .i64 (n1 : Nat), .int .i64 (n2 : Nat), .slice ua (xqs k e3 l3).1.length uc, .int .i64 0, .string ⟨#[]⟩, .int .i64 0, .int .i64 0] wr /\ (∀ y, y = w.heap.size -> W2.heap[y]? = wr.heap[y]?) /\ w.heap.size + 3 <= wr.heap.size) (fun s7 _ _ => n3 - (intOf s7).toNat)
  case atStart => exact ⟨0, none, 0, _, _, _, rfl, Nat.zero_le _, World.ownsRow_nil _ _ _ _, G4.out, fun y hy => (R4.out.block y (by have := SZ2.out; omega) (by simp; omega)).symm, Nat.le_trans SZ2.out R4.out.size⟩
  case round =>
  obtain ⟨k, ua, uc, ya, yn, yc, rfl, hk, how, hgz, hb3, hsz⟩ := hrel
  obtain ⟨ek, hek⟩ : ∃ x, x = (xqs k e3 l3).2.2 := ⟨_, rfl⟩
  obtain ⟨lk, hlk⟩ : ∃ x, x = (xqs k e3 l3).2.1 := ⟨_, rfl⟩
  obtain ⟨xs, hxs⟩ : ∃ x, x = (xqs k e3 l3).1 := ⟨_, rfl⟩
  rw [<- hxs] at how hgz
  rw [<- hek, <- hlk] at hgz
  have hxl : xs.length <= k := by rw [hxs]; exact dOpen_le k _ _
  have OW := iH how; have D0 := iH hgz; have SW := iH hsz; have HXL := iH hxl; have HK := iH hk; have BB := iH hb3
  have HE0 := iH hek; have HL0 := iH hlk; have HX0 := iH hxs
  obtain ⟨q0, q1, _, _⟩ := hgz.rcell
  clear how hgz hb3 hsz hxl hlk
  have FIN : RowKit.Hid (ek ≠ 0 ∨ k = n3 -> xqs k e3 l3 = xqs n3 e3 l3) := iH (fun h => by
   rcases h with h | h
   ·exact (dOpen_halt k n3 e3 l3 HK.out (by rw [<- HE0.out]; exact h)).symm
   ·rw [h])
  by_cases hlt : (k : Int) < (n3 : Int)
  ·by_cases he0 : ek = 0
   ·have hn255 : n3 <= 255 := H255.out (dOpen_zero (HE0.out.symm.trans he0))
    have hsn := dOpen_snoc k e3 l3 (HE0.out.symm.trans he0)
    rw [<- HE0.out, <- HL0.out, <- HX0.out] at hsn
    have hk255 : k < 255 := by omega
    subst he0
    obtain ⟨m1, l5, e5, hm⟩ : ∃ a b c, wA 0 lk = (a, b, c) := ⟨_, _, _, rfl⟩
    rw [hm] at hsn
    have LN5 : RowKit.Hid (l5.length <= lk.length) := iH (by have h1 : (wA 0 lk).2.1.length <= lk.length := xqm _ _ _ _; rw [hm] at h1; exact h1)
    have HM := iH hm; have HSN := iH hsn
    clear hm hsn hek hxs hn255
    go_wp2_with fail
    refine (xqq _ 0 lk _ D0.out.rd D0.out.len).mono ?_
    rw [HM.out]
    rintro en w5 ⟨v5, rfl, g, k5, b⟩
    obtain ⟨va5, vn5, vc5, hv⟩ := g.shape3
    subst hv
    obtain ⟨u0, u1, f0, f1⟩ := (D0.out.keep k5).rcell
    have G5 := iH (D0.out.call (e' := e5) g k5 b LN5.out)
    have O5 := iH (xqj (xqj OW.out k5 (by simp)) (w' := (w5.setCell ⟨w.heap.size + 2, 0, none⟩ (.slice va5 vn5 vc5)).setCell ⟨w.heap.size + 2, 1, none⟩ (.int .i64 e5)) (bs := [w.heap.size + 2]) (((Kept.refl w5 _).setCell (p := ⟨w.heap.size + 2, 0, none⟩) (.inl (by simp)) _).setCell (p := ⟨w.heap.size + 2, 1, none⟩) (.inl (by simp)) _) (fun b hb => by have := (World.ownsRow.lt OW.out b hb).1; simp; omega))
    have KQ : RowKit.Hid (Kept wr ((w5.setCell ⟨w.heap.size + 2, 0, none⟩ (.slice va5 vn5 vc5)).setCell ⟨w.heap.size + 2, 1, none⟩ (.int .i64 e5)) [w.heap.size + 2]) := iH (((k5.mono (cs := [w.heap.size + 2]) (by simp)).setCell (p := ⟨w.heap.size + 2, 0, none⟩) (.inl (by simp)) _).setCell (p := ⟨w.heap.size + 2, 1, none⟩) (.inl (by simp)) _)
    clear g k5 b q0 q1
    go_upto_region 27 with fail
    obtain ⟨W5, hW5⟩ : ∃ W, W = (w5.setCell ⟨w.heap.size + 2, 0, none⟩ (.slice va5 vn5 vc5)).setCell ⟨w.heap.size + 2, 1, none⟩ (.int .i64 e5) := ⟨_, rfl⟩
    rw [<- hW5] at G5 O5 KQ ⊢
    clear hW5 u0 u1 f0 f1
    obtain ⟨z8, j8⟩ := G5.out.cells 8
    simp at z8
    have OO := iH (xqj O5.out ((Kept.refl W5 []).alloc (.cells #[.int .i64 (m1 : Nat)] 2)) (by simp))
    have HS : RowKit.Hid (w.heap.size + 3 <= (W5.alloc (.cells #[.int .i64 (m1 : Nat)] 2)).heap.size) := iH (by have h1 := SW.out; have h2 := KQ.out.size; simp; omega)
    have SRC := iH (xq9 (e' := 2) Try.underlying23 W5 (.int .i64 (m1 : Nat)) rfl 2)
    go_wp2_with (at_builtin; refine xqp _ rfl (.tmp 109) (.tmp 111) 23 23 rfl (w.heap.size + 3) 2 i0 (.int .i64 0) 1 8 Try.underlying23 hi0 hz0 hz1 hz2 rfl (.slice ua xs.length uc) xs.length (ic xs) rfl OO.out (.slice (some ⟨W5.heap.size, 0, none⟩) 1 1) 1 [.int .i64 (m1 : Nat)] rfl SRC.out (by have := HXL.out; unfold maxLen; omega) (by have := HXL.out; omega) HS.out ?nexta)
    case nexta =>
    intro v9 w9 hown _ hgrow _
    have o9 : w9.ownsRow (w.heap.size + 3) 2 1 v9 (xs ++ [(m1 : Int)]).length (ic (xs ++ [(m1 : Int)])) := by rw [List.length_append, ic, List.map_append]; exact hown
    have g9 := G5.out.fin2 (q := w.heap.size + 2) (z1 := w.heap.size + 1) _ hgrow (fun b hb => (World.ownsRow.lt O5.out b hb).1) (by omega)
    have kb : Kept W5 w9 (Value.slice ua xs.length uc).ownBlock.toList := ((Kept.refl W5 _).alloc _).grown hgrow (fun k hk => .inl (by simp [hk]))
    obtain ⟨z9, j9⟩ := g9.cells 8
    simp at z9
    obtain ⟨u9, c9, e9, _⟩ := xqM o9
    subst e9
    have gs := g9.store 8 (.slice u9 (xs ++ [(m1 : Int)]).length c9)
    simp only [List.setIfInBounds_toArray, List.set_cons_zero, List.set_cons_succ] at gs
    have o10 := xqj o9 (w' := w9.setCell ⟨w.heap.size + 1, 8, none⟩ (.slice u9 (xs ++ [(m1 : Int)]).length c9)) (bs := [w.heap.size + 1]) ((Kept.refl w9 _).setCell (.inl (by simp)) _) (fun b hb => by have := (World.ownsRow.lt o9 b hb).1; simp; omega)
    have h9 : W2.heap[w.heap.size]? = (w9.setCell ⟨w.heap.size + 1, 8, none⟩ (.slice u9 (xs ++ [(m1 : Int)]).length c9)).heap[w.heap.size]? := by
     have hs0 : w.heap.size < wr.heap.size := by have := SW.out; omega
     rw [BB.out _ rfl, <- KQ.out.block _ hs0 (by simp), <- kb.block _ (by have := KQ.out.size; omega) (fun hm => by have := (World.ownsRow.lt O5.out _ (by simpa using hm)).1; omega)]
     exact (((Kept.refl w9 [w.heap.size + 1]).setCell (p := ⟨w.heap.size + 1, 8, none⟩) (.inl (by simp)) _).block _ (by have := kb.size; have := KQ.out.size; omega) (by simp)).symm
    have hsn := HSN.out
    have HL9 : RowKit.Hid ((xqs (k + 1) e3 l3).1 = xs ++ [(m1 : Int)]) := iH (by rw [hsn])
    have HE9 : RowKit.Hid ((xqs (k + 1) e3 l3).2.2 = e5) := iH (by rw [hsn])
    have HM9 : RowKit.Hid ((xqs (k + 1) e3 l3).2.1 = l5) := iH (by rw [hsn])
    rw [show (xs ++ [(m1 : Int)]).length = xs.length + 1 by simp] at gs o10 h9
    have GS := iH gs; have O10 := iH o10; have H9 := iH h9
    have hsz9 := iH (show w.heap.size + 3 <= w9.heap.size from Nat.le_trans HS.out hgrow.size)
    clear hsn hown hgrow o9 g9 gs o10 h9 kb z8 j8
    go_wp2
    go_roundw
    case rel =>
     refine ⟨k + 1, u9, c9, va5, vn5, vc5, by go_num, by omega, ?_, ?_, fun y hy => by subst hy; exact H9.out, by have := hsz9.out; simpa [World.setCell] using this⟩
     ·rw [HL9.out]; simpa using O10.out
     rw [HL9.out, HE9.out, HM9.out]; simpa using GS.out
    case measure => simp [intOf]; omega
   have x0 : (ek == 0) = false := by simpa using he0
   have hfin := FIN.out (.inl he0)
   clear he0
   have FE := iH hfin
   clear hfin hek hxs
   obtain ⟨n4, l4, e4, hs4⟩ : ∃ a b c, rfI ek lk = (a, b, c) := ⟨_, _, _, rfl⟩
   have LN4 : RowKit.Hid (l4.length <= lk.length) := iH (by have h1 : (rfI ek lk).2.1.length <= lk.length := xqt _ _; rw [hs4] at h1; exact h1)
   have HS4 := iH hs4
   clear hs4
   obtain ⟨t0, t1, _, _⟩ := D0.out.rcell
   go_wp2_with fail
   refine (rgint_any _ ek lk _ D0.out.rd D0.out.len).mono ?_
   rw [HS4.out]
   rintro en w6 ⟨v6, rfl, g, k6, b⟩
   obtain ⟨va6, vn6, vc6, hv⟩ := g.shape3
   subst hv
   obtain ⟨u0, u1, f0, f1⟩ := (D0.out.keep k6).rcell
   obtain ⟨x9, y9⟩ := (D0.out.keep k6).cells 9
   simp at x9
   have G6 := iH (D0.out.both (e' := e4) g k6 b LN4.out 9 (.int .i64 n4))
   simp only [List.setIfInBounds_toArray, List.set_cons_zero, List.set_cons_succ] at G6
   have kst : Kept w6 (((w6.setCell ⟨w.heap.size + 1, 9, none⟩ (.int .i64 n4)).setCell ⟨w.heap.size + 2, 0, none⟩ (.slice va6 vn6 vc6)).setCell ⟨w.heap.size + 2, 1, none⟩ (.int .i64 e4)) [w.heap.size + 2, w.heap.size + 1] := (((Kept.refl w6 _).setCell (p := ⟨w.heap.size + 1, 9, none⟩) (.inl (by simp)) _).setCell (p := ⟨w.heap.size + 2, 0, none⟩) (.inl (by simp)) _).setCell (p := ⟨w.heap.size + 2, 1, none⟩) (.inl (by simp)) _
   have R6 := iH ((k6.mono (cs := [w.heap.size + 2, w.heap.size + 1]) (by simp)).trans kst (fun x hx => .inl hx))
   have O6 := iH (xqj OW.out R6.out (fun b hb => by have := (World.ownsRow.lt OW.out b hb).1; simp; omega))
   clear g k6 b t0 t1 q0 q1 kst
   go_upto_region 44 with fail
   obtain ⟨W, hW⟩ : ∃ W, W = ((w6.setCell ⟨w.heap.size + 1, 9, none⟩ (.int .i64 n4)).setCell ⟨w.heap.size + 2, 0, none⟩ (.slice va6 vn6 vc6)).setCell ⟨w.heap.size + 2, 1, none⟩ (.int .i64 e4) := ⟨_, rfl⟩
   rw [<- hW] at G6 R6 O6 ⊢
   clear hW u0 u1 f0 f1 x9 y9
   obtain ⟨q0, q1, _, _⟩ := G6.out.rcell
   go_wp2_with fail
   refine (xqx _ e4 l4 _ G6.out.rd).mono ?_
   rintro en w20 ⟨rfl, k20⟩
   obtain ⟨f, hf⟩ : ∃ f, f = rEnd e4 l4 := ⟨_, rfl⟩
   rw [<- hf]
   have G20 := iH (G6.out.keep k20); have B20 := iH ((R6.out.trans k20 (by simp)).heap (k := w.heap.size) (by simp) (by rw [<- BB.out _ rfl]; exact B3.out)); have O20 := iH (xqj O6.out k20 (by simp))
   have hBody : xqO 2 t = ((⟨2, 0, 0, 0, [], [], (n1 : Int), (n2 : Int), xs, n4, ⟨#[]⟩, 0, 0⟩ : En), l4, e4) := by
    have h1 : ft1 t = (n1, l1, e1) := HS1.out
    have h2 : ft2 t = (n2, l2, e2) := by rw [ft2, h1]; exact HS2.out
    have h3 : ft3 t = (xs, lk, ek) := by
     rw [ft3, h2, gOpen, HS3.out]
     dsimp only
     rw [<- FE.out, HX0.out, HL0.out, HE0.out]
    have h4 : ft4 t = (n4, l4, e4) := by rw [ft4, h3]; exact HS4.out
    show (_, _) = _
    rw [h1, h2, h3, h4]
   have hE : dEr l = f := by rw [HER.out, if_pos (by omega), hBody, hf]
   have HE := iH hE; have HBODY := iH hBody
   clear k20 q0 q1 hE hBody hf
   have mm0 := (G20.out.cells 0).1; have nn0 := cell_of_row w20 _ 0 _ _ _ B20.out; have ff0 := frozen_of_row w20 w.heap.size 0 _ _ B20.out
   have mm1 := (G20.out.cells 1).1; have nn1 := cell_of_row w20 _ 1 _ _ _ B20.out; have ff1 := frozen_of_row w20 w.heap.size 1 _ _ B20.out
   have mm2 := (G20.out.cells 2).1; have nn2 := cell_of_row w20 _ 2 _ _ _ B20.out; have ff2 := frozen_of_row w20 w.heap.size 2 _ _ B20.out
   have mm3 := (G20.out.cells 3).1; have nn3 := cell_of_row w20 _ 3 _ _ _ B20.out; have ff3 := frozen_of_row w20 w.heap.size 3 _ _ B20.out
   have mm4 := (G20.out.cells 4).1; have nn4 := cell_of_row w20 _ 4 _ _ _ B20.out; have ff4 := frozen_of_row w20 w.heap.size 4 _ _ B20.out
   have mm5 := (G20.out.cells 5).1; have nn5 := cell_of_row w20 _ 5 _ _ _ B20.out; have ff5 := frozen_of_row w20 w.heap.size 5 _ _ B20.out
   have mm6 := (G20.out.cells 6).1; have nn6 := cell_of_row w20 _ 6 _ _ _ B20.out; have ff6 := frozen_of_row w20 w.heap.size 6 _ _ B20.out
   have mm7 := (G20.out.cells 7).1; have nn7 := cell_of_row w20 _ 7 _ _ _ B20.out; have ff7 := frozen_of_row w20 w.heap.size 7 _ _ B20.out
   have mm8 := (G20.out.cells 8).1; have nn8 := cell_of_row w20 _ 8 _ _ _ B20.out; have ff8 := frozen_of_row w20 w.heap.size 8 _ _ B20.out
   have mm9 := (G20.out.cells 9).1; have nn9 := cell_of_row w20 _ 9 _ _ _ B20.out; have ff9 := frozen_of_row w20 w.heap.size 9 _ _ B20.out
   have mm10 := (G20.out.cells 10).1; have nn10 := cell_of_row w20 _ 10 _ _ _ B20.out; have ff10 := frozen_of_row w20 w.heap.size 10 _ _ B20.out
   have mm11 := (G20.out.cells 11).1; have nn11 := cell_of_row w20 _ 11 _ _ _ B20.out; have ff11 := frozen_of_row w20 w.heap.size 11 _ _ B20.out
   have mm12 := (G20.out.cells 12).1; have nn12 := cell_of_row w20 _ 12 _ _ _ B20.out; have ff12 := frozen_of_row w20 w.heap.size 12 _ _ B20.out
   simp at mm0 nn0 mm1 nn1 mm2 nn2 mm3 nn3 mm4 nn4 mm5 nn5 mm6 nn6 mm7 nn7 mm8 nn8 mm9 nn9 mm10 nn10 mm11 nn11 mm12 nn12
   by_cases h0 : f = 0
   ·subst h0
    obtain ⟨g8, k8⟩ := xqi [.int .u8 2, .int .i64 0, .int .i64 0, .int .i64 0, .slice none 0 0, .slice none 0 0, .int .i64 (n1 : Nat), .int .i64 (n2 : Nat), .slice ua xs.length uc, .int .i64 n4, .string ⟨#[]⟩, .int .i64 0, .int .i64 0] B20.out rfl
    have G8 : RowKit.Hid ((((((((((((((w20.setCell ⟨w.heap.size, 0, none⟩ (.int .u8 2)).setCell ⟨w.heap.size, 1, none⟩ (.int .i64 0)).setCell ⟨w.heap.size, 2, none⟩ (.int .i64 0)).setCell ⟨w.heap.size, 3, none⟩ (.int .i64 0)).setCell ⟨w.heap.size, 4, none⟩ (.slice none 0 0)).setCell ⟨w.heap.size, 5, none⟩ (.slice none 0 0)).setCell ⟨w.heap.size, 6, none⟩ (.int .i64 (n1 : Nat))).setCell ⟨w.heap.size, 7, none⟩ (.int .i64 (n2 : Nat))).setCell ⟨w.heap.size, 8, none⟩ (.slice ua xs.length uc)).setCell ⟨w.heap.size, 9, none⟩ (.int .i64 n4)).setCell ⟨w.heap.size, 10, none⟩ (.string ⟨#[]⟩)).setCell ⟨w.heap.size, 11, none⟩ (.int .i64 0)).setCell ⟨w.heap.size, 12, none⟩ (.int .i64 0)).heap[w.heap.size]? = some (.cells #[.int .u8 2, .int .i64 0, .int .i64 0, .int .i64 0, .slice none 0 0, .slice none 0 0, .int .i64 (n1 : Nat), .int .i64 (n2 : Nat), .slice ua xs.length uc, .int .i64 n4, .string ⟨#[]⟩, .int .i64 0, .int .i64 0] 35 (0, 0))) := iH g8
    have K8 : RowKit.Hid (Kept w20 (((((((((((((w20.setCell ⟨w.heap.size, 0, none⟩ (.int .u8 2)).setCell ⟨w.heap.size, 1, none⟩ (.int .i64 0)).setCell ⟨w.heap.size, 2, none⟩ (.int .i64 0)).setCell ⟨w.heap.size, 3, none⟩ (.int .i64 0)).setCell ⟨w.heap.size, 4, none⟩ (.slice none 0 0)).setCell ⟨w.heap.size, 5, none⟩ (.slice none 0 0)).setCell ⟨w.heap.size, 6, none⟩ (.int .i64 (n1 : Nat))).setCell ⟨w.heap.size, 7, none⟩ (.int .i64 (n2 : Nat))).setCell ⟨w.heap.size, 8, none⟩ (.slice ua xs.length uc)).setCell ⟨w.heap.size, 9, none⟩ (.int .i64 n4)).setCell ⟨w.heap.size, 10, none⟩ (.string ⟨#[]⟩)).setCell ⟨w.heap.size, 11, none⟩ (.int .i64 0)).setCell ⟨w.heap.size, 12, none⟩ (.int .i64 0)) [w.heap.size]) := iH k8
    clear g8 k8
    go_wp2
    have z0 := cell_of_row _ w.heap.size 0 _ _ _ G8.out
    have z1 := cell_of_row _ w.heap.size 1 _ _ _ G8.out
    have z2 := cell_of_row _ w.heap.size 2 _ _ _ G8.out
    have z3 := cell_of_row _ w.heap.size 3 _ _ _ G8.out
    have z4 := cell_of_row _ w.heap.size 4 _ _ _ G8.out
    have z5 := cell_of_row _ w.heap.size 5 _ _ _ G8.out
    have z6 := cell_of_row _ w.heap.size 6 _ _ _ G8.out
    have z7 := cell_of_row _ w.heap.size 7 _ _ _ G8.out
    have z8 := cell_of_row _ w.heap.size 8 _ _ _ G8.out
    have z9 := cell_of_row _ w.heap.size 9 _ _ _ G8.out
    have z10 := cell_of_row _ w.heap.size 10 _ _ _ G8.out
    have z11 := cell_of_row _ w.heap.size 11 _ _ _ G8.out
    have z12 := cell_of_row _ w.heap.size 12 _ _ _ G8.out
    simp at z0 z1 z2 z3 z4 z5 z6 z7 z8 z9 z10 z11 z12
    refine bodyPost_ret (v := .tuple #[.agg #[.int .u8 2, .int .i64 0, .int .i64 0, .int .i64 0, .slice none 0 0, .slice none 0 0, .int .i64 (n1 : Nat), .int .i64 (n2 : Nat), .slice ua xs.length uc, .int .i64 n4, .string ⟨#[]⟩, .int .i64 0, .int .i64 0], .int .i64 0]) (by simp [results, Try.results15, go_sem, z0, z1, z2, z3, z4, z5, z6, z7, z8, z9, z10, z11, z12]) rfl ?_
    have eN : dEn l = (⟨2, 0, 0, 0, [], [], (n1 : Int), (n2 : Int), xs, n4, ⟨#[]⟩, 0, 0⟩ : En) := by rw [HEN.out HE.out, HBODY.out]
    refine ⟨.slice none 0 0, .slice none 0 0, .slice ua xs.length uc, by rw [eN, HE.out]; rfl, ?_, G20.out.k.trans K8.out (by intro x hx; simp at hx; exact .inr (by omega)), fun b hb => by simp [Value.ownBlock] at hb, fun b hb => by simp [Value.ownBlock] at hb, fun b hb => by have := (World.ownsRow.lt O20.out b hb).1; omega⟩
    rw [eN]
    exact ⟨RdK.nil _, RdK.nil _, xqM (xqj O20.out K8.out (fun b hb => by have := (World.ownsRow.lt O20.out b hb).1; simp; omega))⟩
   have x9 : (f != 0) = true := by simpa using h0
   have H0 := iH h0
   clear h0
   obtain ⟨g8, k8⟩ := xqi [.int .u8 0, .int .i64 0, .int .i64 0, .int .i64 0, .slice none 0 0, .slice none 0 0, .int .i64 0, .int .i64 0, .slice none 0 0, .int .i64 0, .string ⟨#[]⟩, .int .i64 0, .int .i64 0] B20.out rfl
   have G8 : RowKit.Hid ((((((((((((((w20.setCell ⟨w.heap.size, 0, none⟩ (.int .u8 0)).setCell ⟨w.heap.size, 1, none⟩ (.int .i64 0)).setCell ⟨w.heap.size, 2, none⟩ (.int .i64 0)).setCell ⟨w.heap.size, 3, none⟩ (.int .i64 0)).setCell ⟨w.heap.size, 4, none⟩ (.slice none 0 0)).setCell ⟨w.heap.size, 5, none⟩ (.slice none 0 0)).setCell ⟨w.heap.size, 6, none⟩ (.int .i64 0)).setCell ⟨w.heap.size, 7, none⟩ (.int .i64 0)).setCell ⟨w.heap.size, 8, none⟩ (.slice none 0 0)).setCell ⟨w.heap.size, 9, none⟩ (.int .i64 0)).setCell ⟨w.heap.size, 10, none⟩ (.string ⟨#[]⟩)).setCell ⟨w.heap.size, 11, none⟩ (.int .i64 0)).setCell ⟨w.heap.size, 12, none⟩ (.int .i64 0)).heap[w.heap.size]? = some (.cells #[.int .u8 0, .int .i64 0, .int .i64 0, .int .i64 0, .slice none 0 0, .slice none 0 0, .int .i64 0, .int .i64 0, .slice none 0 0, .int .i64 0, .string ⟨#[]⟩, .int .i64 0, .int .i64 0] 35 (0, 0))) := iH g8
   have K8 : RowKit.Hid (Kept w20 (((((((((((((w20.setCell ⟨w.heap.size, 0, none⟩ (.int .u8 0)).setCell ⟨w.heap.size, 1, none⟩ (.int .i64 0)).setCell ⟨w.heap.size, 2, none⟩ (.int .i64 0)).setCell ⟨w.heap.size, 3, none⟩ (.int .i64 0)).setCell ⟨w.heap.size, 4, none⟩ (.slice none 0 0)).setCell ⟨w.heap.size, 5, none⟩ (.slice none 0 0)).setCell ⟨w.heap.size, 6, none⟩ (.int .i64 0)).setCell ⟨w.heap.size, 7, none⟩ (.int .i64 0)).setCell ⟨w.heap.size, 8, none⟩ (.slice none 0 0)).setCell ⟨w.heap.size, 9, none⟩ (.int .i64 0)).setCell ⟨w.heap.size, 10, none⟩ (.string ⟨#[]⟩)).setCell ⟨w.heap.size, 11, none⟩ (.int .i64 0)).setCell ⟨w.heap.size, 12, none⟩ (.int .i64 0)) [w.heap.size]) := iH k8
   clear g8 k8
   go_wp2
   have z0 := cell_of_row _ w.heap.size 0 _ _ _ G8.out
   have z1 := cell_of_row _ w.heap.size 1 _ _ _ G8.out
   have z2 := cell_of_row _ w.heap.size 2 _ _ _ G8.out
   have z3 := cell_of_row _ w.heap.size 3 _ _ _ G8.out
   have z4 := cell_of_row _ w.heap.size 4 _ _ _ G8.out
   have z5 := cell_of_row _ w.heap.size 5 _ _ _ G8.out
   have z6 := cell_of_row _ w.heap.size 6 _ _ _ G8.out
   have z7 := cell_of_row _ w.heap.size 7 _ _ _ G8.out
   have z8 := cell_of_row _ w.heap.size 8 _ _ _ G8.out
   have z9 := cell_of_row _ w.heap.size 9 _ _ _ G8.out
   have z10 := cell_of_row _ w.heap.size 10 _ _ _ G8.out
   have z11 := cell_of_row _ w.heap.size 11 _ _ _ G8.out
   have z12 := cell_of_row _ w.heap.size 12 _ _ _ G8.out
   simp at z0 z1 z2 z3 z4 z5 z6 z7 z8 z9 z10 z11 z12
   refine bodyPost_ret (v := .tuple #[.agg #[.int .u8 0, .int .i64 0, .int .i64 0, .int .i64 0, .slice none 0 0, .slice none 0 0, .int .i64 0, .int .i64 0, .slice none 0 0, .int .i64 0, .string ⟨#[]⟩, .int .i64 0, .int .i64 0], .int .i64 f]) (by simp [results, Try.results15, go_sem, z0, z1, z2, z3, z4, z5, z6, z7, z8, z9, z10, z11, z12]) rfl ?_
   exact DPost.bad HE.out.symm H0.out (G20.out.k.trans K8.out (by intro x hx; simp at hx; exact .inr (by omega)))
  have x0 : ¬ (k : Int) < (n3 : Int) := hlt
  have hfin := FIN.out (.inr (by omega))
  have FE := iH hfin
  clear hfin hek hxs
  obtain ⟨n4, l4, e4, hs4⟩ : ∃ a b c, rfI ek lk = (a, b, c) := ⟨_, _, _, rfl⟩
  have LN4 : RowKit.Hid (l4.length <= lk.length) := iH (by have h1 : (rfI ek lk).2.1.length <= lk.length := xqt _ _; rw [hs4] at h1; exact h1)
  have HS4 := iH hs4
  clear hs4
  obtain ⟨t0, t1, _, _⟩ := D0.out.rcell
  go_wp2_with fail
  refine (rgint_any _ ek lk _ D0.out.rd D0.out.len).mono ?_
  rw [HS4.out]
  rintro en w6 ⟨v6, rfl, g, k6, b⟩
  obtain ⟨va6, vn6, vc6, hv⟩ := g.shape3
  subst hv
  obtain ⟨u0, u1, f0, f1⟩ := (D0.out.keep k6).rcell
  obtain ⟨x9, y9⟩ := (D0.out.keep k6).cells 9
  simp at x9
  have G6 := iH (D0.out.both (e' := e4) g k6 b LN4.out 9 (.int .i64 n4))
  simp only [List.setIfInBounds_toArray, List.set_cons_zero, List.set_cons_succ] at G6
  have kst : Kept w6 (((w6.setCell ⟨w.heap.size + 1, 9, none⟩ (.int .i64 n4)).setCell ⟨w.heap.size + 2, 0, none⟩ (.slice va6 vn6 vc6)).setCell ⟨w.heap.size + 2, 1, none⟩ (.int .i64 e4)) [w.heap.size + 2, w.heap.size + 1] := (((Kept.refl w6 _).setCell (p := ⟨w.heap.size + 1, 9, none⟩) (.inl (by simp)) _).setCell (p := ⟨w.heap.size + 2, 0, none⟩) (.inl (by simp)) _).setCell (p := ⟨w.heap.size + 2, 1, none⟩) (.inl (by simp)) _
  have R6 := iH ((k6.mono (cs := [w.heap.size + 2, w.heap.size + 1]) (by simp)).trans kst (fun x hx => .inl hx))
  have O6 := iH (xqj OW.out R6.out (fun b hb => by have := (World.ownsRow.lt OW.out b hb).1; simp; omega))
  clear g k6 b t0 t1 q0 q1 kst
  go_upto_region 44 with fail
  obtain ⟨W, hW⟩ : ∃ W, W = ((w6.setCell ⟨w.heap.size + 1, 9, none⟩ (.int .i64 n4)).setCell ⟨w.heap.size + 2, 0, none⟩ (.slice va6 vn6 vc6)).setCell ⟨w.heap.size + 2, 1, none⟩ (.int .i64 e4) := ⟨_, rfl⟩
  rw [<- hW] at G6 R6 O6 ⊢
  clear hW u0 u1 f0 f1 x9 y9
  obtain ⟨q0, q1, _, _⟩ := G6.out.rcell
  go_wp2_with fail
  refine (xqx _ e4 l4 _ G6.out.rd).mono ?_
  rintro en w20 ⟨rfl, k20⟩
  obtain ⟨f, hf⟩ : ∃ f, f = rEnd e4 l4 := ⟨_, rfl⟩
  rw [<- hf]
  have G20 := iH (G6.out.keep k20); have B20 := iH ((R6.out.trans k20 (by simp)).heap (k := w.heap.size) (by simp) (by rw [<- BB.out _ rfl]; exact B3.out)); have O20 := iH (xqj O6.out k20 (by simp))
  have hBody : xqO 2 t = ((⟨2, 0, 0, 0, [], [], (n1 : Int), (n2 : Int), xs, n4, ⟨#[]⟩, 0, 0⟩ : En), l4, e4) := by
   have h1 : ft1 t = (n1, l1, e1) := HS1.out
   have h2 : ft2 t = (n2, l2, e2) := by rw [ft2, h1]; exact HS2.out
   have h3 : ft3 t = (xs, lk, ek) := by
    rw [ft3, h2, gOpen, HS3.out]
    dsimp only
    rw [<- FE.out, HX0.out, HL0.out, HE0.out]
   have h4 : ft4 t = (n4, l4, e4) := by rw [ft4, h3]; exact HS4.out
   show (_, _) = _
   rw [h1, h2, h3, h4]
  have hE : dEr l = f := by rw [HER.out, if_pos (by omega), hBody, hf]
  have HE := iH hE; have HBODY := iH hBody
  clear k20 q0 q1 hE hBody hf
  have mm0 := (G20.out.cells 0).1; have nn0 := cell_of_row w20 _ 0 _ _ _ B20.out; have ff0 := frozen_of_row w20 w.heap.size 0 _ _ B20.out
  have mm1 := (G20.out.cells 1).1; have nn1 := cell_of_row w20 _ 1 _ _ _ B20.out; have ff1 := frozen_of_row w20 w.heap.size 1 _ _ B20.out
  have mm2 := (G20.out.cells 2).1; have nn2 := cell_of_row w20 _ 2 _ _ _ B20.out; have ff2 := frozen_of_row w20 w.heap.size 2 _ _ B20.out
  have mm3 := (G20.out.cells 3).1; have nn3 := cell_of_row w20 _ 3 _ _ _ B20.out; have ff3 := frozen_of_row w20 w.heap.size 3 _ _ B20.out
  have mm4 := (G20.out.cells 4).1; have nn4 := cell_of_row w20 _ 4 _ _ _ B20.out; have ff4 := frozen_of_row w20 w.heap.size 4 _ _ B20.out
  have mm5 := (G20.out.cells 5).1; have nn5 := cell_of_row w20 _ 5 _ _ _ B20.out; have ff5 := frozen_of_row w20 w.heap.size 5 _ _ B20.out
  have mm6 := (G20.out.cells 6).1; have nn6 := cell_of_row w20 _ 6 _ _ _ B20.out; have ff6 := frozen_of_row w20 w.heap.size 6 _ _ B20.out
  have mm7 := (G20.out.cells 7).1; have nn7 := cell_of_row w20 _ 7 _ _ _ B20.out; have ff7 := frozen_of_row w20 w.heap.size 7 _ _ B20.out
  have mm8 := (G20.out.cells 8).1; have nn8 := cell_of_row w20 _ 8 _ _ _ B20.out; have ff8 := frozen_of_row w20 w.heap.size 8 _ _ B20.out
  have mm9 := (G20.out.cells 9).1; have nn9 := cell_of_row w20 _ 9 _ _ _ B20.out; have ff9 := frozen_of_row w20 w.heap.size 9 _ _ B20.out
  have mm10 := (G20.out.cells 10).1; have nn10 := cell_of_row w20 _ 10 _ _ _ B20.out; have ff10 := frozen_of_row w20 w.heap.size 10 _ _ B20.out
  have mm11 := (G20.out.cells 11).1; have nn11 := cell_of_row w20 _ 11 _ _ _ B20.out; have ff11 := frozen_of_row w20 w.heap.size 11 _ _ B20.out
  have mm12 := (G20.out.cells 12).1; have nn12 := cell_of_row w20 _ 12 _ _ _ B20.out; have ff12 := frozen_of_row w20 w.heap.size 12 _ _ B20.out
  simp at mm0 nn0 mm1 nn1 mm2 nn2 mm3 nn3 mm4 nn4 mm5 nn5 mm6 nn6 mm7 nn7 mm8 nn8 mm9 nn9 mm10 nn10 mm11 nn11 mm12 nn12
  by_cases h0 : f = 0
  ·subst h0
   obtain ⟨g8, k8⟩ := xqi [.int .u8 2, .int .i64 0, .int .i64 0, .int .i64 0, .slice none 0 0, .slice none 0 0, .int .i64 (n1 : Nat), .int .i64 (n2 : Nat), .slice ua xs.length uc, .int .i64 n4, .string ⟨#[]⟩, .int .i64 0, .int .i64 0] B20.out rfl
   have G8 : RowKit.Hid ((((((((((((((w20.setCell ⟨w.heap.size, 0, none⟩ (.int .u8 2)).setCell ⟨w.heap.size, 1, none⟩ (.int .i64 0)).setCell ⟨w.heap.size, 2, none⟩ (.int .i64 0)).setCell ⟨w.heap.size, 3, none⟩ (.int .i64 0)).setCell ⟨w.heap.size, 4, none⟩ (.slice none 0 0)).setCell ⟨w.heap.size, 5, none⟩ (.slice none 0 0)).setCell ⟨w.heap.size, 6, none⟩ (.int .i64 (n1 : Nat))).setCell ⟨w.heap.size, 7, none⟩ (.int .i64 (n2 : Nat))).setCell ⟨w.heap.size, 8, none⟩ (.slice ua xs.length uc)).setCell ⟨w.heap.size, 9, none⟩ (.int .i64 n4)).setCell ⟨w.heap.size, 10, none⟩ (.string ⟨#[]⟩)).setCell ⟨w.heap.size, 11, none⟩ (.int .i64 0)).setCell ⟨w.heap.size, 12, none⟩ (.int .i64 0)).heap[w.heap.size]? = some (.cells #[.int .u8 2, .int .i64 0, .int .i64 0, .int .i64 0, .slice none 0 0, .slice none 0 0, .int .i64 (n1 : Nat), .int .i64 (n2 : Nat), .slice ua xs.length uc, .int .i64 n4, .string ⟨#[]⟩, .int .i64 0, .int .i64 0] 35 (0, 0))) := iH g8
   have K8 : RowKit.Hid (Kept w20 (((((((((((((w20.setCell ⟨w.heap.size, 0, none⟩ (.int .u8 2)).setCell ⟨w.heap.size, 1, none⟩ (.int .i64 0)).setCell ⟨w.heap.size, 2, none⟩ (.int .i64 0)).setCell ⟨w.heap.size, 3, none⟩ (.int .i64 0)).setCell ⟨w.heap.size, 4, none⟩ (.slice none 0 0)).setCell ⟨w.heap.size, 5, none⟩ (.slice none 0 0)).setCell ⟨w.heap.size, 6, none⟩ (.int .i64 (n1 : Nat))).setCell ⟨w.heap.size, 7, none⟩ (.int .i64 (n2 : Nat))).setCell ⟨w.heap.size, 8, none⟩ (.slice ua xs.length uc)).setCell ⟨w.heap.size, 9, none⟩ (.int .i64 n4)).setCell ⟨w.heap.size, 10, none⟩ (.string ⟨#[]⟩)).setCell ⟨w.heap.size, 11, none⟩ (.int .i64 0)).setCell ⟨w.heap.size, 12, none⟩ (.int .i64 0)) [w.heap.size]) := iH k8
   clear g8 k8
   go_wp2
   have z0 := cell_of_row _ w.heap.size 0 _ _ _ G8.out
   have z1 := cell_of_row _ w.heap.size 1 _ _ _ G8.out
   have z2 := cell_of_row _ w.heap.size 2 _ _ _ G8.out
   have z3 := cell_of_row _ w.heap.size 3 _ _ _ G8.out
   have z4 := cell_of_row _ w.heap.size 4 _ _ _ G8.out
   have z5 := cell_of_row _ w.heap.size 5 _ _ _ G8.out
   have z6 := cell_of_row _ w.heap.size 6 _ _ _ G8.out
   have z7 := cell_of_row _ w.heap.size 7 _ _ _ G8.out
   have z8 := cell_of_row _ w.heap.size 8 _ _ _ G8.out
   have z9 := cell_of_row _ w.heap.size 9 _ _ _ G8.out
   have z10 := cell_of_row _ w.heap.size 10 _ _ _ G8.out
   have z11 := cell_of_row _ w.heap.size 11 _ _ _ G8.out
   have z12 := cell_of_row _ w.heap.size 12 _ _ _ G8.out
   simp at z0 z1 z2 z3 z4 z5 z6 z7 z8 z9 z10 z11 z12
   refine bodyPost_ret (v := .tuple #[.agg #[.int .u8 2, .int .i64 0, .int .i64 0, .int .i64 0, .slice none 0 0, .slice none 0 0, .int .i64 (n1 : Nat), .int .i64 (n2 : Nat), .slice ua xs.length uc, .int .i64 n4, .string ⟨#[]⟩, .int .i64 0, .int .i64 0], .int .i64 0]) (by simp [results, Try.results15, go_sem, z0, z1, z2, z3, z4, z5, z6, z7, z8, z9, z10, z11, z12]) rfl ?_
   have eN : dEn l = (⟨2, 0, 0, 0, [], [], (n1 : Int), (n2 : Int), xs, n4, ⟨#[]⟩, 0, 0⟩ : En) := by rw [HEN.out HE.out, HBODY.out]
   refine ⟨.slice none 0 0, .slice none 0 0, .slice ua xs.length uc, by rw [eN, HE.out]; rfl, ?_, G20.out.k.trans K8.out (by intro x hx; simp at hx; exact .inr (by omega)), fun b hb => by simp [Value.ownBlock] at hb, fun b hb => by simp [Value.ownBlock] at hb, fun b hb => by have := (World.ownsRow.lt O20.out b hb).1; omega⟩
   rw [eN]
   exact ⟨RdK.nil _, RdK.nil _, xqM (xqj O20.out K8.out (fun b hb => by have := (World.ownsRow.lt O20.out b hb).1; simp; omega))⟩
  have x9 : (f != 0) = true := by simpa using h0
  have H0 := iH h0
  clear h0
  obtain ⟨g8, k8⟩ := xqi [.int .u8 0, .int .i64 0, .int .i64 0, .int .i64 0, .slice none 0 0, .slice none 0 0, .int .i64 0, .int .i64 0, .slice none 0 0, .int .i64 0, .string ⟨#[]⟩, .int .i64 0, .int .i64 0] B20.out rfl
  have G8 : RowKit.Hid ((((((((((((((w20.setCell ⟨w.heap.size, 0, none⟩ (.int .u8 0)).setCell ⟨w.heap.size, 1, none⟩ (.int .i64 0)).setCell ⟨w.heap.size, 2, none⟩ (.int .i64 0)).setCell ⟨w.heap.size, 3, none⟩ (.int .i64 0)).setCell ⟨w.heap.size, 4, none⟩ (.slice none 0 0)).setCell ⟨w.heap.size, 5, none⟩ (.slice none 0 0)).setCell ⟨w.heap.size, 6, none⟩ (.int .i64 0)).setCell ⟨w.heap.size, 7, none⟩ (.int .i64 0)).setCell ⟨w.heap.size, 8, none⟩ (.slice none 0 0)).setCell ⟨w.heap.size, 9, none⟩ (.int .i64 0)).setCell ⟨w.heap.size, 10, none⟩ (.string ⟨#[]⟩)).setCell ⟨w.heap.size, 11, none⟩ (.int .i64 0)).setCell ⟨w.heap.size, 12, none⟩ (.int .i64 0)).heap[w.heap.size]? = some (.cells #[.int .u8 0, .int .i64 0, .int .i64 0, .int .i64 0, .slice none 0 0, .slice none 0 0, .int .i64 0, .int .i64 0, .slice none 0 0, .int .i64 0, .string ⟨#[]⟩, .int .i64 0, .int .i64 0] 35 (0, 0))) := iH g8
  have K8 : RowKit.Hid (Kept w20 (((((((((((((w20.setCell ⟨w.heap.size, 0, none⟩ (.int .u8 0)).setCell ⟨w.heap.size, 1, none⟩ (.int .i64 0)).setCell ⟨w.heap.size, 2, none⟩ (.int .i64 0)).setCell ⟨w.heap.size, 3, none⟩ (.int .i64 0)).setCell ⟨w.heap.size, 4, none⟩ (.slice none 0 0)).setCell ⟨w.heap.size, 5, none⟩ (.slice none 0 0)).setCell ⟨w.heap.size, 6, none⟩ (.int .i64 0)).setCell ⟨w.heap.size, 7, none⟩ (.int .i64 0)).setCell ⟨w.heap.size, 8, none⟩ (.slice none 0 0)).setCell ⟨w.heap.size, 9, none⟩ (.int .i64 0)).setCell ⟨w.heap.size, 10, none⟩ (.string ⟨#[]⟩)).setCell ⟨w.heap.size, 11, none⟩ (.int .i64 0)).setCell ⟨w.heap.size, 12, none⟩ (.int .i64 0)) [w.heap.size]) := iH k8
  clear g8 k8
  go_wp2
  have z0 := cell_of_row _ w.heap.size 0 _ _ _ G8.out
  have z1 := cell_of_row _ w.heap.size 1 _ _ _ G8.out
  have z2 := cell_of_row _ w.heap.size 2 _ _ _ G8.out
  have z3 := cell_of_row _ w.heap.size 3 _ _ _ G8.out
  have z4 := cell_of_row _ w.heap.size 4 _ _ _ G8.out
  have z5 := cell_of_row _ w.heap.size 5 _ _ _ G8.out
  have z6 := cell_of_row _ w.heap.size 6 _ _ _ G8.out
  have z7 := cell_of_row _ w.heap.size 7 _ _ _ G8.out
  have z8 := cell_of_row _ w.heap.size 8 _ _ _ G8.out
  have z9 := cell_of_row _ w.heap.size 9 _ _ _ G8.out
  have z10 := cell_of_row _ w.heap.size 10 _ _ _ G8.out
  have z11 := cell_of_row _ w.heap.size 11 _ _ _ G8.out
  have z12 := cell_of_row _ w.heap.size 12 _ _ _ G8.out
  simp at z0 z1 z2 z3 z4 z5 z6 z7 z8 z9 z10 z11 z12
  refine bodyPost_ret (v := .tuple #[.agg #[.int .u8 0, .int .i64 0, .int .i64 0, .int .i64 0, .slice none 0 0, .slice none 0 0, .int .i64 0, .int .i64 0, .slice none 0 0, .int .i64 0, .string ⟨#[]⟩, .int .i64 0, .int .i64 0], .int .i64 f]) (by simp [results, Try.results15, go_sem, z0, z1, z2, z3, z4, z5, z6, z7, z8, z9, z10, z11, z12]) rfl ?_
  exact DPost.bad HE.out.symm H0.out (G20.out.k.trans K8.out (by intro x hx; simp at hx; exact .inr (by omega)))
end Go.Proofs.Ytjdbmlifekghfaa
