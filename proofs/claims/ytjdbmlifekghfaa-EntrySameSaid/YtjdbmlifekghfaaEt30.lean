/-
  Epc in one text.
-/
import Derived.Test.YtjdbmlifekghfaaEt0
import Derived.Test.YtjdbmlifekghfaaEt15
import Derived.Test.YtjdbmlifekghfaaEt29
set_option linter.unusedVariables false
set_option maxHeartbeats 16000000
set_option maxRecDepth 100000
namespace Go.Proofs.Ytjdbmlifekghfaa
open Go.RowKit
theorem hd_tl {l : List UInt8} (h : 1 <= l.length) : l = l.getD 0 0 :: l.drop 1 := by
 cases l with
 | nil => simp at h
 | cons b m => rfl
theorem dEr_k {l t : List UInt8} {k : Int} (hl : l = l.getD 0 0 :: t) (hk : k = ((l.getD 0 0).toNat : Int)) : dEr l = if 1 <= k /\ k <= 11 then rEnd (xqO k t).2.2 (xqO k t).2.1 else 2 := by
 rw [hl]
 show (if 1 <= kOf (l.getD 0 0) /\ kOf (l.getD 0 0) <= 11 then _ else _) = _
 rw [show kOf (l.getD 0 0) = k from hk.symm]
theorem dEn_k {l t : List UInt8} {k : Int} (hl : l = l.getD 0 0 :: t) (hk : k = ((l.getD 0 0).toNat : Int)) (h0 : dEr l = 0) : dEn l = (xqO k t).1 := by
 rw [hl] at h0 ⊢
 rw [dEn, if_pos h0, show kOf (l.getD 0 0) = k from hk.symm]
theorem gOps_len (e : Int) (l : List UInt8) : (gOps e l).2.1.length <= l.length := by
 have h1 : (bA e l).2.1.length <= l.length := xqm _ _ _ _
 have h2 := dOps_len (bA e l).1 (bA e l).2.2 (bA e l).2.1
 unfold gOps; omega
theorem gEvs_len (e : Int) (l : List UInt8) : (gEvs e l).2.1.length <= l.length := by
 have h1 : (bA e l).2.1.length <= l.length := xqm _ _ _ _
 have h2 := dEvs_len (bA e l).1 (bA e l).2.2 (bA e l).2.1
 unfold gEvs; omega
theorem rd1 (vb vo vc : Nat) (l : List UInt8) (w : World) (h : Rd w (.slice (some ⟨vb, vo, none⟩) l.length vc) l) (hl1 : 1 <= l.length) (hl : l.length <= 1000000000) (hkl : (1 : Int) = ((l.getD 0 0).toNat : Int)) :
  Calls Try.prog 15 #[.slice (some ⟨vb, vo, none⟩) l.length vc] w fun en w' => DPost l w en w' := by
 have hbl := h.block_lt (by rintro rfl; simp at hl1) vb rfl
 have c0 : w.cell? ⟨vb, vo, none⟩ = some (.int .u8 1) := by
  obtain ⟨a', c', e, _, _, hx⟩ := h
  simp only [Value.slice.injEq] at e
  obtain ⟨rfl, _, rfl⟩ := e
  obtain ⟨b', o', e, hc⟩ := hx (by rintro rfl; simp at hl1)
  simp only [Option.some.injEq, Addr.mk.injEq] at e
  obtain ⟨rfl, rfl, _⟩ := e
  have := hc 0 (by omega)
  rw [Nat.add_zero, <- hkl] at this
  exact this
 have c0a : ∀ ob, (w.alloc ob).cell? ⟨vb, vo, none⟩ = some (.int .u8 1) := fun ob => ((Kept.refl w []).alloc ob).cell (by simp) c0
 clear c0
 have x2 : (l.length : Int) <= (vc : Int) := by obtain ⟨a', c', e, hc, _⟩ := h; simp only [Value.slice.injEq] at e; omega
 have htl := hd_tl hl1
 obtain ⟨t, ht⟩ : ∃ t, t = l.drop 1 := ⟨_, rfl⟩
 rw [<- ht] at htl
 have HER := iH (dEr_k htl hkl); have HEN := iH (dEn_k htl hkl)
 have htl2 : t.length <= 1000000000 := by rw [ht, List.length_drop]; omega
 obtain ⟨W1, hW1⟩ : ∃ W1, W1 = (w.alloc (.cells #[.int .u8 0, .int .i64 0, .int .i64 0, .int .i64 0, .slice none 0 0, .slice none 0 0, .int .i64 0, .int .i64 0, .slice none 0 0, .int .i64 0, .string ⟨#[]⟩, .int .i64 0, .int .i64 0] 35)).alloc (.cells #[.int .u8 1, .int .i64 0, .int .i64 0, .int .i64 0, .slice none 0 0, .slice none 0 0, .int .i64 0, .int .i64 0, .slice none 0 0, .int .i64 0, .string ⟨#[]⟩, .int .i64 0, .int .i64 0] 35) := ⟨_, rfl⟩
 have hz : (w.alloc (.cells #[.int .u8 0, .int .i64 0, .int .i64 0, .int .i64 0, .slice none 0 0, .slice none 0 0, .int .i64 0, .int .i64 0, .slice none 0 0, .int .i64 0, .string ⟨#[]⟩, .int .i64 0, .int .i64 0] 35)).heap.size = w.heap.size + 1 := by simp
 have k1 : Kept w W1 [] := by rw [hW1]; exact ((Kept.refl w []).alloc _).alloc _
 have b1 : W1.heap[w.heap.size + 1]? = some (.cells #[.int .u8 1, .int .i64 0, .int .i64 0, .int .i64 0, .slice none 0 0, .slice none 0 0, .int .i64 0, .int .i64 0, .slice none 0 0, .int .i64 0, .string ⟨#[]⟩, .int .i64 0, .int .i64 0] 35 (0, 0)) := by rw [hW1, <- hz]; exact heap_alloc_new _ _
 have b2 : W1.heap[w.heap.size]? = some (.cells #[.int .u8 0, .int .i64 0, .int .i64 0, .int .i64 0, .slice none 0 0, .slice none 0 0, .int .i64 0, .int .i64 0, .slice none 0 0, .int .i64 0, .string ⟨#[]⟩, .int .i64 0, .int .i64 0] 35 (0, 0)) := by rw [hW1]; exact ((Kept.refl _ []).alloc _).heap (by simp) (heap_alloc_new w _)
 have hzW : W1.heap.size = w.heap.size + 2 := by rw [hW1]; simp
 have rd1 := (h.kept k1 (by simp)).sub1 hl1
 rw [<- ht] at rd1
 have HT := iH htl2; have B1 := iH b1; have B2 := iH b2; have K1 := iH k1; have HZ := iH hzW; have HBL := iH hbl
 have hn0 : ((l.length : Int) == 0) = false := by rw [beq_eq_false_iff_ne]; omega
 have x0 : (0 : Int) < (l.length : Int) := by omega
 have x1 : (1 : Int) <= (l.length : Int) := by omega
 clear h hl htl ht htl2 b1 b2 k1 hzW hz hkl hbl
 go_enter Try.func15, Try.ntmps15
 go_upto_region 4 with fail
 rw [<- hW1]
 clear hW1 c0a
 go_cut [5, 18, 19, 20] (fun s5 s18 s19 s20 wx => ∃ (W2 : World) (xa : Option Addr) (xn xc : Nat), W2 = wx /\ s5 = .pointer (some ⟨w.heap.size + 2, 0, none⟩) /\ RowKit.Hid (Gz w (w.heap.size + 2) (w.heap.size + 1) 35 (.slice xa xn xc) 0 t #[.int .u8 1, .int .i64 0, .int .i64 0, .int .i64 0, .slice none 0 0, .slice none 0 0, .int .i64 0, .int .i64 0, .slice none 0 0, .int .i64 0, .string ⟨#[]⟩, .int .i64 0, .int .i64 0] W2) /\ RowKit.Hid (W2.heap[w.heap.size]? = some (.cells #[.int .u8 0, .int .i64 0, .int .i64 0, .int .i64 0, .slice none 0 0, .slice none 0 0, .int .i64 0, .int .i64 0, .slice none 0 0, .int .i64 0, .string ⟨#[]⟩, .int .i64 0, .int .i64 0] 35 (0, 0))))
 case first =>
  by_cases hc : vc = 1
  ·rw [if_pos hc] at rd1
   subst hc
   obtain ⟨W2, hW2⟩ : ∃ W2, W2 = W1.alloc (.cells #[.slice (some ⟨vb, vo, none⟩) (l.length - 1) 0, .int .i64 0] 95) := ⟨_, rfl⟩
   have k2 : Kept W1 W2 [] := by rw [hW2]; exact (Kept.refl W1 []).alloc _
   have G := iH (show Gz w (w.heap.size + 2) (w.heap.size + 1) 35 (.slice (some ⟨vb, vo, none⟩) (l.length - 1) 0) 0 t #[.int .u8 1, .int .i64 0, .int .i64 0, .int .i64 0, .slice none 0 0, .slice none 0 0, .int .i64 0, .int .i64 0, .slice none 0 0, .int .i64 0, .string ⟨#[]⟩, .int .i64 0, .int .i64 0] W2 from ⟨rd1.kept k2 (by simp), by rw [hW2, <- HZ.out]; exact heap_alloc_new W1 _, k2.heap (by simp) B1.out, K1.out.trans k2 (by simp), by have := HT.out; omega, by omega, by omega, fun _ b hb => by simp only [Value.ownBlock, Option.some.injEq] at hb; subst hb; exact HBL.out⟩)
   have B3 := iH (k2.heap (by simp) B2.out)
   have hz2 : W1.heap.size = w.heap.size + 2 := HZ.out
   clear rd1 k2
   go_wp2_with fail
   go_meet
   exact ⟨W2, _, _, _, hW2, rfl, G, B3⟩
  rw [if_neg hc] at rd1
  obtain ⟨W2, hW2⟩ : ∃ W2, W2 = W1.alloc (.cells #[.slice (some ⟨vb, vo + 1, none⟩) (l.length - 1) (vc - 1), .int .i64 0] 95) := ⟨_, rfl⟩
  have k2 : Kept W1 W2 [] := by rw [hW2]; exact (Kept.refl W1 []).alloc _
  have G := iH (show Gz w (w.heap.size + 2) (w.heap.size + 1) 35 (.slice (some ⟨vb, vo + 1, none⟩) (l.length - 1) (vc - 1)) 0 t #[.int .u8 1, .int .i64 0, .int .i64 0, .int .i64 0, .slice none 0 0, .slice none 0 0, .int .i64 0, .int .i64 0, .slice none 0 0, .int .i64 0, .string ⟨#[]⟩, .int .i64 0, .int .i64 0] W2 from ⟨rd1.kept k2 (by simp), by rw [hW2, <- HZ.out]; exact heap_alloc_new W1 _, k2.heap (by simp) B1.out, K1.out.trans k2 (by simp), by have := HT.out; omega, by omega, by omega, fun _ b hb => by simp only [Value.ownBlock, Option.some.injEq] at hb; subst hb; exact HBL.out⟩)
  have B3 := iH (k2.heap (by simp) B2.out)
  have hz2 : W1.heap.size = w.heap.size + 2 := HZ.out
  clear rd1 k2
  go_wp2_with fail
  go_meet
  exact ⟨W2, _, _, _, hW2, rfl, G, B3⟩
 case rest =>
  obtain ⟨W2, xa, xn, xc, hW2, rfl, G1, B3⟩ := hcut
  subst hW2
  clear rd1 x0 x1 x2 hn0
  obtain ⟨q, hq⟩ : ∃ q, q = w.heap.size + 2 := ⟨_, rfl⟩
  have R1 := iH (Kept.refl W2 [w.heap.size + 2, w.heap.size + 1])
  clear hq
  have ck := (G1.out.cells 0).1
  simp at ck
  obtain ⟨n1, l1, e1, hs1⟩ : ∃ a b c, wA 0 t = (a, b, c) := ⟨_, _, _, rfl⟩
  have LN1 : RowKit.Hid (l1.length <= t.length) := iH (by have h1 : (wA 0 t).2.1.length <= t.length := xqm _ _ _ _; rw [hs1] at h1; exact h1)
  have HS1 := iH hs1
  clear hs1
  obtain ⟨q0, q1, _, _⟩ := G1.out.rcell
  go_wp2_with fail
  refine (xqq _ 0 t _ G1.out.rd G1.out.len).mono ?_
  rw [HS1.out]
  rintro en w2 ⟨v2, rfl, g, k, b⟩
  obtain ⟨va2, vn2, vc2, hv⟩ := g.shape3
  subst hv
  obtain ⟨u0, u1, f0, f1⟩ := (G1.out.keep k).rcell
  obtain ⟨x9, y9⟩ := (G1.out.keep k).cells 1; obtain ⟨c9, _⟩ := (G1.out.keep k).cells 0
  simp at x9 c9
  have G2 := iH (G1.out.both (e' := e1) g k b LN1.out 1 (.int .i64 (n1 : Nat)))
  simp only [List.setIfInBounds_toArray, List.set_cons_zero, List.set_cons_succ] at G2
  have kst : Kept w2 (((w2.setCell ⟨w.heap.size + 1, 1, none⟩ (.int .i64 (n1 : Nat))).setCell ⟨w.heap.size + 2, 0, none⟩ (.slice va2 vn2 vc2)).setCell ⟨w.heap.size + 2, 1, none⟩ (.int .i64 e1)) [w.heap.size + 2, w.heap.size + 1] := (((Kept.refl w2 _).setCell (p := ⟨w.heap.size + 1, 1, none⟩) (.inl (by simp)) (.int .i64 (n1 : Nat))).setCell (p := ⟨w.heap.size + 2, 0, none⟩) (.inl (by simp)) (.slice va2 vn2 vc2)).setCell (p := ⟨w.heap.size + 2, 1, none⟩) (.inl (by simp)) (.int .i64 e1)
  have R2 := iH ((R1.out.trans k (by simp)).trans kst (fun x hx => .inl hx))
  clear g k b q0 q1 kst
  obtain ⟨n2, l2, e2, hs2⟩ : ∃ a b c, wA e1 l1 = (a, b, c) := ⟨_, _, _, rfl⟩
  have LN2 : RowKit.Hid (l2.length <= l1.length) := iH (by have h1 : (wA e1 l1).2.1.length <= l1.length := xqm _ _ _ _; rw [hs2] at h1; exact h1)
  have HS2 := iH hs2
  clear hs2
  obtain ⟨q0, q1, _, _⟩ := G2.out.rcell
  go_wp2_with fail
  refine (xqq _ e1 l1 _ G2.out.rd G2.out.len).mono ?_
  rw [HS2.out]
  rintro en w3 ⟨v3, rfl, g, k, b⟩
  obtain ⟨va3, vn3, vc3, hv⟩ := g.shape3
  subst hv
  obtain ⟨u0, u1, f0, f1⟩ := (G2.out.keep k).rcell
  obtain ⟨x9, y9⟩ := (G2.out.keep k).cells 2; obtain ⟨c9, _⟩ := (G2.out.keep k).cells 0
  simp at x9 c9
  have G3 := iH (G2.out.both (e' := e2) g k b LN2.out 2 (.int .i64 (n2 : Nat)))
  simp only [List.setIfInBounds_toArray, List.set_cons_zero, List.set_cons_succ] at G3
  have kst : Kept w3 (((w3.setCell ⟨w.heap.size + 1, 2, none⟩ (.int .i64 (n2 : Nat))).setCell ⟨w.heap.size + 2, 0, none⟩ (.slice va3 vn3 vc3)).setCell ⟨w.heap.size + 2, 1, none⟩ (.int .i64 e2)) [w.heap.size + 2, w.heap.size + 1] := (((Kept.refl w3 _).setCell (p := ⟨w.heap.size + 1, 2, none⟩) (.inl (by simp)) (.int .i64 (n2 : Nat))).setCell (p := ⟨w.heap.size + 2, 0, none⟩) (.inl (by simp)) (.slice va3 vn3 vc3)).setCell (p := ⟨w.heap.size + 2, 1, none⟩) (.inl (by simp)) (.int .i64 e2)
  have R3 := iH ((R2.out.trans k (by simp)).trans kst (fun x hx => .inl hx))
  clear g k b q0 q1 kst
  obtain ⟨n3, l3, e3, hs3⟩ : ∃ a b c, wA e2 l2 = (a, b, c) := ⟨_, _, _, rfl⟩
  have LN3 : RowKit.Hid (l3.length <= l2.length) := iH (by have h1 : (wA e2 l2).2.1.length <= l2.length := xqm _ _ _ _; rw [hs3] at h1; exact h1)
  have HS3 := iH hs3
  clear hs3
  obtain ⟨q0, q1, _, _⟩ := G3.out.rcell
  go_wp2_with fail
  refine (xqq _ e2 l2 _ G3.out.rd G3.out.len).mono ?_
  rw [HS3.out]
  rintro en w4 ⟨v4, rfl, g, k, b⟩
  obtain ⟨va4, vn4, vc4, hv⟩ := g.shape3
  subst hv
  obtain ⟨u0, u1, f0, f1⟩ := (G3.out.keep k).rcell
  obtain ⟨x9, y9⟩ := (G3.out.keep k).cells 3; obtain ⟨c9, _⟩ := (G3.out.keep k).cells 0
  simp at x9 c9
  have G4 := iH (G3.out.both (e' := e3) g k b LN3.out 3 (.int .i64 (n3 : Nat)))
  simp only [List.setIfInBounds_toArray, List.set_cons_zero, List.set_cons_succ] at G4
  have kst : Kept w4 (((w4.setCell ⟨w.heap.size + 1, 3, none⟩ (.int .i64 (n3 : Nat))).setCell ⟨w.heap.size + 2, 0, none⟩ (.slice va4 vn4 vc4)).setCell ⟨w.heap.size + 2, 1, none⟩ (.int .i64 e3)) [w.heap.size + 2, w.heap.size + 1] := (((Kept.refl w4 _).setCell (p := ⟨w.heap.size + 1, 3, none⟩) (.inl (by simp)) (.int .i64 (n3 : Nat))).setCell (p := ⟨w.heap.size + 2, 0, none⟩) (.inl (by simp)) (.slice va4 vn4 vc4)).setCell (p := ⟨w.heap.size + 2, 1, none⟩) (.inl (by simp)) (.int .i64 e3)
  have R4 := iH ((R3.out.trans k (by simp)).trans kst (fun x hx => .inl hx))
  clear g k b q0 q1 kst
  obtain ⟨L4, l4, e4, hs4⟩ : ∃ a b c, gOps e3 l3 = (a, b, c) := ⟨_, _, _, rfl⟩
  have LN4 : RowKit.Hid (l4.length <= l3.length) := iH (by have h1 := gOps_len e3 l3; rw [hs4] at h1; exact h1)
  have HS4 := iH hs4
  clear hs4
  obtain ⟨q0, q1, _, _⟩ := G4.out.rcell
  go_wp2_with fail
  refine (rgetOps_any _ e3 l3 _ G4.out.rd (by have := HT.out; have := LN1.out; have := LN2.out; have := LN3.out; omega)).mono ?_
  rw [HS4.out]
  rintro en w5 ⟨lv, ⟨v5, rfl, g, k, b⟩, ow⟩
  obtain ⟨ua4, uc4, e9⟩ := ow.shape
  subst e9
  obtain ⟨va5, vn5, vc5, hv⟩ := g.shape3
  subst hv
  obtain ⟨u0, u1, f0, f1⟩ := (G4.out.keep k).rcell
  obtain ⟨x9, y9⟩ := (G4.out.keep k).cells 4; obtain ⟨c9, _⟩ := (G4.out.keep k).cells 0
  simp at x9 c9
  have G5 := iH (G4.out.both (e' := e4) g k b LN4.out 4 (.slice ua4 L4.length uc4))
  simp only [List.setIfInBounds_toArray, List.set_cons_zero, List.set_cons_succ] at G5
  have kst : Kept w5 (((w5.setCell ⟨w.heap.size + 1, 4, none⟩ (.slice ua4 L4.length uc4)).setCell ⟨w.heap.size + 2, 0, none⟩ (.slice va5 vn5 vc5)).setCell ⟨w.heap.size + 2, 1, none⟩ (.int .i64 e4)) [w.heap.size + 2, w.heap.size + 1] := (((Kept.refl w5 _).setCell (p := ⟨w.heap.size + 1, 4, none⟩) (.inl (by simp)) (.slice ua4 L4.length uc4)).setCell (p := ⟨w.heap.size + 2, 0, none⟩) (.inl (by simp)) (.slice va5 vn5 vc5)).setCell (p := ⟨w.heap.size + 2, 1, none⟩) (.inl (by simp)) (.int .i64 e4)
  have R5 := iH ((R4.out.trans k (by simp)).trans kst (fun x hx => .inl hx))
  have O4 := iH ((ow.mono (base' := w.heap.size + 3) (by have h1 := (Array.getElem?_eq_some_iff.1 G4.out.at_).1; omega)).kept kst (fun b hb => by have h2 := (ow.lt b hb).1; have h1 := (Array.getElem?_eq_some_iff.1 G4.out.at_).1; simp; omega))
  clear ow
  clear g k b q0 q1 kst
  obtain ⟨L5, l5, e5, hs5⟩ : ∃ a b c, gEvs e4 l4 = (a, b, c) := ⟨_, _, _, rfl⟩
  have LN5 : RowKit.Hid (l5.length <= l4.length) := iH (by have h1 := gEvs_len e4 l4; rw [hs5] at h1; exact h1)
  have HS5 := iH hs5
  clear hs5
  obtain ⟨q0, q1, _, _⟩ := G5.out.rcell
  go_wp2_with fail
  refine (rgetEvents_any _ e4 l4 _ G5.out.rd (by have := HT.out; have := LN1.out; have := LN2.out; have := LN3.out; have := LN4.out; omega)).mono ?_
  rw [HS5.out]
  rintro en w6 ⟨lv, ⟨v6, rfl, g, k, b⟩, ow⟩
  obtain ⟨ua5, uc5, e9⟩ := ow.shape
  subst e9
  obtain ⟨va6, vn6, vc6, hv⟩ := g.shape3
  subst hv
  obtain ⟨u0, u1, f0, f1⟩ := (G5.out.keep k).rcell
  obtain ⟨x9, y9⟩ := (G5.out.keep k).cells 5; obtain ⟨c9, _⟩ := (G5.out.keep k).cells 0
  simp at x9 c9
  have G6 := iH (G5.out.both (e' := e5) g k b LN5.out 5 (.slice ua5 L5.length uc5))
  simp only [List.setIfInBounds_toArray, List.set_cons_zero, List.set_cons_succ] at G6
  have kst : Kept w6 (((w6.setCell ⟨w.heap.size + 1, 5, none⟩ (.slice ua5 L5.length uc5)).setCell ⟨w.heap.size + 2, 0, none⟩ (.slice va6 vn6 vc6)).setCell ⟨w.heap.size + 2, 1, none⟩ (.int .i64 e5)) [w.heap.size + 2, w.heap.size + 1] := (((Kept.refl w6 _).setCell (p := ⟨w.heap.size + 1, 5, none⟩) (.inl (by simp)) (.slice ua5 L5.length uc5)).setCell (p := ⟨w.heap.size + 2, 0, none⟩) (.inl (by simp)) (.slice va6 vn6 vc6)).setCell (p := ⟨w.heap.size + 2, 1, none⟩) (.inl (by simp)) (.int .i64 e5)
  have R6 := iH ((R5.out.trans k (by simp)).trans kst (fun x hx => .inl hx))
  have O4 := iH ((O4.out.keep k).kept kst (fun b hb => by have := (O4.out.lt b hb).1; simp; omega))
  have O5 := iH ((ow.mono (base' := w.heap.size + 3) (by have h1 := (Array.getElem?_eq_some_iff.1 G5.out.at_).1; omega)).kept kst (fun b hb => by have h2 := (ow.lt b hb).1; have h1 := (Array.getElem?_eq_some_iff.1 G5.out.at_).1; simp; omega))
  clear ow
  clear g k b q0 q1 kst
  go_upto_region 44 with fail
  obtain ⟨W, hW⟩ : ∃ W, W = ((w6.setCell ⟨w.heap.size + 1, 5, none⟩ (.slice ua5 L5.length uc5)).setCell ⟨w.heap.size + 2, 0, none⟩ (.slice va6 vn6 vc6)).setCell ⟨w.heap.size + 2, 1, none⟩ (.int .i64 e5) := ⟨_, rfl⟩
  rw [<- hW] at G6 R6 O4 O5 ⊢
  clear hW u0 u1 f0 f1 x9 y9 c9 ck
  obtain ⟨q0, q1, _, _⟩ := G6.out.rcell
  go_wp2_with fail
  refine (xqx _ e5 l5 _ G6.out.rd).mono ?_
  rintro en w20 ⟨rfl, k20⟩
  obtain ⟨f, hf⟩ : ∃ f, f = rEnd e5 l5 := ⟨_, rfl⟩
  rw [<- hf]
  have G20 := iH (G6.out.keep k20); have B20 := iH ((R6.out.trans k20 (by simp)).heap (by simp) B3.out)
  have O4 := iH (O4.out.keep k20)
  have O5 := iH (O5.out.keep k20)
  have hBody : xqO 1 t = ((⟨1, (n1 : Int), (n2 : Int), (n3 : Int), L4, L5, 0, 0, [], 0, ⟨#[]⟩, 0, 0⟩ : En), l5, e5) := by
   have h1 : fx1 t = (n1, l1, e1) := HS1.out
   have h2 : fx2 t = (n2, l2, e2) := by rw [fx2, h1]; exact HS2.out
   have h3 : fx3 t = (n3, l3, e3) := by rw [fx3, h2]; exact HS3.out
   have h4 : fx4 t = (L4, l4, e4) := by rw [fx4, h3]; exact HS4.out
   have h5 : fx5 t = (L5, l5, e5) := by rw [fx5, h4]; exact HS5.out
   show (_, _) = _
   rw [h1, h2, h3, h4, h5]
  have hE : dEr l = f := by rw [HER.out, if_pos (by omega), hBody, hf]
  have HE := iH hE; have HBODY := iH hBody
  clear k20 q0 q1 hE hBody hf
  have mm0 := (G20.out.cells 0).1; have nn0 := cell_of_row w20 _ 0 _ _ _ B20.out; have ff0 := frozen_of_row w20 w.heap.size 0 _ _ B20.out
  have mm1 := (G20.out.cells 1).1; have nn1 := cell_of_row w20 _ 1 _ _ _ B20.out; have ff1 := frozen_of_row w20 w.heap.size 1 _ _ B20.out
  have mm2 := (G20.out.cells 2).1; have nn2 := cell_of_row w20 _ 2 _ _ _ B20.out; have ff2 := frozen_of_row w20 w.heap.size 2 _ _ B20.out
  have mm3 := (G20.out.cells 3).1; have nn3 := cell_of_row w20 _ 3 _ _ _ B20.out; have ff3 := frozen_of_row w20 w.heap.size 3 _ _ B20.out
  have mm4 := (G20.out.cells 4).1; have nn4 := cell_of_row w20 _ 4 _ _ _ B20.out; have ff4 := frozen_of_row w20 w.heap.size 4 _ _ B20.out
  have mm5 := (G20.out.cells 5).1; have nn5 := cell_of_row w20 _ 5 _ _ _ B20.out; have ff5 := frozen_of_row w20 w.heap.size 5 _ _ B20.out
  have mm6 := (G20.out.cells 6).1; have nn6 := cell_of_row w20 _ 6 _ _ _ B20.out; have ff6 := frozen_of_row w20 w.heap.size 6 _ _ B20.out
  have mm7 := (G20.out.cells 7).1; have nn7 := cell_of_row w20 _ 7 _ _ _ B20.out; have ff7 := frozen_of_row w20 w.heap.size 7 _ _ B20.out
  have mm8 := (G20.out.cells 8).1; have nn8 := cell_of_row w20 _ 8 _ _ _ B20.out; have ff8 := frozen_of_row w20 w.heap.size 8 _ _ B20.out
  have mm9 := (G20.out.cells 9).1; have nn9 := cell_of_row w20 _ 9 _ _ _ B20.out; have ff9 := frozen_of_row w20 w.heap.size 9 _ _ B20.out
  have mm10 := (G20.out.cells 10).1; have nn10 := cell_of_row w20 _ 10 _ _ _ B20.out; have ff10 := frozen_of_row w20 w.heap.size 10 _ _ B20.out
  have mm11 := (G20.out.cells 11).1; have nn11 := cell_of_row w20 _ 11 _ _ _ B20.out; have ff11 := frozen_of_row w20 w.heap.size 11 _ _ B20.out
  have mm12 := (G20.out.cells 12).1; have nn12 := cell_of_row w20 _ 12 _ _ _ B20.out; have ff12 := frozen_of_row w20 w.heap.size 12 _ _ B20.out
  simp at mm0 nn0 mm1 nn1 mm2 nn2 mm3 nn3 mm4 nn4 mm5 nn5 mm6 nn6 mm7 nn7 mm8 nn8 mm9 nn9 mm10 nn10 mm11 nn11 mm12 nn12
  by_cases h0 : f = 0
  ·subst h0
   obtain ⟨g8, k8⟩ := xqi [.int .u8 1, .int .i64 (n1 : Nat), .int .i64 (n2 : Nat), .int .i64 (n3 : Nat), .slice ua4 L4.length uc4, .slice ua5 L5.length uc5, .int .i64 0, .int .i64 0, .slice none 0 0, .int .i64 0, .string ⟨#[]⟩, .int .i64 0, .int .i64 0] B20.out rfl
   have G8 : RowKit.Hid ((((((((((((((w20.setCell ⟨w.heap.size, 0, none⟩ (.int .u8 1)).setCell ⟨w.heap.size, 1, none⟩ (.int .i64 (n1 : Nat))).setCell ⟨w.heap.size, 2, none⟩ (.int .i64 (n2 : Nat))).setCell ⟨w.heap.size, 3, none⟩ (.int .i64 (n3 : Nat))).setCell ⟨w.heap.size, 4, none⟩ (.slice ua4 L4.length uc4)).setCell ⟨w.heap.size, 5, none⟩ (.slice ua5 L5.length uc5)).setCell ⟨w.heap.size, 6, none⟩ (.int .i64 0)).setCell ⟨w.heap.size, 7, none⟩ (.int .i64 0)).setCell ⟨w.heap.size, 8, none⟩ (.slice none 0 0)).setCell ⟨w.heap.size, 9, none⟩ (.int .i64 0)).setCell ⟨w.heap.size, 10, none⟩ (.string ⟨#[]⟩)).setCell ⟨w.heap.size, 11, none⟩ (.int .i64 0)).setCell ⟨w.heap.size, 12, none⟩ (.int .i64 0)).heap[w.heap.size]? = some (.cells #[.int .u8 1, .int .i64 (n1 : Nat), .int .i64 (n2 : Nat), .int .i64 (n3 : Nat), .slice ua4 L4.length uc4, .slice ua5 L5.length uc5, .int .i64 0, .int .i64 0, .slice none 0 0, .int .i64 0, .string ⟨#[]⟩, .int .i64 0, .int .i64 0] 35 (0, 0))) := iH g8
   have K8 : RowKit.Hid (Kept w20 (((((((((((((w20.setCell ⟨w.heap.size, 0, none⟩ (.int .u8 1)).setCell ⟨w.heap.size, 1, none⟩ (.int .i64 (n1 : Nat))).setCell ⟨w.heap.size, 2, none⟩ (.int .i64 (n2 : Nat))).setCell ⟨w.heap.size, 3, none⟩ (.int .i64 (n3 : Nat))).setCell ⟨w.heap.size, 4, none⟩ (.slice ua4 L4.length uc4)).setCell ⟨w.heap.size, 5, none⟩ (.slice ua5 L5.length uc5)).setCell ⟨w.heap.size, 6, none⟩ (.int .i64 0)).setCell ⟨w.heap.size, 7, none⟩ (.int .i64 0)).setCell ⟨w.heap.size, 8, none⟩ (.slice none 0 0)).setCell ⟨w.heap.size, 9, none⟩ (.int .i64 0)).setCell ⟨w.heap.size, 10, none⟩ (.string ⟨#[]⟩)).setCell ⟨w.heap.size, 11, none⟩ (.int .i64 0)).setCell ⟨w.heap.size, 12, none⟩ (.int .i64 0)) [w.heap.size]) := iH k8
   clear g8 k8
   go_wp2
   have z0 := cell_of_row _ w.heap.size 0 _ _ _ G8.out
   have z1 := cell_of_row _ w.heap.size 1 _ _ _ G8.out
   have z2 := cell_of_row _ w.heap.size 2 _ _ _ G8.out
   have z3 := cell_of_row _ w.heap.size 3 _ _ _ G8.out
   have z4 := cell_of_row _ w.heap.size 4 _ _ _ G8.out
   have z5 := cell_of_row _ w.heap.size 5 _ _ _ G8.out
   have z6 := cell_of_row _ w.heap.size 6 _ _ _ G8.out
   have z7 := cell_of_row _ w.heap.size 7 _ _ _ G8.out
   have z8 := cell_of_row _ w.heap.size 8 _ _ _ G8.out
   have z9 := cell_of_row _ w.heap.size 9 _ _ _ G8.out
   have z10 := cell_of_row _ w.heap.size 10 _ _ _ G8.out
   have z11 := cell_of_row _ w.heap.size 11 _ _ _ G8.out
   have z12 := cell_of_row _ w.heap.size 12 _ _ _ G8.out
   simp at z0 z1 z2 z3 z4 z5 z6 z7 z8 z9 z10 z11 z12
   refine bodyPost_ret (v := .tuple #[.agg #[.int .u8 1, .int .i64 (n1 : Nat), .int .i64 (n2 : Nat), .int .i64 (n3 : Nat), .slice ua4 L4.length uc4, .slice ua5 L5.length uc5, .int .i64 0, .int .i64 0, .slice none 0 0, .int .i64 0, .string ⟨#[]⟩, .int .i64 0, .int .i64 0], .int .i64 0]) (by simp [results, Try.results15, go_sem, z0, z1, z2, z3, z4, z5, z6, z7, z8, z9, z10, z11, z12]) rfl ?_
   have eN : dEn l = (⟨1, (n1 : Int), (n2 : Int), (n3 : Int), L4, L5, 0, 0, [], 0, ⟨#[]⟩, 0, 0⟩ : En) := by rw [HEN.out HE.out, HBODY.out]
   refine ⟨.slice ua4 L4.length uc4, .slice ua5 L5.length uc5, .slice none 0 0, by rw [eN, HE.out]; rfl, ?_, G20.out.k.trans K8.out (by intro x hx; simp at hx; exact .inr (by omega)), fun b hb => by have := (O4.out.lt b hb).1; omega, fun b hb => by have := (O5.out.lt b hb).1; omega, fun b hb => by simp [Value.ownBlock] at hb⟩
   rw [eN]
   exact ⟨(O4.out.kept K8.out (fun b hb => by have := (O4.out.lt b hb).1; simp; omega)).rd, (O5.out.kept K8.out (fun b hb => by have := (O5.out.lt b hb).1; simp; omega)).rd, RdI.nil _⟩
  have x9 : (f != 0) = true := by simpa using h0
  have H0 := iH h0
  clear h0
  obtain ⟨g8, k8⟩ := xqi [.int .u8 0, .int .i64 0, .int .i64 0, .int .i64 0, .slice none 0 0, .slice none 0 0, .int .i64 0, .int .i64 0, .slice none 0 0, .int .i64 0, .string ⟨#[]⟩, .int .i64 0, .int .i64 0] B20.out rfl
  have G8 : RowKit.Hid ((((((((((((((w20.setCell ⟨w.heap.size, 0, none⟩ (.int .u8 0)).setCell ⟨w.heap.size, 1, none⟩ (.int .i64 0)).setCell ⟨w.heap.size, 2, none⟩ (.int .i64 0)).setCell ⟨w.heap.size, 3, none⟩ (.int .i64 0)).setCell ⟨w.heap.size, 4, none⟩ (.slice none 0 0)).setCell ⟨w.heap.size, 5, none⟩ (.slice none 0 0)).setCell ⟨w.heap.size, 6, none⟩ (.int .i64 0)).setCell ⟨w.heap.size, 7, none⟩ (.int .i64 0)).setCell ⟨w.heap.size, 8, none⟩ (.slice none 0 0)).setCell ⟨w.heap.size, 9, none⟩ (.int .i64 0)).setCell ⟨w.heap.size, 10, none⟩ (.string ⟨#[]⟩)).setCell ⟨w.heap.size, 11, none⟩ (.int .i64 0)).setCell ⟨w.heap.size, 12, none⟩ (.int .i64 0)).heap[w.heap.size]? = some (.cells #[.int .u8 0, .int .i64 0, .int .i64 0, .int .i64 0, .slice none 0 0, .slice none 0 0, .int .i64 0, .int .i64 0, .slice none 0 0, .int .i64 0, .string ⟨#[]⟩, .int .i64 0, .int .i64 0] 35 (0, 0))) := iH g8
  have K8 : RowKit.Hid (Kept w20 (((((((((((((w20.setCell ⟨w.heap.size, 0, none⟩ (.int .u8 0)).setCell ⟨w.heap.size, 1, none⟩ (.int .i64 0)).setCell ⟨w.heap.size, 2, none⟩ (.int .i64 0)).setCell ⟨w.heap.size, 3, none⟩ (.int .i64 0)).setCell ⟨w.heap.size, 4, none⟩ (.slice none 0 0)).setCell ⟨w.heap.size, 5, none⟩ (.slice none 0 0)).setCell ⟨w.heap.size, 6, none⟩ (.int .i64 0)).setCell ⟨w.heap.size, 7, none⟩ (.int .i64 0)).setCell ⟨w.heap.size, 8, none⟩ (.slice none 0 0)).setCell ⟨w.heap.size, 9, none⟩ (.int .i64 0)).setCell ⟨w.heap.size, 10, none⟩ (.string ⟨#[]⟩)).setCell ⟨w.heap.size, 11, none⟩ (.int .i64 0)).setCell ⟨w.heap.size, 12, none⟩ (.int .i64 0)) [w.heap.size]) := iH k8
  clear g8 k8
  go_wp2
  have z0 := cell_of_row _ w.heap.size 0 _ _ _ G8.out
  have z1 := cell_of_row _ w.heap.size 1 _ _ _ G8.out
  have z2 := cell_of_row _ w.heap.size 2 _ _ _ G8.out
  have z3 := cell_of_row _ w.heap.size 3 _ _ _ G8.out
  have z4 := cell_of_row _ w.heap.size 4 _ _ _ G8.out
  have z5 := cell_of_row _ w.heap.size 5 _ _ _ G8.out
  have z6 := cell_of_row _ w.heap.size 6 _ _ _ G8.out
  have z7 := cell_of_row _ w.heap.size 7 _ _ _ G8.out
  have z8 := cell_of_row _ w.heap.size 8 _ _ _ G8.out
  have z9 := cell_of_row _ w.heap.size 9 _ _ _ G8.out
  have z10 := cell_of_row _ w.heap.size 10 _ _ _ G8.out
  have z11 := cell_of_row _ w.heap.size 11 _ _ _ G8.out
  have z12 := cell_of_row _ w.heap.size 12 _ _ _ G8.out
  simp at z0 z1 z2 z3 z4 z5 z6 z7 z8 z9 z10 z11 z12
  refine bodyPost_ret (v := .tuple #[.agg #[.int .u8 0, .int .i64 0, .int .i64 0, .int .i64 0, .slice none 0 0, .slice none 0 0, .int .i64 0, .int .i64 0, .slice none 0 0, .int .i64 0, .string ⟨#[]⟩, .int .i64 0, .int .i64 0], .int .i64 f]) (by simp [results, Try.results15, go_sem, z0, z1, z2, z3, z4, z5, z6, z7, z8, z9, z10, z11, z12]) rfl ?_
  exact DPost.bad HE.out.symm H0.out (G20.out.k.trans K8.out (by intro x hx; simp at hx; exact .inr (by omega)))
theorem rd8 (vb vo vc : Nat) (l : List UInt8) (w : World) (h : Rd w (.slice (some ⟨vb, vo, none⟩) l.length vc) l) (hl1 : 1 <= l.length) (hl : l.length <= 1000000000) (hkl : (8 : Int) = ((l.getD 0 0).toNat : Int)) :
  Calls Try.prog 15 #[.slice (some ⟨vb, vo, none⟩) l.length vc] w fun en w' => DPost l w en w' := by
 have hbl := h.block_lt (by rintro rfl; simp at hl1) vb rfl
 have c0 : w.cell? ⟨vb, vo, none⟩ = some (.int .u8 8) := by
  obtain ⟨a', c', e, _, _, hx⟩ := h
  simp only [Value.slice.injEq] at e
  obtain ⟨rfl, _, rfl⟩ := e
  obtain ⟨b', o', e, hc⟩ := hx (by rintro rfl; simp at hl1)
  simp only [Option.some.injEq, Addr.mk.injEq] at e
  obtain ⟨rfl, rfl, _⟩ := e
  have := hc 0 (by omega)
  rw [Nat.add_zero, <- hkl] at this
  exact this
 have c0a : ∀ ob, (w.alloc ob).cell? ⟨vb, vo, none⟩ = some (.int .u8 8) := fun ob => ((Kept.refl w []).alloc ob).cell (by simp) c0
 clear c0
 have x2 : (l.length : Int) <= (vc : Int) := by obtain ⟨a', c', e, hc, _⟩ := h; simp only [Value.slice.injEq] at e; omega
 have htl := hd_tl hl1
 obtain ⟨t, ht⟩ : ∃ t, t = l.drop 1 := ⟨_, rfl⟩
 rw [<- ht] at htl
 have HER := iH (dEr_k htl hkl); have HEN := iH (dEn_k htl hkl)
 have htl2 : t.length <= 1000000000 := by rw [ht, List.length_drop]; omega
 obtain ⟨W1, hW1⟩ : ∃ W1, W1 = (w.alloc (.cells #[.int .u8 0, .int .i64 0, .int .i64 0, .int .i64 0, .slice none 0 0, .slice none 0 0, .int .i64 0, .int .i64 0, .slice none 0 0, .int .i64 0, .string ⟨#[]⟩, .int .i64 0, .int .i64 0] 35)).alloc (.cells #[.int .u8 8, .int .i64 0, .int .i64 0, .int .i64 0, .slice none 0 0, .slice none 0 0, .int .i64 0, .int .i64 0, .slice none 0 0, .int .i64 0, .string ⟨#[]⟩, .int .i64 0, .int .i64 0] 35) := ⟨_, rfl⟩
 have hz : (w.alloc (.cells #[.int .u8 0, .int .i64 0, .int .i64 0, .int .i64 0, .slice none 0 0, .slice none 0 0, .int .i64 0, .int .i64 0, .slice none 0 0, .int .i64 0, .string ⟨#[]⟩, .int .i64 0, .int .i64 0] 35)).heap.size = w.heap.size + 1 := by simp
 have k1 : Kept w W1 [] := by rw [hW1]; exact ((Kept.refl w []).alloc _).alloc _
 have b1 : W1.heap[w.heap.size + 1]? = some (.cells #[.int .u8 8, .int .i64 0, .int .i64 0, .int .i64 0, .slice none 0 0, .slice none 0 0, .int .i64 0, .int .i64 0, .slice none 0 0, .int .i64 0, .string ⟨#[]⟩, .int .i64 0, .int .i64 0] 35 (0, 0)) := by rw [hW1, <- hz]; exact heap_alloc_new _ _
 have b2 : W1.heap[w.heap.size]? = some (.cells #[.int .u8 0, .int .i64 0, .int .i64 0, .int .i64 0, .slice none 0 0, .slice none 0 0, .int .i64 0, .int .i64 0, .slice none 0 0, .int .i64 0, .string ⟨#[]⟩, .int .i64 0, .int .i64 0] 35 (0, 0)) := by rw [hW1]; exact ((Kept.refl _ []).alloc _).heap (by simp) (heap_alloc_new w _)
 have hzW : W1.heap.size = w.heap.size + 2 := by rw [hW1]; simp
 have rd1 := (h.kept k1 (by simp)).sub1 hl1
 rw [<- ht] at rd1
 have HT := iH htl2; have B1 := iH b1; have B2 := iH b2; have K1 := iH k1; have HZ := iH hzW; have HBL := iH hbl
 have hn0 : ((l.length : Int) == 0) = false := by rw [beq_eq_false_iff_ne]; omega
 have x0 : (0 : Int) < (l.length : Int) := by omega
 have x1 : (1 : Int) <= (l.length : Int) := by omega
 clear h hl htl ht htl2 b1 b2 k1 hzW hz hkl hbl
 go_enter Try.func15, Try.ntmps15
 go_upto_region 4 with fail
 rw [<- hW1]
 clear hW1 c0a
 go_cut [5, 18, 19, 20] (fun s5 s18 s19 s20 wx => ∃ (W2 : World) (xa : Option Addr) (xn xc : Nat), W2 = wx /\ s5 = .pointer (some ⟨w.heap.size + 2, 0, none⟩) /\ RowKit.Hid (Gz w (w.heap.size + 2) (w.heap.size + 1) 35 (.slice xa xn xc) 0 t #[.int .u8 8, .int .i64 0, .int .i64 0, .int .i64 0, .slice none 0 0, .slice none 0 0, .int .i64 0, .int .i64 0, .slice none 0 0, .int .i64 0, .string ⟨#[]⟩, .int .i64 0, .int .i64 0] W2) /\ RowKit.Hid (W2.heap[w.heap.size]? = some (.cells #[.int .u8 0, .int .i64 0, .int .i64 0, .int .i64 0, .slice none 0 0, .slice none 0 0, .int .i64 0, .int .i64 0, .slice none 0 0, .int .i64 0, .string ⟨#[]⟩, .int .i64 0, .int .i64 0] 35 (0, 0))))
 case first =>
  by_cases hc : vc = 1
  ·rw [if_pos hc] at rd1
   subst hc
   obtain ⟨W2, hW2⟩ : ∃ W2, W2 = W1.alloc (.cells #[.slice (some ⟨vb, vo, none⟩) (l.length - 1) 0, .int .i64 0] 95) := ⟨_, rfl⟩
   have k2 : Kept W1 W2 [] := by rw [hW2]; exact (Kept.refl W1 []).alloc _
   have G := iH (show Gz w (w.heap.size + 2) (w.heap.size + 1) 35 (.slice (some ⟨vb, vo, none⟩) (l.length - 1) 0) 0 t #[.int .u8 8, .int .i64 0, .int .i64 0, .int .i64 0, .slice none 0 0, .slice none 0 0, .int .i64 0, .int .i64 0, .slice none 0 0, .int .i64 0, .string ⟨#[]⟩, .int .i64 0, .int .i64 0] W2 from ⟨rd1.kept k2 (by simp), by rw [hW2, <- HZ.out]; exact heap_alloc_new W1 _, k2.heap (by simp) B1.out, K1.out.trans k2 (by simp), by have := HT.out; omega, by omega, by omega, fun _ b hb => by simp only [Value.ownBlock, Option.some.injEq] at hb; subst hb; exact HBL.out⟩)
   have B3 := iH (k2.heap (by simp) B2.out)
   have hz2 : W1.heap.size = w.heap.size + 2 := HZ.out
   clear rd1 k2
   go_wp2_with fail
   go_meet
   exact ⟨W2, _, _, _, hW2, rfl, G, B3⟩
  rw [if_neg hc] at rd1
  obtain ⟨W2, hW2⟩ : ∃ W2, W2 = W1.alloc (.cells #[.slice (some ⟨vb, vo + 1, none⟩) (l.length - 1) (vc - 1), .int .i64 0] 95) := ⟨_, rfl⟩
  have k2 : Kept W1 W2 [] := by rw [hW2]; exact (Kept.refl W1 []).alloc _
  have G := iH (show Gz w (w.heap.size + 2) (w.heap.size + 1) 35 (.slice (some ⟨vb, vo + 1, none⟩) (l.length - 1) (vc - 1)) 0 t #[.int .u8 8, .int .i64 0, .int .i64 0, .int .i64 0, .slice none 0 0, .slice none 0 0, .int .i64 0, .int .i64 0, .slice none 0 0, .int .i64 0, .string ⟨#[]⟩, .int .i64 0, .int .i64 0] W2 from ⟨rd1.kept k2 (by simp), by rw [hW2, <- HZ.out]; exact heap_alloc_new W1 _, k2.heap (by simp) B1.out, K1.out.trans k2 (by simp), by have := HT.out; omega, by omega, by omega, fun _ b hb => by simp only [Value.ownBlock, Option.some.injEq] at hb; subst hb; exact HBL.out⟩)
  have B3 := iH (k2.heap (by simp) B2.out)
  have hz2 : W1.heap.size = w.heap.size + 2 := HZ.out
  clear rd1 k2
  go_wp2_with fail
  go_meet
  exact ⟨W2, _, _, _, hW2, rfl, G, B3⟩
 case rest =>
  obtain ⟨W2, xa, xn, xc, hW2, rfl, G1, B3⟩ := hcut
  subst hW2
  clear rd1 x0 x1 x2 hn0
  obtain ⟨q, hq⟩ : ∃ q, q = w.heap.size + 2 := ⟨_, rfl⟩
  have R1 := iH (Kept.refl W2 [w.heap.size + 2, w.heap.size + 1])
  clear hq
  have ck := (G1.out.cells 0).1
  simp at ck
  obtain ⟨n1, l1, e1, hs1⟩ : ∃ a b c, wA 0 t = (a, b, c) := ⟨_, _, _, rfl⟩
  have LN1 : RowKit.Hid (l1.length <= t.length) := iH (by have h1 : (wA 0 t).2.1.length <= t.length := xqm _ _ _ _; rw [hs1] at h1; exact h1)
  have HS1 := iH hs1
  clear hs1
  obtain ⟨q0, q1, _, _⟩ := G1.out.rcell
  go_wp2_with fail
  refine (xqq _ 0 t _ G1.out.rd G1.out.len).mono ?_
  rw [HS1.out]
  rintro en w2 ⟨v2, rfl, g, k, b⟩
  obtain ⟨va2, vn2, vc2, hv⟩ := g.shape3
  subst hv
  obtain ⟨u0, u1, f0, f1⟩ := (G1.out.keep k).rcell
  obtain ⟨x9, y9⟩ := (G1.out.keep k).cells 1; obtain ⟨c9, _⟩ := (G1.out.keep k).cells 0
  simp at x9 c9
  have G2 := iH (G1.out.both (e' := e1) g k b LN1.out 1 (.int .i64 (n1 : Nat)))
  simp only [List.setIfInBounds_toArray, List.set_cons_zero, List.set_cons_succ] at G2
  have kst : Kept w2 (((w2.setCell ⟨w.heap.size + 1, 1, none⟩ (.int .i64 (n1 : Nat))).setCell ⟨w.heap.size + 2, 0, none⟩ (.slice va2 vn2 vc2)).setCell ⟨w.heap.size + 2, 1, none⟩ (.int .i64 e1)) [w.heap.size + 2, w.heap.size + 1] := (((Kept.refl w2 _).setCell (p := ⟨w.heap.size + 1, 1, none⟩) (.inl (by simp)) (.int .i64 (n1 : Nat))).setCell (p := ⟨w.heap.size + 2, 0, none⟩) (.inl (by simp)) (.slice va2 vn2 vc2)).setCell (p := ⟨w.heap.size + 2, 1, none⟩) (.inl (by simp)) (.int .i64 e1)
  have R2 := iH ((R1.out.trans k (by simp)).trans kst (fun x hx => .inl hx))
  clear g k b q0 q1 kst
  obtain ⟨n2, l2, e2, hs2⟩ : ∃ a b c, wA e1 l1 = (a, b, c) := ⟨_, _, _, rfl⟩
  have LN2 : RowKit.Hid (l2.length <= l1.length) := iH (by have h1 : (wA e1 l1).2.1.length <= l1.length := xqm _ _ _ _; rw [hs2] at h1; exact h1)
  have HS2 := iH hs2
  clear hs2
  obtain ⟨q0, q1, _, _⟩ := G2.out.rcell
  go_wp2_with fail
  refine (xqq _ e1 l1 _ G2.out.rd G2.out.len).mono ?_
  rw [HS2.out]
  rintro en w3 ⟨v3, rfl, g, k, b⟩
  obtain ⟨va3, vn3, vc3, hv⟩ := g.shape3
  subst hv
  obtain ⟨u0, u1, f0, f1⟩ := (G2.out.keep k).rcell
  obtain ⟨x9, y9⟩ := (G2.out.keep k).cells 2; obtain ⟨c9, _⟩ := (G2.out.keep k).cells 0
  simp at x9 c9
  have G3 := iH (G2.out.both (e' := e2) g k b LN2.out 2 (.int .i64 (n2 : Nat)))
  simp only [List.setIfInBounds_toArray, List.set_cons_zero, List.set_cons_succ] at G3
  have kst : Kept w3 (((w3.setCell ⟨w.heap.size + 1, 2, none⟩ (.int .i64 (n2 : Nat))).setCell ⟨w.heap.size + 2, 0, none⟩ (.slice va3 vn3 vc3)).setCell ⟨w.heap.size + 2, 1, none⟩ (.int .i64 e2)) [w.heap.size + 2, w.heap.size + 1] := (((Kept.refl w3 _).setCell (p := ⟨w.heap.size + 1, 2, none⟩) (.inl (by simp)) (.int .i64 (n2 : Nat))).setCell (p := ⟨w.heap.size + 2, 0, none⟩) (.inl (by simp)) (.slice va3 vn3 vc3)).setCell (p := ⟨w.heap.size + 2, 1, none⟩) (.inl (by simp)) (.int .i64 e2)
  have R3 := iH ((R2.out.trans k (by simp)).trans kst (fun x hx => .inl hx))
  clear g k b q0 q1 kst
  obtain ⟨n3, l3, e3, hs3⟩ : ∃ a b c, wA e2 l2 = (a, b, c) := ⟨_, _, _, rfl⟩
  have LN3 : RowKit.Hid (l3.length <= l2.length) := iH (by have h1 : (wA e2 l2).2.1.length <= l2.length := xqm _ _ _ _; rw [hs3] at h1; exact h1)
  have HS3 := iH hs3
  clear hs3
  obtain ⟨q0, q1, _, _⟩ := G3.out.rcell
  go_wp2_with fail
  refine (xqq _ e2 l2 _ G3.out.rd G3.out.len).mono ?_
  rw [HS3.out]
  rintro en w4 ⟨v4, rfl, g, k, b⟩
  obtain ⟨va4, vn4, vc4, hv⟩ := g.shape3
  subst hv
  obtain ⟨u0, u1, f0, f1⟩ := (G3.out.keep k).rcell
  obtain ⟨x9, y9⟩ := (G3.out.keep k).cells 3; obtain ⟨c9, _⟩ := (G3.out.keep k).cells 0
  simp at x9 c9
  have G4 := iH (G3.out.both (e' := e3) g k b LN3.out 3 (.int .i64 (n3 : Nat)))
  simp only [List.setIfInBounds_toArray, List.set_cons_zero, List.set_cons_succ] at G4
  have kst : Kept w4 (((w4.setCell ⟨w.heap.size + 1, 3, none⟩ (.int .i64 (n3 : Nat))).setCell ⟨w.heap.size + 2, 0, none⟩ (.slice va4 vn4 vc4)).setCell ⟨w.heap.size + 2, 1, none⟩ (.int .i64 e3)) [w.heap.size + 2, w.heap.size + 1] := (((Kept.refl w4 _).setCell (p := ⟨w.heap.size + 1, 3, none⟩) (.inl (by simp)) (.int .i64 (n3 : Nat))).setCell (p := ⟨w.heap.size + 2, 0, none⟩) (.inl (by simp)) (.slice va4 vn4 vc4)).setCell (p := ⟨w.heap.size + 2, 1, none⟩) (.inl (by simp)) (.int .i64 e3)
  have R4 := iH ((R3.out.trans k (by simp)).trans kst (fun x hx => .inl hx))
  clear g k b q0 q1 kst
  obtain ⟨L4, l4, e4, hs4⟩ : ∃ a b c, gEvs e3 l3 = (a, b, c) := ⟨_, _, _, rfl⟩
  have LN4 : RowKit.Hid (l4.length <= l3.length) := iH (by have h1 := gEvs_len e3 l3; rw [hs4] at h1; exact h1)
  have HS4 := iH hs4
  clear hs4
  obtain ⟨q0, q1, _, _⟩ := G4.out.rcell
  go_wp2_with fail
  refine (rgetEvents_any _ e3 l3 _ G4.out.rd (by have := HT.out; have := LN1.out; have := LN2.out; have := LN3.out; omega)).mono ?_
  rw [HS4.out]
  rintro en w5 ⟨lv, ⟨v5, rfl, g, k, b⟩, ow⟩
  obtain ⟨ua4, uc4, e9⟩ := ow.shape
  subst e9
  obtain ⟨va5, vn5, vc5, hv⟩ := g.shape3
  subst hv
  obtain ⟨u0, u1, f0, f1⟩ := (G4.out.keep k).rcell
  obtain ⟨x9, y9⟩ := (G4.out.keep k).cells 5; obtain ⟨c9, _⟩ := (G4.out.keep k).cells 0
  simp at x9 c9
  have G5 := iH (G4.out.both (e' := e4) g k b LN4.out 5 (.slice ua4 L4.length uc4))
  simp only [List.setIfInBounds_toArray, List.set_cons_zero, List.set_cons_succ] at G5
  have kst : Kept w5 (((w5.setCell ⟨w.heap.size + 1, 5, none⟩ (.slice ua4 L4.length uc4)).setCell ⟨w.heap.size + 2, 0, none⟩ (.slice va5 vn5 vc5)).setCell ⟨w.heap.size + 2, 1, none⟩ (.int .i64 e4)) [w.heap.size + 2, w.heap.size + 1] := (((Kept.refl w5 _).setCell (p := ⟨w.heap.size + 1, 5, none⟩) (.inl (by simp)) (.slice ua4 L4.length uc4)).setCell (p := ⟨w.heap.size + 2, 0, none⟩) (.inl (by simp)) (.slice va5 vn5 vc5)).setCell (p := ⟨w.heap.size + 2, 1, none⟩) (.inl (by simp)) (.int .i64 e4)
  have R5 := iH ((R4.out.trans k (by simp)).trans kst (fun x hx => .inl hx))
  have O4 := iH ((ow.mono (base' := w.heap.size + 3) (by have h1 := (Array.getElem?_eq_some_iff.1 G4.out.at_).1; omega)).kept kst (fun b hb => by have h2 := (ow.lt b hb).1; have h1 := (Array.getElem?_eq_some_iff.1 G4.out.at_).1; simp; omega))
  clear ow
  clear g k b q0 q1 kst
  obtain ⟨n5, l5, e5, hs5⟩ : ∃ a b c, rfI e4 l4 = (a, b, c) := ⟨_, _, _, rfl⟩
  have LN5 : RowKit.Hid (l5.length <= l4.length) := iH (by have h1 : (rfI e4 l4).2.1.length <= l4.length := xqt _ _; rw [hs5] at h1; exact h1)
  have HS5 := iH hs5
  clear hs5
  obtain ⟨q0, q1, _, _⟩ := G5.out.rcell
  go_wp2_with fail
  refine (rgint_any _ e4 l4 _ G5.out.rd G5.out.len).mono ?_
  rw [HS5.out]
  rintro en w6 ⟨v6, rfl, g, k, b⟩
  obtain ⟨va6, vn6, vc6, hv⟩ := g.shape3
  subst hv
  obtain ⟨u0, u1, f0, f1⟩ := (G5.out.keep k).rcell
  obtain ⟨x9, y9⟩ := (G5.out.keep k).cells 12; obtain ⟨c9, _⟩ := (G5.out.keep k).cells 0
  simp at x9 c9
  have G6 := iH (G5.out.both (e' := e5) g k b LN5.out 12 (.int .i64 n5))
  simp only [List.setIfInBounds_toArray, List.set_cons_zero, List.set_cons_succ] at G6
  have kst : Kept w6 (((w6.setCell ⟨w.heap.size + 1, 12, none⟩ (.int .i64 n5)).setCell ⟨w.heap.size + 2, 0, none⟩ (.slice va6 vn6 vc6)).setCell ⟨w.heap.size + 2, 1, none⟩ (.int .i64 e5)) [w.heap.size + 2, w.heap.size + 1] := (((Kept.refl w6 _).setCell (p := ⟨w.heap.size + 1, 12, none⟩) (.inl (by simp)) (.int .i64 n5)).setCell (p := ⟨w.heap.size + 2, 0, none⟩) (.inl (by simp)) (.slice va6 vn6 vc6)).setCell (p := ⟨w.heap.size + 2, 1, none⟩) (.inl (by simp)) (.int .i64 e5)
  have R6 := iH ((R5.out.trans k (by simp)).trans kst (fun x hx => .inl hx))
  have O4 := iH ((O4.out.keep k).kept kst (fun b hb => by have := (O4.out.lt b hb).1; simp; omega))
  clear g k b q0 q1 kst
  go_upto_region 44 with fail
  obtain ⟨W, hW⟩ : ∃ W, W = ((w6.setCell ⟨w.heap.size + 1, 12, none⟩ (.int .i64 n5)).setCell ⟨w.heap.size + 2, 0, none⟩ (.slice va6 vn6 vc6)).setCell ⟨w.heap.size + 2, 1, none⟩ (.int .i64 e5) := ⟨_, rfl⟩
  rw [<- hW] at G6 R6 O4 ⊢
  clear hW u0 u1 f0 f1 x9 y9 c9 ck
  obtain ⟨q0, q1, _, _⟩ := G6.out.rcell
  go_wp2_with fail
  refine (xqx _ e5 l5 _ G6.out.rd).mono ?_
  rintro en w20 ⟨rfl, k20⟩
  obtain ⟨f, hf⟩ : ∃ f, f = rEnd e5 l5 := ⟨_, rfl⟩
  rw [<- hf]
  have G20 := iH (G6.out.keep k20); have B20 := iH ((R6.out.trans k20 (by simp)).heap (by simp) B3.out)
  have O4 := iH (O4.out.keep k20)
  have hBody : xqO 8 t = ((⟨8, (n1 : Int), (n2 : Int), (n3 : Int), [], L4, 0, 0, [], 0, ⟨#[]⟩, 0, n5⟩ : En), l5, e5) := by
   have h1 : fx1 t = (n1, l1, e1) := HS1.out
   have h2 : fx2 t = (n2, l2, e2) := by rw [fx2, h1]; exact HS2.out
   have h3 : fx3 t = (n3, l3, e3) := by rw [fx3, h2]; exact HS3.out
   have h4 : fy4 t = (L4, l4, e4) := by rw [fy4, h3]; exact HS4.out
   have h5 : fy5 t = (n5, l5, e5) := by rw [fy5, h4]; exact HS5.out
   show (_, _) = _
   rw [h1, h2, h3, h4, h5]
  have hE : dEr l = f := by rw [HER.out, if_pos (by omega), hBody, hf]
  have HE := iH hE; have HBODY := iH hBody
  clear k20 q0 q1 hE hBody hf
  have mm0 := (G20.out.cells 0).1; have nn0 := cell_of_row w20 _ 0 _ _ _ B20.out; have ff0 := frozen_of_row w20 w.heap.size 0 _ _ B20.out
  have mm1 := (G20.out.cells 1).1; have nn1 := cell_of_row w20 _ 1 _ _ _ B20.out; have ff1 := frozen_of_row w20 w.heap.size 1 _ _ B20.out
  have mm2 := (G20.out.cells 2).1; have nn2 := cell_of_row w20 _ 2 _ _ _ B20.out; have ff2 := frozen_of_row w20 w.heap.size 2 _ _ B20.out
  have mm3 := (G20.out.cells 3).1; have nn3 := cell_of_row w20 _ 3 _ _ _ B20.out; have ff3 := frozen_of_row w20 w.heap.size 3 _ _ B20.out
  have mm4 := (G20.out.cells 4).1; have nn4 := cell_of_row w20 _ 4 _ _ _ B20.out; have ff4 := frozen_of_row w20 w.heap.size 4 _ _ B20.out
  have mm5 := (G20.out.cells 5).1; have nn5 := cell_of_row w20 _ 5 _ _ _ B20.out; have ff5 := frozen_of_row w20 w.heap.size 5 _ _ B20.out
  have mm6 := (G20.out.cells 6).1; have nn6 := cell_of_row w20 _ 6 _ _ _ B20.out; have ff6 := frozen_of_row w20 w.heap.size 6 _ _ B20.out
  have mm7 := (G20.out.cells 7).1; have nn7 := cell_of_row w20 _ 7 _ _ _ B20.out; have ff7 := frozen_of_row w20 w.heap.size 7 _ _ B20.out
  have mm8 := (G20.out.cells 8).1; have nn8 := cell_of_row w20 _ 8 _ _ _ B20.out; have ff8 := frozen_of_row w20 w.heap.size 8 _ _ B20.out
  have mm9 := (G20.out.cells 9).1; have nn9 := cell_of_row w20 _ 9 _ _ _ B20.out; have ff9 := frozen_of_row w20 w.heap.size 9 _ _ B20.out
  have mm10 := (G20.out.cells 10).1; have nn10 := cell_of_row w20 _ 10 _ _ _ B20.out; have ff10 := frozen_of_row w20 w.heap.size 10 _ _ B20.out
  have mm11 := (G20.out.cells 11).1; have nn11 := cell_of_row w20 _ 11 _ _ _ B20.out; have ff11 := frozen_of_row w20 w.heap.size 11 _ _ B20.out
  have mm12 := (G20.out.cells 12).1; have nn12 := cell_of_row w20 _ 12 _ _ _ B20.out; have ff12 := frozen_of_row w20 w.heap.size 12 _ _ B20.out
  simp at mm0 nn0 mm1 nn1 mm2 nn2 mm3 nn3 mm4 nn4 mm5 nn5 mm6 nn6 mm7 nn7 mm8 nn8 mm9 nn9 mm10 nn10 mm11 nn11 mm12 nn12
  by_cases h0 : f = 0
  ·subst h0
   obtain ⟨g8, k8⟩ := xqi [.int .u8 8, .int .i64 (n1 : Nat), .int .i64 (n2 : Nat), .int .i64 (n3 : Nat), .slice none 0 0, .slice ua4 L4.length uc4, .int .i64 0, .int .i64 0, .slice none 0 0, .int .i64 0, .string ⟨#[]⟩, .int .i64 0, .int .i64 n5] B20.out rfl
   have G8 : RowKit.Hid ((((((((((((((w20.setCell ⟨w.heap.size, 0, none⟩ (.int .u8 8)).setCell ⟨w.heap.size, 1, none⟩ (.int .i64 (n1 : Nat))).setCell ⟨w.heap.size, 2, none⟩ (.int .i64 (n2 : Nat))).setCell ⟨w.heap.size, 3, none⟩ (.int .i64 (n3 : Nat))).setCell ⟨w.heap.size, 4, none⟩ (.slice none 0 0)).setCell ⟨w.heap.size, 5, none⟩ (.slice ua4 L4.length uc4)).setCell ⟨w.heap.size, 6, none⟩ (.int .i64 0)).setCell ⟨w.heap.size, 7, none⟩ (.int .i64 0)).setCell ⟨w.heap.size, 8, none⟩ (.slice none 0 0)).setCell ⟨w.heap.size, 9, none⟩ (.int .i64 0)).setCell ⟨w.heap.size, 10, none⟩ (.string ⟨#[]⟩)).setCell ⟨w.heap.size, 11, none⟩ (.int .i64 0)).setCell ⟨w.heap.size, 12, none⟩ (.int .i64 n5)).heap[w.heap.size]? = some (.cells #[.int .u8 8, .int .i64 (n1 : Nat), .int .i64 (n2 : Nat), .int .i64 (n3 : Nat), .slice none 0 0, .slice ua4 L4.length uc4, .int .i64 0, .int .i64 0, .slice none 0 0, .int .i64 0, .string ⟨#[]⟩, .int .i64 0, .int .i64 n5] 35 (0, 0))) := iH g8
   have K8 : RowKit.Hid (Kept w20 (((((((((((((w20.setCell ⟨w.heap.size, 0, none⟩ (.int .u8 8)).setCell ⟨w.heap.size, 1, none⟩ (.int .i64 (n1 : Nat))).setCell ⟨w.heap.size, 2, none⟩ (.int .i64 (n2 : Nat))).setCell ⟨w.heap.size, 3, none⟩ (.int .i64 (n3 : Nat))).setCell ⟨w.heap.size, 4, none⟩ (.slice none 0 0)).setCell ⟨w.heap.size, 5, none⟩ (.slice ua4 L4.length uc4)).setCell ⟨w.heap.size, 6, none⟩ (.int .i64 0)).setCell ⟨w.heap.size, 7, none⟩ (.int .i64 0)).setCell ⟨w.heap.size, 8, none⟩ (.slice none 0 0)).setCell ⟨w.heap.size, 9, none⟩ (.int .i64 0)).setCell ⟨w.heap.size, 10, none⟩ (.string ⟨#[]⟩)).setCell ⟨w.heap.size, 11, none⟩ (.int .i64 0)).setCell ⟨w.heap.size, 12, none⟩ (.int .i64 n5)) [w.heap.size]) := iH k8
   clear g8 k8
   go_wp2
   have z0 := cell_of_row _ w.heap.size 0 _ _ _ G8.out
   have z1 := cell_of_row _ w.heap.size 1 _ _ _ G8.out
   have z2 := cell_of_row _ w.heap.size 2 _ _ _ G8.out
   have z3 := cell_of_row _ w.heap.size 3 _ _ _ G8.out
   have z4 := cell_of_row _ w.heap.size 4 _ _ _ G8.out
   have z5 := cell_of_row _ w.heap.size 5 _ _ _ G8.out
   have z6 := cell_of_row _ w.heap.size 6 _ _ _ G8.out
   have z7 := cell_of_row _ w.heap.size 7 _ _ _ G8.out
   have z8 := cell_of_row _ w.heap.size 8 _ _ _ G8.out
   have z9 := cell_of_row _ w.heap.size 9 _ _ _ G8.out
   have z10 := cell_of_row _ w.heap.size 10 _ _ _ G8.out
   have z11 := cell_of_row _ w.heap.size 11 _ _ _ G8.out
   have z12 := cell_of_row _ w.heap.size 12 _ _ _ G8.out
   simp at z0 z1 z2 z3 z4 z5 z6 z7 z8 z9 z10 z11 z12
   refine bodyPost_ret (v := .tuple #[.agg #[.int .u8 8, .int .i64 (n1 : Nat), .int .i64 (n2 : Nat), .int .i64 (n3 : Nat), .slice none 0 0, .slice ua4 L4.length uc4, .int .i64 0, .int .i64 0, .slice none 0 0, .int .i64 0, .string ⟨#[]⟩, .int .i64 0, .int .i64 n5], .int .i64 0]) (by simp [results, Try.results15, go_sem, z0, z1, z2, z3, z4, z5, z6, z7, z8, z9, z10, z11, z12]) rfl ?_
   have eN : dEn l = (⟨8, (n1 : Int), (n2 : Int), (n3 : Int), [], L4, 0, 0, [], 0, ⟨#[]⟩, 0, n5⟩ : En) := by rw [HEN.out HE.out, HBODY.out]
   refine ⟨.slice none 0 0, .slice ua4 L4.length uc4, .slice none 0 0, by rw [eN, HE.out]; rfl, ?_, G20.out.k.trans K8.out (by intro x hx; simp at hx; exact .inr (by omega)), fun b hb => by simp [Value.ownBlock] at hb, fun b hb => by have := (O4.out.lt b hb).1; omega, fun b hb => by simp [Value.ownBlock] at hb⟩
   rw [eN]
   exact ⟨RdK.nil _, (O4.out.kept K8.out (fun b hb => by have := (O4.out.lt b hb).1; simp; omega)).rd, RdI.nil _⟩
  have x9 : (f != 0) = true := by simpa using h0
  have H0 := iH h0
  clear h0
  obtain ⟨g8, k8⟩ := xqi [.int .u8 0, .int .i64 0, .int .i64 0, .int .i64 0, .slice none 0 0, .slice none 0 0, .int .i64 0, .int .i64 0, .slice none 0 0, .int .i64 0, .string ⟨#[]⟩, .int .i64 0, .int .i64 0] B20.out rfl
  have G8 : RowKit.Hid ((((((((((((((w20.setCell ⟨w.heap.size, 0, none⟩ (.int .u8 0)).setCell ⟨w.heap.size, 1, none⟩ (.int .i64 0)).setCell ⟨w.heap.size, 2, none⟩ (.int .i64 0)).setCell ⟨w.heap.size, 3, none⟩ (.int .i64 0)).setCell ⟨w.heap.size, 4, none⟩ (.slice none 0 0)).setCell ⟨w.heap.size, 5, none⟩ (.slice none 0 0)).setCell ⟨w.heap.size, 6, none⟩ (.int .i64 0)).setCell ⟨w.heap.size, 7, none⟩ (.int .i64 0)).setCell ⟨w.heap.size, 8, none⟩ (.slice none 0 0)).setCell ⟨w.heap.size, 9, none⟩ (.int .i64 0)).setCell ⟨w.heap.size, 10, none⟩ (.string ⟨#[]⟩)).setCell ⟨w.heap.size, 11, none⟩ (.int .i64 0)).setCell ⟨w.heap.size, 12, none⟩ (.int .i64 0)).heap[w.heap.size]? = some (.cells #[.int .u8 0, .int .i64 0, .int .i64 0, .int .i64 0, .slice none 0 0, .slice none 0 0, .int .i64 0, .int .i64 0, .slice none 0 0, .int .i64 0, .string ⟨#[]⟩, .int .i64 0, .int .i64 0] 35 (0, 0))) := iH g8
  have K8 : RowKit.Hid (Kept w20 (((((((((((((w20.setCell ⟨w.heap.size, 0, none⟩ (.int .u8 0)).setCell ⟨w.heap.size, 1, none⟩ (.int .i64 0)).setCell ⟨w.heap.size, 2, none⟩ (.int .i64 0)).setCell ⟨w.heap.size, 3, none⟩ (.int .i64 0)).setCell ⟨w.heap.size, 4, none⟩ (.slice none 0 0)).setCell ⟨w.heap.size, 5, none⟩ (.slice none 0 0)).setCell ⟨w.heap.size, 6, none⟩ (.int .i64 0)).setCell ⟨w.heap.size, 7, none⟩ (.int .i64 0)).setCell ⟨w.heap.size, 8, none⟩ (.slice none 0 0)).setCell ⟨w.heap.size, 9, none⟩ (.int .i64 0)).setCell ⟨w.heap.size, 10, none⟩ (.string ⟨#[]⟩)).setCell ⟨w.heap.size, 11, none⟩ (.int .i64 0)).setCell ⟨w.heap.size, 12, none⟩ (.int .i64 0)) [w.heap.size]) := iH k8
  clear g8 k8
  go_wp2
  have z0 := cell_of_row _ w.heap.size 0 _ _ _ G8.out
  have z1 := cell_of_row _ w.heap.size 1 _ _ _ G8.out
  have z2 := cell_of_row _ w.heap.size 2 _ _ _ G8.out
  have z3 := cell_of_row _ w.heap.size 3 _ _ _ G8.out
  have z4 := cell_of_row _ w.heap.size 4 _ _ _ G8.out
  have z5 := cell_of_row _ w.heap.size 5 _ _ _ G8.out
  have z6 := cell_of_row _ w.heap.size 6 _ _ _ G8.out
  have z7 := cell_of_row _ w.heap.size 7 _ _ _ G8.out
  have z8 := cell_of_row _ w.heap.size 8 _ _ _ G8.out
  have z9 := cell_of_row _ w.heap.size 9 _ _ _ G8.out
  have z10 := cell_of_row _ w.heap.size 10 _ _ _ G8.out
  have z11 := cell_of_row _ w.heap.size 11 _ _ _ G8.out
  have z12 := cell_of_row _ w.heap.size 12 _ _ _ G8.out
  simp at z0 z1 z2 z3 z4 z5 z6 z7 z8 z9 z10 z11 z12
  refine bodyPost_ret (v := .tuple #[.agg #[.int .u8 0, .int .i64 0, .int .i64 0, .int .i64 0, .slice none 0 0, .slice none 0 0, .int .i64 0, .int .i64 0, .slice none 0 0, .int .i64 0, .string ⟨#[]⟩, .int .i64 0, .int .i64 0], .int .i64 f]) (by simp [results, Try.results15, go_sem, z0, z1, z2, z3, z4, z5, z6, z7, z8, z9, z10, z11, z12]) rfl ?_
  exact DPost.bad HE.out.symm H0.out (G20.out.k.trans K8.out (by intro x hx; simp at hx; exact .inr (by omega)))
end Go.Proofs.Ytjdbmlifekghfaa
