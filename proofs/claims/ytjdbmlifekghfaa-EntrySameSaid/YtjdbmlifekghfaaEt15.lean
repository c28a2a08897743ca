/-
  Epb in one text.
-/
import Derived.Test.YtjdbmlifekghfaaEt0
import Derived.Test.YtjdbmlifekghfaaEt10
import Derived.Test.YtjdbmlifekghfaaEt14
set_option linter.unusedVariables false
set_option maxHeartbeats 16000000
set_option maxRecDepth 100000
namespace Go.Proofs.Ytjdbmlifekghfaa
open Go.RowKit
structure Gz (w0 : World) (q z : Nat) (T : TypeId) (v : Value) (e : Int) (l : List UInt8) (cs : Array Value) (V : World) : Prop where
 rd : Rd V v l
 at_ : V.heap[q]? = some (.cells #[v, .int .i64 e] 95 (0, 0))
 ev : V.heap[z]? = some (.cells cs T (0, 0))
 k : Kept w0 V []
 len : l.length <= 1099511627796
 ne : z ≠ q
 low : w0.heap.size <= q /\ w0.heap.size <= z
 vb : l ≠ [] -> ∀ b, v.ownBlock = some b -> b < w0.heap.size
theorem Gz.keep {w0 : World} {q z : Nat} {T : TypeId} {v : Value} {e : Int} {l : List UInt8} {cs : Array Value} {V V' : World} (h : Gz w0 q z T v e l cs V) (k : Kept V V' []) : Gz w0 q z T v e l cs V' :=
 ⟨h.rd.kept k (by simp), k.heap (by simp) h.at_, k.heap (by simp) h.ev, h.k.trans k (by simp), h.len, h.ne, h.low, h.vb⟩
theorem Gz.rcell {w0 : World} {q z : Nat} {T : TypeId} {v : Value} {e : Int} {l : List UInt8} {cs : Array Value} {V : World} (h : Gz w0 q z T v e l cs V) : V.cell? ⟨q, 0, none⟩ = some v /\ V.cell? ⟨q, 1, none⟩ = some (.int .i64 e) /\ V.frozen? ⟨q, 0, none⟩ = false /\ V.frozen? ⟨q, 1, none⟩ = false :=
 ⟨by simpa using cell_of_row V q 0 _ _ _ h.at_, by simpa using cell_of_row V q 1 _ _ _ h.at_, frozen_of_row V q 0 _ _ h.at_, frozen_of_row V q 1 _ _ h.at_⟩
theorem Gz.cells {w0 : World} {q z : Nat} {T : TypeId} {v : Value} {e : Int} {l : List UInt8} {cs : Array Value} {V : World} (h : Gz w0 q z T v e l cs V) (j : Nat) : V.cell? ⟨z, j, none⟩ = cs[j]? /\ V.frozen? ⟨z, j, none⟩ = false :=
 ⟨cell_of_row V z j _ _ _ h.ev, frozen_of_row V z j _ _ h.ev⟩
theorem Gz.store {w0 : World} {q z : Nat} {T : TypeId} {v : Value} {e : Int} {l : List UInt8} {cs : Array Value} {V : World} (h : Gz w0 q z T v e l cs V) (j : Nat) (u : Value) : Gz w0 q z T v e l (cs.setIfInBounds j u) (V.setCell ⟨z, j, none⟩ u) := by
 have h1 := h.ne; have h2 := h.low
 have hk : Kept V (V.setCell ⟨z, j, none⟩ u) [z] := (Kept.refl V [z]).setCell (.inl (by simp)) _
 exact ⟨h.rd.kept2 hk (fun h3 b hb' => by have := h.vb h3 b hb'; simp; omega), hk.heap (by simp; omega) h.at_, xqa h.ev j u, h.k.trans hk (by intro x hx; simp at hx; exact .inr (by omega)), h.len, h.ne, h.low, h.vb⟩
theorem Gz.lay {w0 : World} {q z : Nat} {T : TypeId} {v v' : Value} {e e' : Int} {l l' : List UInt8} {cs : Array Value} {V : World} (h : Gz w0 q z T v e l cs V) (hr : Rd V v' l') (hb : ∀ b, v'.ownBlock = some b -> v.ownBlock = some b) (hl : l'.length <= l.length) :
  Gz w0 q z T v' e' l' cs ((V.setCell ⟨q, 0, none⟩ v').setCell ⟨q, 1, none⟩ (.int .i64 e')) := by
 have h1 := h.ne; have h2 := h.low
 have hne : l' ≠ [] -> l ≠ [] := by rintro h3 rfl; exact h3 (List.eq_nil_of_length_eq_zero (by simpa using hl))
 have hvb : l' ≠ [] -> ∀ b, v'.ownBlock = some b -> b < w0.heap.size := fun h3 b hb' => h.vb (hne h3) b (hb b hb')
 have hk2 : Kept V ((V.setCell ⟨q, 0, none⟩ v').setCell ⟨q, 1, none⟩ (.int .i64 e')) [q] := ((Kept.refl V [q]).setCell (.inl (by simp)) _).setCell (.inl (by simp)) _
 refine ⟨hr.kept2 hk2 (fun h3 b hb' => by have := hvb h3 b hb'; simp; omega), ?_, hk2.heap (by simp; omega) h.ev, h.k.trans hk2 (by intro x hx; simp at hx; exact .inr (by omega)), Nat.le_trans hl h.len, h.ne, h.low, hvb⟩
 have h3 := xqa h.at_ 0 v'
 simpa using xqa h3 1 (.int .i64 e')
theorem Gz.call {w0 : World} {q z : Nat} {T : TypeId} {v v' : Value} {e e' : Int} {l l' : List UInt8} {cs : Array Value} {V w' : World} (h : Gz w0 q z T v e l cs V) (hr : Rd w' v' l') (hk : Kept V w' []) (hb : ∀ b, v'.ownBlock = some b -> v.ownBlock = some b) (hl : l'.length <= l.length) :
  Gz w0 q z T v' e' l' cs ((w'.setCell ⟨q, 0, none⟩ v').setCell ⟨q, 1, none⟩ (.int .i64 e')) := (h.keep hk).lay hr hb hl
theorem Gz.both {w0 : World} {q z : Nat} {T : TypeId} {v v' : Value} {e e' : Int} {l l' : List UInt8} {cs : Array Value} {V w' : World} (h : Gz w0 q z T v e l cs V) (hr : Rd w' v' l') (hk : Kept V w' []) (hb : ∀ b, v'.ownBlock = some b -> v.ownBlock = some b) (hl : l'.length <= l.length) (j : Nat) (u : Value) :
  Gz w0 q z T v' e' l' (cs.setIfInBounds j u) (((w'.setCell ⟨z, j, none⟩ u).setCell ⟨q, 0, none⟩ v').setCell ⟨q, 1, none⟩ (.int .i64 e')) := by
 have h1 := h.ne; have h2 := h.low
 have hne : l' ≠ [] -> l ≠ [] := by rintro h3 rfl; exact h3 (List.eq_nil_of_length_eq_zero (by simpa using hl))
 have hk2 : Kept w' (w'.setCell ⟨z, j, none⟩ u) [z] := (Kept.refl w' [z]).setCell (.inl (by simp)) _
 exact ((h.keep hk).store j u).lay (hr.kept2 hk2 (fun h3 b hb' => by have := h.vb (hne h3) b (hb b hb'); simp; omega)) hb hl
theorem dOps_halt (k : Nat) : ∀ (n : Nat) (e : Int) (l : List UInt8), k <= n -> (dOps k e l).2.2 ≠ 0 -> dOps n e l = dOps k e l := by
 induction k with
 | zero =>
  intro n e l _ h
  change e ≠ 0 at h
  cases n with
  | zero => rfl
  | succ n => simp only [dOps, if_neg h]
 | succ k ih =>
 intro n e l hn h
 obtain ⟨n, rfl⟩ : ∃ m, n = m + 1 := ⟨n - 1, by omega⟩
 by_cases he : e = 0
 ·rw [dOps, if_pos he] at h ⊢
  rw [dOps, if_pos he, ih n _ _ (by omega) h]
 rw [dOps, if_neg he, dOps, if_neg he]
theorem dEvs_halt (k : Nat) : ∀ (n : Nat) (e : Int) (l : List UInt8), k <= n -> (dEvs k e l).2.2 ≠ 0 -> dEvs n e l = dEvs k e l := by
 induction k with
 | zero =>
  intro n e l _ h
  change e ≠ 0 at h
  cases n with
  | zero => rfl
  | succ n => simp only [dEvs, if_neg h]
 | succ k ih =>
 intro n e l hn h
 obtain ⟨n, rfl⟩ : ∃ m, n = m + 1 := ⟨n - 1, by omega⟩
 by_cases he : e = 0
 ·by_cases hp : (pB e l).2.2 = 0
  ·rw [dEvs, if_pos he, if_pos hp] at h ⊢
   rw [dEvs, if_pos he, if_pos hp, ih n _ _ (by omega) h]
  rw [dEvs, if_pos he, if_neg hp, dEvs, if_pos he, if_neg hp]
 rw [dEvs, if_neg he, dEvs, if_neg he]
theorem dOps_le (k : Nat) : ∀ (e : Int) (l : List UInt8), (dOps k e l).1.length <= k := by
 induction k with
 | zero => intro e l; exact Nat.le_refl _
 | succ k ih =>
 intro e l
 rw [dOps]
 split
 ·have := ih (oD e l).2.2 (oD e l).2.1; simp only [List.length_cons]; omega
 simp
theorem dEvs_le (k : Nat) : ∀ (e : Int) (l : List UInt8), (dEvs k e l).1.length <= k := by
 induction k with
 | zero => intro e l; exact Nat.le_refl _
 | succ k ih =>
 intro e l
 rw [dEvs]
 split
 ·split
  ·have := ih (dErr (pB e l).1) (pL e l); simp only [List.length_cons]; omega
  simp
 simp
theorem rgint_any (v : Value) (e : Int) (l : List UInt8) (w : World) (h : Rd w v l) (hl : l.length <= 1099511627796) :
  Calls Try.prog 35 #[.agg #[v, .int .i64 e]] w fun en w' => GPost w v (.int .i64 (rfI e l).1) (rfI e l).2.2 (rfI e l).2.1 en w' := refreadint_any v e l w h hl
theorem xqQ (v : Value) (m e : Int) (l : List UInt8) (w : World) (h : Rd w v l) (hl : l.length <= 1099511627796) (hm : -9223372036854775808 <= m /\ m <= 9223372036854775807) :
  Calls Try.prog 37 #[.agg #[v, .int .i64 e], .int .i64 m] w fun en w' => GPost w v (.string (strL (xqg m e l).1)) (xqg m e l).2.2 (xqg m e l).2.1 en w' := xq0 v m e l w h hl hm
theorem Gz.fin {w wr V w9 : World} {q z z1 : Nat} {T T1 : TypeId} {v lv : Value} {e e1 : Int} {l l1 : List UInt8} {v1 : Value} {cs cs1 : Array Value} (h : Gz w q z T v e l cs V) (h1 : Gz w q z1 T1 v1 e1 l1 cs1 wr) (K : Kept wr V [q, z]) (hz : z = wr.heap.size) (ob : Obj) (hg : (V.alloc ob).grownBy w9 lv.ownBlock) (hlv : ∀ b, lv.ownBlock = some b -> q + 1 <= b /\ b < wr.heap.size) (hz1 : z1 < q) : Gz w q z1 T1 v e l cs1 w9 := by
 have kb : Kept V w9 lv.ownBlock.toList := ((Kept.refl V _).alloc ob).grown hg (fun k hk => .inl (by simp [hk]))
 have hlow := h.low; have hlow1 := h1.low
 have hmem : ∀ b, b ∈ lv.ownBlock.toList -> q + 1 <= b := fun b hb => (hlv b (by simpa using hb)).1
 have hzs : z1 < wr.heap.size := (Array.getElem?_eq_some_iff.1 h1.ev).1
 refine ⟨h.rd.kept2 kb (fun h3 b hb hm => ?_), kb.heap (fun hm => ?_) h.at_, kb.heap (fun hm => ?_) (K.heap (by simp; omega) h1.ev), h.k.trans kb (fun x hx => .inr ?_), h.len, h1.ne, h1.low, h.vb⟩
 ·have := h.vb h3 b hb; have := hmem b hm; omega
 ·have := hmem _ hm; omega
 ·have := hmem _ hm; omega
 have := hmem x hx; omega
theorem Gz.fin2 {w V w9 : World} {q z1 : Nat} {T1 : TypeId} {v lv : Value} {e : Int} {l : List UInt8} {cs1 : Array Value} (h : Gz w q z1 T1 v e l cs1 V) (ob : Obj) (hg : (V.alloc ob).grownBy w9 lv.ownBlock) (hlv : ∀ b, lv.ownBlock = some b -> q + 1 <= b) (hz1 : z1 < q) : Gz w q z1 T1 v e l cs1 w9 := by
 have kb : Kept V w9 lv.ownBlock.toList := ((Kept.refl V _).alloc ob).grown hg (fun k hk => .inl (by simp [hk]))
 have hlow := h.low
 have hmem : ∀ b, b ∈ lv.ownBlock.toList -> q + 1 <= b := fun b hb => hlv b (by simpa using hb)
 refine ⟨h.rd.kept2 kb (fun h3 b hb hm => ?_), kb.heap (fun hm => ?_) h.at_, kb.heap (fun hm => ?_) h.ev, h.k.trans kb (fun x hx => .inr ?_), h.len, h.ne, h.low, h.vb⟩
 ·have := h.vb h3 b hb; have := hmem b hm; omega
 ·have := hmem _ hm; omega
 ·have := hmem _ hm; omega
 have := hmem x hx; omega
theorem Try.infoRo : (Try.prog.info? 63).map (fun i => (i.zero, i.size, i.bytes)) = some (some (.agg #[.int .i64 0, .bool false, .int .i64 0, .string ⟨#[]⟩]), 4, 40) := by kernel_rfl
theorem Try.infoRp : (Try.prog.info? 76).map (fun i => (i.zero, i.size, i.bytes)) = some (some (.agg #[.int .i64 0, .int .i64 0, .int .i64 0, .string ⟨#[]⟩, .int .i64 0, .int .i64 0, .int .u8 0, .int .i64 0, .string ⟨#[]⟩]), 9, 88) := by kernel_rfl
theorem rgetOps_any (v : Value) (e : Int) (l : List UInt8) (w : World) (h : Rd w v l) (hl : l.length <= 1000000000) :
  Calls Try.prog 33 #[.agg #[v, .int .i64 e]] w fun en w' => ∃ lv, GPost w v lv (gOps e l).2.2 (gOps e l).2.1 en w' /\ OwnK encO w' w.heap.size 63 lv (gOps e l).1 := by
 obtain ⟨i0, hi0, hz0, hz1, hz2⟩ := info_parts Try.infoRo
 have H := iH h
 have hbl := h.block_lt
 obtain ⟨a, len, c, hv⟩ := h.shape3
 clear h
 subst hv
 obtain ⟨n0, hn0⟩ : ∃ n, n = (bA e l).1 := ⟨_, rfl⟩
 obtain ⟨lb, hlb⟩ : ∃ x, x = (bA e l).2.1 := ⟨_, rfl⟩
 obtain ⟨eb, heb⟩ : ∃ x, x = (bA e l).2.2 := ⟨_, rfl⟩
 have HB0 : RowKit.Hid (rfN 0 255 e l = (n0, lb, eb)) := iH (by rw [hn0, hlb, heb]; rfl)
 have hG : gOps e l = dOps n0 eb lb := by rw [hn0, hlb, heb]; rfl
 have h255 : eb = 0 -> n0 <= 255 := fun h0 => by rw [hn0]; exact bA_le e l (heb ▸ h0)
 have hlbl : lb.length <= l.length := by rw [hlb]; exact xqm _ _ _ _
 have HG := iH hG; have H255 := iH h255; have HLB := iH hlbl; have HBL := iH hbl
 clear hn0 hlb heb hG h255 hlbl hbl
 go_enter Try.func33, Try.ntmps33
 go_wp2_with fail
 refine (yqa _ e l 255 _ (H.out.kept (((Kept.refl w []).alloc _).alloc _) (by simp)) (by omega) (by omega)).mono ?_
 rw [HB0.out]
 rintro en w1 ⟨v1, rfl, g, k1, b1⟩
 obtain ⟨va1, vn1, vc1, hv⟩ := g.shape3
 subst hv
 have hB : w1.heap[w.heap.size + 1]? = some (.cells #[.slice none 0 0, .int .i64 0] 95 (0, 0)) := k1.heap (by simp) (by
  have := heap_alloc_new (w.alloc (.cells #[.slice a len c, .int .i64 e] 95)) (.cells #[.slice none 0 0, .int .i64 0] 95)
  simpa using this)
 have hz1s : w.heap.size + 1 < w1.heap.size := (Array.getElem?_eq_some_iff.1 hB).1
 obtain ⟨q, hq⟩ : ∃ q, q = w1.heap.size := ⟨_, rfl⟩
 obtain ⟨W2, hW2⟩ : ∃ W2, W2 = w1.alloc (.cells #[.slice va1 vn1 vc1, .int .i64 eb] 95) := ⟨_, rfl⟩
 have k2 : Kept w1 W2 [] := by rw [hW2]; exact (Kept.refl w1 []).alloc _
 have kw2 : Kept w W2 [] := ((((Kept.refl w []).alloc _).alloc _).trans k1 (by simp)).trans k2 (by simp)
 have hne1 : lb ≠ [] -> l ≠ [] := by have := HLB.out; rintro h3 rfl; exact h3 (List.eq_nil_of_length_eq_zero (by simpa using this))
 have D0 : RowKit.Hid (Gz w q (w.heap.size + 1) 95 (.slice va1 vn1 vc1) eb lb #[.slice none 0 0, .int .i64 0] W2) := iH
  ⟨g.kept k2 (by simp), by rw [hW2, hq]; exact heap_alloc_new w1 _, k2.heap (by simp) hB, kw2, by have := HLB.out; omega, by omega, by omega, fun h3 b hb' => HBL.out (hne1 h3) b (b1 b hb')⟩
 have SZ : RowKit.Hid (W2.heap.size = q + 1 /\ w.heap.size + 1 < q) := iH ⟨by rw [hW2]; simp [hq], by omega⟩
 have B1 := iH b1
 clear g k1 b1 hB hz1s k2 kw2 hne1
 go_upto_region 2 with fail
 rw [<- hW2, <- hq]
 clear hW2 hq
 go_wp2
 go_loopw [6, 7, 8, 9] (fun s6 s7 s8 s9 wr => ∃ (k : Nat) (ua : Option Addr) (uc : Nat) (vv : Value), s6 = .slice ua (dOps k eb lb).1.length uc /\ s7 = .int .i64 k /\ k <= n0 /\ OwnK encO wr (q + 1) 63 (.slice ua (dOps k eb lb).1.length uc) (dOps k eb lb).1 /\ Gz w q (w.heap.size + 1) 95 vv (dOps k eb lb).2.2 (dOps k eb lb).2.1 #[.slice none 0 0, .int .i64 0] wr /\ (∀ x, vv.ownBlock = some x -> (Value.slice a len c).ownBlock = some x) /\ q + 1 <= wr.heap.size /\ (∃ a n c, vv = .slice a n c)) (fun s6 s7 s8 s9 wr => n0 - (intOf s7).toNat)
 case atStart => exact ⟨0, none, 0, _, rfl, rfl, Nat.zero_le _, OwnK.nil _ _ _, D0.out, B1.out, by have := SZ.out; omega, ⟨_, _, _, rfl⟩⟩
 case round =>
  clear D0
  obtain ⟨k, ua, uc, vv, rfl, rfl, hk, how, hgz, hvb, hsz, ⟨xa, xn, xc, rfl⟩⟩ := hrel
  obtain ⟨ek, hek⟩ : ∃ x, x = (dOps k eb lb).2.2 := ⟨_, rfl⟩
  obtain ⟨lk, hlk⟩ : ∃ x, x = (dOps k eb lb).2.1 := ⟨_, rfl⟩
  obtain ⟨xs, hxs⟩ : ∃ x, x = (dOps k eb lb).1 := ⟨_, rfl⟩
  rw [<- hxs] at how ⊢
  rw [<- hek, <- hlk] at hgz
  have hxl : xs.length <= k := by rw [hxs]; exact dOps_le k _ _
  have OW := iH how; have D0 := iH hgz; have VB := iH hvb; have SW := iH hsz; have HXL := iH hxl; have HK := iH hk
  have HE0 := iH hek; have HL0 := iH hlk; have HX0 := iH hxs
  obtain ⟨q0, q1, _, _⟩ := hgz.rcell
  clear how hgz hvb hsz hxl hk hlk
  have FIN : RowKit.Hid (ek ≠ 0 ∨ k = n0 -> dOps k eb lb = dOps n0 eb lb) := iH (fun h => by
   rcases h with h | h
   ·exact (dOps_halt k n0 eb lb HK.out (by rw [<- HE0.out]; exact h)).symm
   ·rw [h])
  by_cases hlt : (k : Int) < (n0 : Int)
  ·by_cases he0 : ek = 0
   ·have hn255 : n0 <= 255 := H255.out (dOps_zero (HE0.out.symm.trans he0))
    have hsn := dOps_snoc k eb lb (HE0.out.symm.trans he0)
    rw [<- HE0.out, <- HL0.out, <- HX0.out] at hsn
    have HN := iH hn255
    subst he0
    have HSN := iH hsn
    clear hsn hn255 hek hxs
    obtain ⟨n1, l1, e1, hs1⟩ : ∃ n l' e', rfN 0 255 0 lk = (n, l', e') := ⟨_, _, _, rfl⟩
    obtain ⟨n2, l2, e2, hs2⟩ : ∃ n l' e', rfN 0 1 e1 l1 = (n, l', e') := ⟨_, _, _, rfl⟩
    obtain ⟨n3, l3, e3, hs3⟩ : ∃ n l' e', rfI e2 l2 = (n, l', e') := ⟨_, _, _, rfl⟩
    obtain ⟨t4, l4, e4, hs4⟩ : ∃ n l' e', xqg 40 e3 l3 = (n, l', e') := ⟨_, _, _, rfl⟩
    have hA : oA 0 lk = (n1, l1, e1) := hs1
    have hBB : oB 0 lk = (n2, l2, e2) := by rw [oB, hA]; exact hs2
    have hC : oC 0 lk = (n3, l3, e3) := by rw [oC, hBB]; exact hs3
    have hD : oD 0 lk = (t4, l4, e4) := by rw [oD, hC]; exact hs4
    have hOp : dOp 0 lk = ⟨(n1 : Int), ((n2 : Nat) : Int) == 1, n3, strL t4⟩ := by
     rw [dOp, hA, hBB, hC, hD]
     congr 1
     by_cases h : n2 = 1
     ·subst h; rfl
     dsimp only; rw [decide_eq_false h]; symm; rw [beq_eq_false_iff_ne]; omega
    have LN1 : RowKit.Hid (l1.length <= lk.length) := iH (by have := xqm 0 255 0 lk; rw [hs1] at this; exact this)
    have LN2 : RowKit.Hid (l2.length <= l1.length) := iH (by have := xqm 0 1 e1 l1; rw [hs2] at this; exact this)
    have LN3 : RowKit.Hid (l3.length <= l2.length) := iH (by have h1 : (rfI e2 l2).2.1.length <= l2.length := xqt e2 l2; rw [hs3] at h1; exact h1)
    have LN4 : RowKit.Hid (l4.length <= l3.length) := iH (by have h1 := xqE 40 e3 l3; rw [hs4] at h1; exact h1)
    have HS1 := iH hs1; have HS2 := iH hs2; have HS3 := iH hs3; have HS4 := iH hs4; have HD := iH hD; have HOP := iH hOp
    clear hs1 hs2 hs3 hs4 hA hBB hC hD hOp q0 q1
    obtain ⟨Wo, hWo⟩ : ∃ Wo, Wo = wr.alloc (.cells #[.int .i64 0, .bool false, .int .i64 0, .string ⟨#[]⟩] 63) := ⟨_, rfl⟩
    obtain ⟨zo, hzo⟩ : ∃ zo, zo = wr.heap.size := ⟨_, rfl⟩
    have ko : Kept wr Wo [] := by rw [hWo]; exact (Kept.refl wr []).alloc _
    have G1 : RowKit.Hid (Gz w q zo 63 (.slice xa xn xc) 0 lk #[.int .i64 0, .bool false, .int .i64 0, .string ⟨#[]⟩] Wo) := iH ⟨D0.out.rd.kept ko (by simp), ko.heap (by simp) D0.out.at_, by rw [hWo, hzo]; exact heap_alloc_new wr _, D0.out.k.trans ko (by simp), D0.out.len, by have := SW.out; omega, ⟨D0.out.low.1, by have := D0.out.k.size; omega⟩, D0.out.vb⟩
    have R1 := iH (ko.mono (cs := [q, zo]) (by simp))
    have HZO := iH hzo
    obtain ⟨q0, q1, _, _⟩ := D0.out.rcell
    go_upto_region 7 with fail
    rw [<- hWo, <- hzo]
    clear hWo hzo ko q0 q1
    have nq1 : ¬ zo = q := G1.out.ne
    have nq2 : ¬ q = zo := fun h => G1.out.ne h.symm
    have hk255 : k < 255 := by have := HK.out; have := HN.out; omega
    obtain ⟨q0, q1, _, _⟩ := G1.out.rcell
    go_wp2_with fail
    refine (yqa _ 0 lk 255 _ G1.out.rd G1.out.len (by omega)).mono ?_
    rw [HS1.out]
    rintro en w2 ⟨v2, rfl, g, k, b⟩
    obtain ⟨va2, vn2, vc2, hv⟩ := g.shape3
    subst hv
    obtain ⟨u0, u1, f0, f1⟩ := (G1.out.keep k).rcell
    obtain ⟨x9, y9⟩ := (G1.out.keep k).cells 0
    simp at x9
    have G2 := iH ((G1.out.call (e' := e1) g k b LN1.out).store 0 (.int .i64 (n1 : Nat)))
    simp only [List.setIfInBounds_toArray, List.set_cons_zero] at G2
    have R2 := iH ((((R1.out.trans k (by simp)).setCell (p := ⟨q, 0, none⟩) (.inl (by simp)) (.slice va2 vn2 vc2)).setCell (p := ⟨q, 1, none⟩) (.inl (by simp)) (.int .i64 e1)).setCell (p := ⟨zo, 0, none⟩) (.inl (by simp)) (.int .i64 (n1 : Nat)))
    have B2 := iH (fun x hx => VB.out x (b x hx))
    clear g k b q0 q1
    obtain ⟨q0, q1, _, _⟩ := G2.out.rcell
    go_wp2_with fail
    refine (yqa _ e1 l1 1 _ G2.out.rd G2.out.len (by omega)).mono ?_
    rw [HS2.out]
    rintro en w3 ⟨v3, rfl, g, k, b⟩
    obtain ⟨va3, vn3, vc3, hv⟩ := g.shape3
    subst hv
    obtain ⟨u0, u1, f0, f1⟩ := (G2.out.keep k).rcell
    obtain ⟨x9, y9⟩ := (G2.out.keep k).cells 1
    simp at x9
    have G3 := iH ((G2.out.call (e' := e2) g k b LN2.out).store 1 (.bool (((n2 : Nat) : Int) == 1)))
    simp only [List.setIfInBounds_toArray, List.set_cons_zero, List.set_cons_succ] at G3
    have R3 := iH ((((R2.out.trans k (by simp)).setCell (p := ⟨q, 0, none⟩) (.inl (by simp)) (.slice va3 vn3 vc3)).setCell (p := ⟨q, 1, none⟩) (.inl (by simp)) (.int .i64 e2)).setCell (p := ⟨zo, 1, none⟩) (.inl (by simp)) (.bool (((n2 : Nat) : Int) == 1)))
    have B3 := iH (fun x hx => B2.out x (b x hx))
    clear g k b q0 q1
    obtain ⟨q0, q1, _, _⟩ := G3.out.rcell
    go_wp2_with fail
    refine (rgint_any _ e2 l2 _ G3.out.rd G3.out.len).mono ?_
    rw [HS3.out]
    rintro en w4 ⟨v4, rfl, g, k, b⟩
    obtain ⟨va4, vn4, vc4, hv⟩ := g.shape3
    subst hv
    obtain ⟨u0, u1, f0, f1⟩ := (G3.out.keep k).rcell
    obtain ⟨x9, y9⟩ := (G3.out.keep k).cells 2
    simp at x9
    have G4 := iH (G3.out.both (e' := e3) g k b LN3.out 2 (.int .i64 n3))
    simp only [List.setIfInBounds_toArray, List.set_cons_zero, List.set_cons_succ] at G4
    have R4 := iH ((((R3.out.trans k (by simp)).setCell (p := ⟨zo, 2, none⟩) (.inl (by simp)) (.int .i64 n3)).setCell (p := ⟨q, 0, none⟩) (.inl (by simp)) (.slice va4 vn4 vc4)).setCell (p := ⟨q, 1, none⟩) (.inl (by simp)) (.int .i64 e3))
    have B4 := iH (fun x hx => B3.out x (b x hx))
    clear g k b q0 q1
    obtain ⟨q0, q1, _, _⟩ := G4.out.rcell
    go_wp2_with fail
    refine (xqQ _ 40 e3 l3 _ G4.out.rd G4.out.len (by omega)).mono ?_
    rw [HS4.out]
    rintro en w5 ⟨v5, rfl, g, k, b⟩
    obtain ⟨va5, vn5, vc5, hv⟩ := g.shape3
    subst hv
    obtain ⟨u0, u1, f0, f1⟩ := (G4.out.keep k).rcell
    obtain ⟨x9, y9⟩ := (G4.out.keep k).cells 3
    simp at x9
    have G5 := iH (G4.out.both (e' := e4) g k b LN4.out 3 (.string (strL t4)))
    simp only [List.setIfInBounds_toArray, List.set_cons_zero, List.set_cons_succ] at G5
    have R5 := iH ((((R4.out.trans k (by simp)).setCell (p := ⟨zo, 3, none⟩) (.inl (by simp)) (.string (strL t4))).setCell (p := ⟨q, 0, none⟩) (.inl (by simp)) (.slice va5 vn5 vc5)).setCell (p := ⟨q, 1, none⟩) (.inl (by simp)) (.int .i64 e4))
    have B5 := iH (fun x hx => B4.out x (b x hx))
    clear g k b q0 q1
    go_upto_region 14 with fail
    obtain ⟨W, hW⟩ : ∃ W, W = ((w5.setCell ⟨zo, 3, none⟩ (.string (strL t4))).setCell ⟨q, 0, none⟩ (.slice va5 vn5 vc5)).setCell ⟨q, 1, none⟩ (.int .i64 e4) := ⟨_, rfl⟩
    rw [<- hW] at G5 R5 ⊢
    clear hW u0 u1 f0 f1 x9 y9
    have OA := iH (OW.out.kept R5.out (fun b hb => by have h1 := OW.out.lt b hb; have h2 := HZO.out; simp; omega))
    have SRC := xqI (E := encO) (P := Try.prog) (t := 63) W (⟨(n1 : Int), ((n2 : Nat) : Int) == 1, n3, strL t4⟩ : Ox) (tx := 28) Try.underlying28
    simp only [encO, Ox.cs] at SRC
    have SRC := iH SRC
    have OO := iH (OA.out.keep ((Kept.refl W []).alloc (.cells #[.int .i64 (n1 : Nat), .bool (((n2 : Nat) : Int) == 1), .int .i64 n3, .string (strL t4)] 63)))
    have HS : RowKit.Hid (q + 1 <= (W.alloc (.cells #[.int .i64 (n1 : Nat), .bool (((n2 : Nat) : Int) == 1), .int .i64 n3, .string (strL t4)] 63)).heap.size) := iH (by have h1 := SW.out; have h2 := R5.out.size; simp; omega)
    obtain ⟨m0, _⟩ := G5.out.cells 0
    obtain ⟨m1, _⟩ := G5.out.cells 1
    obtain ⟨m2, _⟩ := G5.out.cells 2
    obtain ⟨m3, _⟩ := G5.out.cells 3
    simp at m0 m1 m2 m3
    go_wp2_with (at_builtin; refine xqp _ rfl (.tmp 57) (.tmp 59) 28 28 rfl (q + 1) 63 i0 _ 4 40 Try.underlying28 hi0 hz0 hz1 hz2 rfl (.slice ua xs.length uc) xs.length (kcs encO xs) rfl OO.out (.slice (some ⟨W.heap.size, 0, none⟩) 1 1) 1 _ rfl SRC.out (by have := HXL.out; have := HK.out; have := HN.out; unfold maxLen; omega) (by have := HXL.out; have := HK.out; have := HN.out; omega) HS.out ?nexta)
    case nexta =>
    intro v9 w9 hown _ hgrow _
    have o9 : OwnK encO w9 (q + 1) 63 v9 (xs ++ [(⟨(n1 : Int), ((n2 : Nat) : Int) == 1, n3, strL t4⟩ : Ox)]) := by
     unfold OwnK
     rw [xqv, xqu, List.length_append]
     exact hown
    have gf := G5.out.fin D0.out R5.out HZO.out _ hgrow (fun b hb => OW.out.lt b hb) (by have := SZ.out; omega)
    have hsz9 : q + 1 <= w9.heap.size := Nat.le_trans HS.out hgrow.size
    obtain ⟨u9, c9, e9⟩ := o9.shape
    subst e9
    have hsn := HSN.out
    rw [HD.out, HOP.out] at hsn
    have HL9 : RowKit.Hid ((dOps (k + 1) eb lb).1 = xs ++ [⟨(n1 : Int), ((n2 : Nat) : Int) == 1, n3, strL t4⟩]) := iH (by rw [hsn])
    have HE9 : RowKit.Hid ((dOps (k + 1) eb lb).2.2 = e4) := iH (by rw [hsn])
    have HM9 : RowKit.Hid ((dOps (k + 1) eb lb).2.1 = l4) := iH (by rw [hsn])
    clear hsn
    have O9 := iH o9; have G9 := iH gf; have S9 := iH hsz9
    clear hown hgrow o9 gf hsz9 m0 m1 m2 m3
    go_wp2
    go_roundw
    case rel =>
     refine ⟨k + 1, u9, c9, _, ?_, by go_num, by omega, ?_, ?_, B5.out, S9.out, ⟨_, _, _, rfl⟩⟩
     ·rw [HL9.out]
     ·rw [HL9.out]; exact O9.out
     rw [HE9.out, HM9.out]; exact G9.out
    case measure => simp [intOf]; omega
   have x0 : (ek == 0) = false := by simpa using he0
   have hfin := FIN.out (.inl he0)
   clear he0 hek hxs
   obtain ⟨d0, j0⟩ := D0.out.cells 0; obtain ⟨d1, j1⟩ := D0.out.cells 1
   simp at d0 d1
   have g0 := xqa D0.out.ev 0 (.slice xa xn xc)
   have g1 := xqa g0 1 (.int .i64 ek)
   simp only [List.setIfInBounds_toArray, List.set_cons_zero, List.set_cons_succ] at g1
   have hkd : Kept wr ((wr.setCell ⟨w.heap.size + 1, 0, none⟩ (.slice xa xn xc)).setCell ⟨w.heap.size + 1, 1, none⟩ (.int .i64 ek)).drew [w.heap.size + 1] := (((Kept.refl wr [w.heap.size + 1]).setCell (.inl (by simp)) _).setCell (.inl (by simp)) _).drew
   have y0 := cell_of_row ((wr.setCell ⟨w.heap.size + 1, 0, none⟩ (.slice xa xn xc)).setCell ⟨w.heap.size + 1, 1, none⟩ (.int .i64 ek)).drew _ 0 _ _ _ g1; have y1 := cell_of_row ((wr.setCell ⟨w.heap.size + 1, 0, none⟩ (.slice xa xn xc)).setCell ⟨w.heap.size + 1, 1, none⟩ (.int .i64 ek)).drew _ 1 _ _ _ g1
   simp at y0 y1
   have KD := iH hkd
   clear hkd g0 g1
   obtain ⟨r0, r1, _, _⟩ := D0.out.rcell
   have FE := iH hfin
   clear hfin
   go_wp2
   go_region
   go_wp2
   refine bodyPost_ret (v := .tuple #[.slice ua xs.length uc, .agg #[.slice xa xn xc, .int .i64 ek]]) (by simp [results, Try.results33, go_sem, y0, y1]) rfl ?_
   rw [HG.out, <- FE.out, <- HE0.out, <- HL0.out, <- HX0.out]
   have hs := SZ.out
   exact ⟨_, ⟨_, rfl, D0.out.rd.kept2 KD.out (fun h3 b hb => by have := D0.out.vb h3 b hb; simp; omega), D0.out.k.trans KD.out (by intro x hx; simp at hx; exact .inr (by omega)), VB.out⟩, (OW.out.mono (by omega)).kept KD.out (fun b hb => by have := (OW.out.lt b hb).1; simp; omega)⟩
  have x0 : ¬ (k : Int) < (n0 : Int) := hlt
  have hfin := FIN.out (.inr (by have := HK.out; omega))
  clear hek hxs
  obtain ⟨d0, j0⟩ := D0.out.cells 0; obtain ⟨d1, j1⟩ := D0.out.cells 1
  simp at d0 d1
  have g0 := xqa D0.out.ev 0 (.slice xa xn xc)
  have g1 := xqa g0 1 (.int .i64 ek)
  simp only [List.setIfInBounds_toArray, List.set_cons_zero, List.set_cons_succ] at g1
  have hkd : Kept wr ((wr.setCell ⟨w.heap.size + 1, 0, none⟩ (.slice xa xn xc)).setCell ⟨w.heap.size + 1, 1, none⟩ (.int .i64 ek)).drew [w.heap.size + 1] := (((Kept.refl wr [w.heap.size + 1]).setCell (.inl (by simp)) _).setCell (.inl (by simp)) _).drew
  have y0 := cell_of_row ((wr.setCell ⟨w.heap.size + 1, 0, none⟩ (.slice xa xn xc)).setCell ⟨w.heap.size + 1, 1, none⟩ (.int .i64 ek)).drew _ 0 _ _ _ g1; have y1 := cell_of_row ((wr.setCell ⟨w.heap.size + 1, 0, none⟩ (.slice xa xn xc)).setCell ⟨w.heap.size + 1, 1, none⟩ (.int .i64 ek)).drew _ 1 _ _ _ g1
  simp at y0 y1
  have KD := iH hkd
  clear hkd g0 g1
  obtain ⟨r0, r1, _, _⟩ := D0.out.rcell
  have FE := iH hfin
  clear hfin
  go_wp2
  go_region
  go_wp2
  refine bodyPost_ret (v := .tuple #[.slice ua xs.length uc, .agg #[.slice xa xn xc, .int .i64 ek]]) (by simp [results, Try.results33, go_sem, y0, y1]) rfl ?_
  rw [HG.out, <- FE.out, <- HE0.out, <- HL0.out, <- HX0.out]
  have hs := SZ.out
  exact ⟨_, ⟨_, rfl, D0.out.rd.kept2 KD.out (fun h3 b hb => by have := D0.out.vb h3 b hb; simp; omega), D0.out.k.trans KD.out (by intro x hx; simp at hx; exact .inr (by omega)), VB.out⟩, (OW.out.mono (by omega)).kept KD.out (fun b hb => by have := (OW.out.lt b hb).1; simp; omega)⟩
theorem rgetEvents_any (v : Value) (e : Int) (l : List UInt8) (w : World) (h : Rd w v l) (hl : l.length <= 1000000000) :
  Calls Try.prog 34 #[.agg #[v, .int .i64 e]] w fun en w' => ∃ lv, GPost w v lv (gEvs e l).2.2 (gEvs e l).2.1 en w' /\ OwnK encP w' w.heap.size 76 lv (gEvs e l).1 := by
 obtain ⟨i0, hi0, hz0, hz1, hz2⟩ := info_parts Try.infoRp
 have H := iH h
 have hbl := h.block_lt
 obtain ⟨a, len, c, hv⟩ := h.shape3
 clear h
 subst hv
 obtain ⟨n0, hn0⟩ : ∃ n, n = (bA e l).1 := ⟨_, rfl⟩
 obtain ⟨lb, hlb⟩ : ∃ x, x = (bA e l).2.1 := ⟨_, rfl⟩
 obtain ⟨eb, heb⟩ : ∃ x, x = (bA e l).2.2 := ⟨_, rfl⟩
 have HB0 : RowKit.Hid (rfN 0 255 e l = (n0, lb, eb)) := iH (by rw [hn0, hlb, heb]; rfl)
 have hG : gEvs e l = dEvs n0 eb lb := by rw [hn0, hlb, heb]; rfl
 have h255 : eb = 0 -> n0 <= 255 := fun h0 => by rw [hn0]; exact bA_le e l (heb ▸ h0)
 have hlbl : lb.length <= l.length := by rw [hlb]; exact xqm _ _ _ _
 have HG := iH hG; have H255 := iH h255; have HLB := iH hlbl; have HBL := iH hbl
 clear hn0 hlb heb hG h255 hlbl hbl
 go_enter Try.func34, Try.ntmps34
 go_wp2_with fail
 refine (yqa _ e l 255 _ (H.out.kept (((Kept.refl w []).alloc _).alloc _) (by simp)) (by omega) (by omega)).mono ?_
 rw [HB0.out]
 rintro en w1 ⟨v1, rfl, g, k1, b1⟩
 obtain ⟨va1, vn1, vc1, hv⟩ := g.shape3
 subst hv
 have hB : w1.heap[w.heap.size + 1]? = some (.cells #[.slice none 0 0, .int .i64 0] 95 (0, 0)) := k1.heap (by simp) (by
  have := heap_alloc_new (w.alloc (.cells #[.slice a len c, .int .i64 e] 95)) (.cells #[.slice none 0 0, .int .i64 0] 95)
  simpa using this)
 have hz1s : w.heap.size + 1 < w1.heap.size := (Array.getElem?_eq_some_iff.1 hB).1
 obtain ⟨q, hq⟩ : ∃ q, q = w1.heap.size := ⟨_, rfl⟩
 obtain ⟨W2, hW2⟩ : ∃ W2, W2 = w1.alloc (.cells #[.slice va1 vn1 vc1, .int .i64 eb] 95) := ⟨_, rfl⟩
 have k2 : Kept w1 W2 [] := by rw [hW2]; exact (Kept.refl w1 []).alloc _
 have kw2 : Kept w W2 [] := ((((Kept.refl w []).alloc _).alloc _).trans k1 (by simp)).trans k2 (by simp)
 have hne1 : lb ≠ [] -> l ≠ [] := by have := HLB.out; rintro h3 rfl; exact h3 (List.eq_nil_of_length_eq_zero (by simpa using this))
 have D0 : RowKit.Hid (Gz w q (w.heap.size + 1) 95 (.slice va1 vn1 vc1) eb lb #[.slice none 0 0, .int .i64 0] W2) := iH
  ⟨g.kept k2 (by simp), by rw [hW2, hq]; exact heap_alloc_new w1 _, k2.heap (by simp) hB, kw2, by have := HLB.out; omega, by omega, by omega, fun h3 b hb' => HBL.out (hne1 h3) b (b1 b hb')⟩
 have SZ : RowKit.Hid (W2.heap.size = q + 1 /\ w.heap.size + 1 < q) := iH ⟨by rw [hW2]; simp [hq], by omega⟩
 have B1 := iH b1
 clear g k1 b1 hB hz1s k2 kw2 hne1
 go_upto_region 2 with fail
 rw [<- hW2, <- hq]
 clear hW2 hq
 go_wp2
 go_loopw [6, 7, 8, 9, 10, 11] (fun s6 s7 s8 s9 s10 s11 wr => ∃ (k : Nat) (ua : Option Addr) (uc : Nat) (vv : Value), s6 = .slice ua (dEvs k eb lb).1.length uc /\ s7 = .int .i64 k /\ k <= n0 /\ OwnK encP wr (q + 1) 76 (.slice ua (dEvs k eb lb).1.length uc) (dEvs k eb lb).1 /\ Gz w q (w.heap.size + 1) 95 vv (dEvs k eb lb).2.2 (dEvs k eb lb).2.1 #[.slice none 0 0, .int .i64 0] wr /\ (∀ x, vv.ownBlock = some x -> (Value.slice a len c).ownBlock = some x) /\ q + 1 <= wr.heap.size /\ (∃ a n c, vv = .slice a n c)) (fun s6 s7 s8 s9 s10 s11 wr => n0 - (intOf s7).toNat)
 case atStart => exact ⟨0, none, 0, _, rfl, rfl, Nat.zero_le _, OwnK.nil _ _ _, D0.out, B1.out, by have := SZ.out; omega, ⟨_, _, _, rfl⟩⟩
 case round =>
  clear D0
  obtain ⟨k, ua, uc, vv, rfl, rfl, hk, how, hgz, hvb, hsz, ⟨xa, xn, xc, rfl⟩⟩ := hrel
  obtain ⟨ek, hek⟩ : ∃ x, x = (dEvs k eb lb).2.2 := ⟨_, rfl⟩
  obtain ⟨lk, hlk⟩ : ∃ x, x = (dEvs k eb lb).2.1 := ⟨_, rfl⟩
  obtain ⟨xs, hxs⟩ : ∃ x, x = (dEvs k eb lb).1 := ⟨_, rfl⟩
  rw [<- hxs] at how ⊢
  rw [<- hek, <- hlk] at hgz
  have hxl : xs.length <= k := by rw [hxs]; exact dEvs_le k _ _
  have OW := iH how; have D0 := iH hgz; have VB := iH hvb; have SW := iH hsz; have HXL := iH hxl; have HK := iH hk
  have HE0 := iH hek; have HL0 := iH hlk; have HX0 := iH hxs
  obtain ⟨q0, q1, _, _⟩ := hgz.rcell
  clear how hgz hvb hsz hxl hk hlk
  have FIN : RowKit.Hid (ek ≠ 0 ∨ k = n0 -> dEvs k eb lb = dEvs n0 eb lb) := iH (fun h => by
   rcases h with h | h
   ·exact (dEvs_halt k n0 eb lb HK.out (by rw [<- HE0.out]; exact h)).symm
   ·rw [h])
  by_cases hlt : (k : Int) < (n0 : Int)
  ·by_cases he0 : ek = 0
   ·have hn255 : n0 <= 255 := H255.out (dEvs_zero (HE0.out.symm.trans he0))
    have hsn := dEvs_snoc k eb lb (HE0.out.symm.trans he0)
    rw [<- HE0.out, <- HL0.out, <- HX0.out] at hsn
    have HN := iH hn255
    subst he0
    have HSN := iH hsn
    clear hsn hn255 hek hxs
    obtain ⟨n1, l1, e1, hs1⟩ : ∃ n l' e', rfN 0 255 0 lk = (n, l', e') := ⟨_, _, _, rfl⟩
    obtain ⟨t2, l2, e2, hs2⟩ : ∃ n l' e', xqg 400 e1 l1 = (n, l', e') := ⟨_, _, _, rfl⟩
    have hA : pA 0 lk = (n1, l1, e1) := hs1
    have hBB : pB 0 lk = (t2, l2, e2) := by rw [pB, hA]; exact hs2
    have LN1 : RowKit.Hid (l1.length <= lk.length) := iH (by have := xqm 0 255 0 lk; rw [hs1] at this; exact this)
    have LN2 : RowKit.Hid (l2.length <= l1.length) := iH (by have h1 := xqE 400 e1 l1; rw [hs2] at h1; exact h1)
    have LT2 : RowKit.Hid (t2.length <= 1099511627796) := iH (by
     have h7 : (xqg 400 e1 l1).1.length <= l1.length := by
      have := xqt e1 l1
      unfold xqg xqG
      split
      ·split
       ·simp
       split
       ·simp
       simp only [List.length_take]; omega
      simp
     rw [hs2] at h7
     have h8 := LN1.out; have h9 := D0.out.len
     dsimp only at h7; omega)
    have HS1 := iH hs1; have HS2 := iH hs2; have HBB := iH hBB; have HA := iH hA
    have R0 := iH (Kept.refl wr [q])
    have hk255 : k < 255 := by have := HK.out; have := HN.out; omega
    clear hs1 hs2 hA hBB q0 q1
    obtain ⟨q0, q1, _, _⟩ := D0.out.rcell
    go_wp2_with fail
    refine (yqa _ 0 lk 255 _ D0.out.rd D0.out.len (by omega)).mono ?_
    rw [HS1.out]
    rintro en w2 ⟨v2, rfl, g, k, b⟩
    obtain ⟨va2, vn2, vc2, hv⟩ := g.shape3
    subst hv
    obtain ⟨u0, u1, f0, f1⟩ := (D0.out.keep k).rcell
    have G2 := iH (D0.out.call (e' := e1) g k b LN1.out)
    have R2 := iH (((R0.out.trans k (by simp)).setCell (p := ⟨q, 0, none⟩) (.inl (by simp)) (.slice va2 vn2 vc2)).setCell (p := ⟨q, 1, none⟩) (.inl (by simp)) (.int .i64 e1))
    have B2 := iH (fun x hx => VB.out x (b x hx))
    clear g k b q0 q1
    obtain ⟨q0, q1, _, _⟩ := G2.out.rcell
    go_wp2_with fail
    refine (xqQ _ 400 e1 l1 _ G2.out.rd G2.out.len (by omega)).mono ?_
    rw [HS2.out]
    rintro en w3 ⟨v3, rfl, g, k, b⟩
    obtain ⟨va3, vn3, vc3, hv⟩ := g.shape3
    subst hv
    obtain ⟨u0, u1, f0, f1⟩ := (G2.out.keep k).rcell
    have G3 := iH (G2.out.call (e' := e2) g k b LN2.out)
    have R3 := iH (((R2.out.trans k (by simp)).setCell (p := ⟨q, 0, none⟩) (.inl (by simp)) (.slice va3 vn3 vc3)).setCell (p := ⟨q, 1, none⟩) (.inl (by simp)) (.int .i64 e2))
    have B3 := iH (fun x hx => B2.out x (b x hx))
    clear g k b q0 q1
    go_upto_region 10 with fail
    obtain ⟨W3, hW3⟩ : ∃ W3, W3 = ((w3.setCell ⟨q, 0, none⟩ (.slice va3 vn3 vc3)).setCell ⟨q, 1, none⟩ (.int .i64 e2)) := ⟨_, rfl⟩
    rw [<- hW3] at G3 R3 ⊢
    clear hW3 u0 u1 f0 f1
    obtain ⟨q0, q1, _, _⟩ := G3.out.rcell
    by_cases he2 : e2 = 0
    ·have hsn := HSN.out
     rw [HBB.out, if_pos he2] at hsn
     subst he2
     obtain ⟨cc, w5, hcv, rd5, k5⟩ := conv_str W3 (strL t2)
     rw [strL_data] at rd5
     obtain ⟨⟨e0, e1x, e2x, e3x, e4x, e5x, e6x, e7x⟩, hE⟩ : ∃ E, E = dEv t2 := ⟨_, rfl⟩
     obtain ⟨f, hf⟩ : ∃ f, f = dErr t2 := ⟨_, rfl⟩
     have HD : RowKit.Hid (Calls Try.prog 65 #[.slice (some ⟨W3.heap.size, 0, none⟩) (strL t2).size cc] w5 fun e w' => e = .returned (.tuple #[.agg #[.int .i64 e0, .int .i64 e1x, .string e2x, .int .i64 e3x, .int .i64 e4x, .int .u8 e5x, .int .i64 e6x, .string e7x], .int .i64 f]) /\ Kept w5 w' []) := iH (by
      have := refdecode_any _ _ w5 rd5 (by exact LT2.out)
      rw [<- hE, <- hf] at this
      exact this)
     have hPl : dPl 0 lk = (⟨(n1 : Int), ⟨e0, e1x, e2x, e3x, e4x, e5x, e6x, e7x⟩⟩ : Px) := by rw [dPl, HA.out, HBB.out]; dsimp only; rw [<- hE]
     have hpL : pL 0 lk = if f = 0 then l2 else [] := by rw [pL, HBB.out, hf]
     rw [hPl, hpL, <- hf] at hsn
     have HSN2 := iH hsn
     have K5 := iH k5
     clear hsn hPl hpL hE hf rd5 k5
     go_wp2_with fail
     refine HD.out.mono ?_
     rintro en w6 ⟨rfl, k6⟩
     obtain ⟨W7, hW7⟩ : ∃ W7, W7 = w6.alloc (.cells #[.int .i64 e0, .int .i64 e1x, .string e2x, .int .i64 e3x, .int .i64 e4x, .int .u8 e5x, .int .i64 e6x, .string e7x] 69) := ⟨_, rfl⟩
     have k7 : Kept W3 W7 [] := by rw [hW7]; exact (K5.out.trans k6 (by simp)).alloc _
     have b7 : W7.heap[w6.heap.size]? = some (.cells #[.int .i64 e0, .int .i64 e1x, .string e2x, .int .i64 e3x, .int .i64 e4x, .int .u8 e5x, .int .i64 e6x, .string e7x] 69 (0, 0)) := by rw [hW7]; exact heap_alloc_new w6 _
     have G7 := iH (G3.out.keep k7); have R7 := iH (R3.out.trans k7 (by simp))
     have hzq : q < w6.heap.size := by have h1 := (Array.getElem?_eq_some_iff.1 G3.out.at_).1; have h2 := (K5.out.trans k6 (by simp)).size; omega
     have B7 := iH b7
     have nq1 : ¬ w6.heap.size = q := by omega
     have nq2 : ¬ q = w6.heap.size := by omega
     clear k6 k7 b7 hcv q0 q1 hzq
     go_upto_region 12 with fail
     rw [<- hW7]
     clear hW7
     have m0 := cell_of_row W7 w6.heap.size 0 _ _ _ B7.out
     have m1 := cell_of_row W7 w6.heap.size 1 _ _ _ B7.out
     have m2 := cell_of_row W7 w6.heap.size 2 _ _ _ B7.out
     have m3 := cell_of_row W7 w6.heap.size 3 _ _ _ B7.out
     have m4 := cell_of_row W7 w6.heap.size 4 _ _ _ B7.out
     have m5 := cell_of_row W7 w6.heap.size 5 _ _ _ B7.out
     have m6 := cell_of_row W7 w6.heap.size 6 _ _ _ B7.out
     have m7 := cell_of_row W7 w6.heap.size 7 _ _ _ B7.out
     simp at m0 m1 m2 m3 m4 m5 m6 m7
     by_cases hf0 : f = 0
     ·subst hf0
      have OA := iH (OW.out.kept R7.out (fun b hb => by have h1 := OW.out.lt b hb; simp; omega))
      have SRC := xqI (E := encP) (P := Try.prog) (t := 76) W7 (⟨(n1 : Int), ⟨e0, e1x, e2x, e3x, e4x, e5x, e6x, e7x⟩⟩ : Px) (tx := 29) Try.underlying29
      simp only [encP, Px.cs] at SRC
      have SRC := iH SRC
      have OO := iH (OA.out.keep ((Kept.refl W7 []).alloc (.cells #[.int .i64 (n1 : Nat), .int .i64 e0, .int .i64 e1x, .string e2x, .int .i64 e3x, .int .i64 e4x, .int .u8 e5x, .int .i64 e6x, .string e7x] 76)))
      have HS : RowKit.Hid (q + 1 <= (W7.alloc (.cells #[.int .i64 (n1 : Nat), .int .i64 e0, .int .i64 e1x, .string e2x, .int .i64 e3x, .int .i64 e4x, .int .u8 e5x, .int .i64 e6x, .string e7x] 76)).heap.size) := iH (by have h1 := SW.out; have h2 := R7.out.size; simp; omega)
      go_wp2_with (at_builtin; refine xqp _ rfl (.tmp 50) (.tmp 54) 29 29 rfl (q + 1) 76 i0 _ 9 88 Try.underlying29 hi0 hz0 hz1 hz2 rfl (.slice ua xs.length uc) xs.length (kcs encP xs) rfl OO.out (.slice (some ⟨W7.heap.size, 0, none⟩) 1 1) 1 _ rfl SRC.out (by have := HXL.out; have := HK.out; have := HN.out; unfold maxLen; omega) (by have := HXL.out; have := HK.out; have := HN.out; omega) HS.out ?nexta)
      case nexta =>
      intro v9 w9 hown _ hgrow _
      have o9 : OwnK encP w9 (q + 1) 76 v9 (xs ++ [(⟨(n1 : Int), ⟨e0, e1x, e2x, e3x, e4x, e5x, e6x, e7x⟩⟩ : Px)]) := by
       unfold OwnK
       rw [xqv, xqu, List.length_append]
       exact hown
      have gf := G7.out.fin2 _ hgrow (fun b hb => (OW.out.lt b hb).1) (by have := SZ.out; omega)
      have hsz9 : q + 1 <= w9.heap.size := Nat.le_trans HS.out hgrow.size
      obtain ⟨u9, c9, e9⟩ := o9.shape
      subst e9
      have hsn := HSN2.out
      have HL9 : RowKit.Hid ((dEvs (k + 1) eb lb).1 = xs ++ [(⟨(n1 : Int), ⟨e0, e1x, e2x, e3x, e4x, e5x, e6x, e7x⟩⟩ : Px)]) := iH (by rw [hsn])
      have HE9 : RowKit.Hid ((dEvs (k + 1) eb lb).2.2 = 0) := iH (by rw [hsn])
      have HM9 : RowKit.Hid ((dEvs (k + 1) eb lb).2.1 = l2) := iH (by rw [hsn]; rfl)
      clear hsn
      clear m0 m1 m2 m3 m4 m5 m6 m7
      have O9 := iH o9; have G9 := iH gf; have S9 := iH hsz9
      clear hown hgrow o9 gf hsz9
      go_wp2
      go_roundw
      case rel =>
       refine ⟨k + 1, u9, c9, _, ?_, by go_num, by omega, ?_, ?_, B3.out, S9.out, ⟨_, _, _, rfl⟩⟩
       ·rw [HL9.out]
       ·rw [HL9.out]; exact O9.out
       rw [HE9.out, HM9.out]; exact G9.out
      case measure => simp [intOf]; omega
     have x9 : (f != 0) = true := by simpa using hf0
     have hfne : ¬ f = 0 := hf0
     obtain ⟨u0, u1, f0, f1⟩ := G7.out.rcell
     have G8 := iH (G7.out.lay (e' := f) (v' := .slice none 0 0) (l' := []) (Rd.nil _) (fun b hb => by simp [Value.ownBlock] at hb) (by simp))
     have R8 := iH ((R7.out.setCell (p := ⟨q, 0, none⟩) (.inl (by simp)) (.slice none 0 0)).setCell (p := ⟨q, 1, none⟩) (.inl (by simp)) (.int .i64 f))
     have HF0 := iH hf0
     clear hf0 hfne
     go_upto_region 14 with fail
     obtain ⟨W8, hW8⟩ : ∃ W8, W8 = (W7.setCell ⟨q, 0, none⟩ (.slice none 0 0)).setCell ⟨q, 1, none⟩ (.int .i64 f) := ⟨_, rfl⟩
     have B8 : RowKit.Hid (W8.heap[w6.heap.size]? = some (.cells #[.int .i64 e0, .int .i64 e1x, .string e2x, .int .i64 e3x, .int .i64 e4x, .int .u8 e5x, .int .i64 e6x, .string e7x] 69 (0, 0))) := iH (by rw [hW8]; exact (((Kept.refl W7 [q]).setCell (.inl (by simp)) _).setCell (.inl (by simp)) _).heap (by simpa using nq1) B7.out)
     rw [<- hW8] at G8 R8 ⊢
     clear hW8 u0 u1 f0 f1 m0 m1 m2 m3 m4 m5 m6 m7
     have m0 := cell_of_row W8 w6.heap.size 0 _ _ _ B8.out
     have m1 := cell_of_row W8 w6.heap.size 1 _ _ _ B8.out
     have m2 := cell_of_row W8 w6.heap.size 2 _ _ _ B8.out
     have m3 := cell_of_row W8 w6.heap.size 3 _ _ _ B8.out
     have m4 := cell_of_row W8 w6.heap.size 4 _ _ _ B8.out
     have m5 := cell_of_row W8 w6.heap.size 5 _ _ _ B8.out
     have m6 := cell_of_row W8 w6.heap.size 6 _ _ _ B8.out
     have m7 := cell_of_row W8 w6.heap.size 7 _ _ _ B8.out
     simp at m0 m1 m2 m3 m4 m5 m6 m7
     have OA := iH (OW.out.kept R8.out (fun b hb => by have h1 := OW.out.lt b hb; simp; omega))
     have SRC := xqI (E := encP) (P := Try.prog) (t := 76) W8 (⟨(n1 : Int), ⟨e0, e1x, e2x, e3x, e4x, e5x, e6x, e7x⟩⟩ : Px) (tx := 29) Try.underlying29
     simp only [encP, Px.cs] at SRC
     have SRC := iH SRC
     have OO := iH (OA.out.keep ((Kept.refl W8 []).alloc (.cells #[.int .i64 (n1 : Nat), .int .i64 e0, .int .i64 e1x, .string e2x, .int .i64 e3x, .int .i64 e4x, .int .u8 e5x, .int .i64 e6x, .string e7x] 76)))
     have HS : RowKit.Hid (q + 1 <= (W8.alloc (.cells #[.int .i64 (n1 : Nat), .int .i64 e0, .int .i64 e1x, .string e2x, .int .i64 e3x, .int .i64 e4x, .int .u8 e5x, .int .i64 e6x, .string e7x] 76)).heap.size) := iH (by have h1 := SW.out; have h2 := R8.out.size; simp; omega)
     go_wp2_with (at_builtin; refine xqp _ rfl (.tmp 50) (.tmp 54) 29 29 rfl (q + 1) 76 i0 _ 9 88 Try.underlying29 hi0 hz0 hz1 hz2 rfl (.slice ua xs.length uc) xs.length (kcs encP xs) rfl OO.out (.slice (some ⟨W8.heap.size, 0, none⟩) 1 1) 1 _ rfl SRC.out (by have := HXL.out; have := HK.out; have := HN.out; unfold maxLen; omega) (by have := HXL.out; have := HK.out; have := HN.out; omega) HS.out ?nexta)
     case nexta =>
     intro v9 w9 hown _ hgrow _
     have o9 : OwnK encP w9 (q + 1) 76 v9 (xs ++ [(⟨(n1 : Int), ⟨e0, e1x, e2x, e3x, e4x, e5x, e6x, e7x⟩⟩ : Px)]) := by
      unfold OwnK
      rw [xqv, xqu, List.length_append]
      exact hown
     have gf := G8.out.fin2 _ hgrow (fun b hb => (OW.out.lt b hb).1) (by have := SZ.out; omega)
     have hsz9 : q + 1 <= w9.heap.size := Nat.le_trans HS.out hgrow.size
     obtain ⟨u9, c9, e9⟩ := o9.shape
     subst e9
     have hsn := HSN2.out
     have HL9 : RowKit.Hid ((dEvs (k + 1) eb lb).1 = xs ++ [(⟨(n1 : Int), ⟨e0, e1x, e2x, e3x, e4x, e5x, e6x, e7x⟩⟩ : Px)]) := iH (by rw [hsn])
     have HE9 : RowKit.Hid ((dEvs (k + 1) eb lb).2.2 = f) := iH (by rw [hsn])
     have HM9 : RowKit.Hid ((dEvs (k + 1) eb lb).2.1 = []) := iH (by rw [hsn]; exact if_neg HF0.out)
     clear hsn
     clear m0 m1 m2 m3 m4 m5 m6 m7
     have O9 := iH o9; have G9 := iH gf; have S9 := iH hsz9
     clear hown hgrow o9 gf hsz9
     go_wp2
     go_roundw
     case rel =>
      refine ⟨k + 1, u9, c9, _, ?_, by go_num, by omega, ?_, ?_, (show ∀ x, (Value.slice none 0 0).ownBlock = some x -> (Value.slice a len c).ownBlock = some x from fun x hx => by simp [Value.ownBlock] at hx), S9.out, ⟨_, _, _, rfl⟩⟩
      ·rw [HL9.out]
      ·rw [HL9.out]; exact O9.out
      rw [HE9.out, HM9.out]; exact G9.out
     case measure => simp [intOf]; omega
    have hsn := HSN.out
    rw [HBB.out, if_neg he2] at hsn
    have hfin : dEvs n0 eb lb = (xs, l2, e2) := by
     rw [<- hsn]
     exact dEvs_halt (k + 1) n0 eb lb (by have := HK.out; omega) (by rw [hsn]; exact he2)
    have FE := iH hfin
    have x9 : (e2 != 0) = true := by simpa using he2
    have OA := iH (OW.out.kept R3.out (fun b hb => by have h1 := OW.out.lt b hb; simp; omega))
    clear hsn hfin q0 q1
    skip
    obtain ⟨d0, j0⟩ := G3.out.cells 0; obtain ⟨d1, j1⟩ := G3.out.cells 1
    simp at d0 d1
    have g0 := xqa G3.out.ev 0 (.slice va3 vn3 vc3)
    have g1 := xqa g0 1 (.int .i64 e2)
    simp only [List.setIfInBounds_toArray, List.set_cons_zero, List.set_cons_succ] at g1
    have hkd : Kept W3 ((W3.setCell ⟨w.heap.size + 1, 0, none⟩ (.slice va3 vn3 vc3)).setCell ⟨w.heap.size + 1, 1, none⟩ (.int .i64 e2)).drew [w.heap.size + 1] := (((Kept.refl W3 [w.heap.size + 1]).setCell (.inl (by simp)) _).setCell (.inl (by simp)) _).drew
    have y0 := cell_of_row ((W3.setCell ⟨w.heap.size + 1, 0, none⟩ (.slice va3 vn3 vc3)).setCell ⟨w.heap.size + 1, 1, none⟩ (.int .i64 e2)).drew _ 0 _ _ _ g1; have y1 := cell_of_row ((W3.setCell ⟨w.heap.size + 1, 0, none⟩ (.slice va3 vn3 vc3)).setCell ⟨w.heap.size + 1, 1, none⟩ (.int .i64 e2)).drew _ 1 _ _ _ g1
    simp at y0 y1
    have KD := iH hkd
    clear hkd g0 g1
    obtain ⟨r0, r1, _, _⟩ := G3.out.rcell
    go_wp2
    go_region
    go_wp2
    refine bodyPost_ret (v := .tuple #[.slice ua xs.length uc, .agg #[.slice va3 vn3 vc3, .int .i64 e2]]) (by simp [results, Try.results34, go_sem, y0, y1]) rfl ?_
    rw [HG.out, FE.out]
    have hs := SZ.out
    exact ⟨_, ⟨_, rfl, G3.out.rd.kept2 KD.out (fun h3 b hb => by have := G3.out.vb h3 b hb; simp; omega), G3.out.k.trans KD.out (by intro x hx; simp at hx; exact .inr (by omega)), B3.out⟩, (OA.out.mono (by omega)).kept KD.out (fun b hb => by have := (OA.out.lt b hb).1; simp; omega)⟩
   have x0 : (ek == 0) = false := by simpa using he0
   have hfin := FIN.out (.inl he0)
   clear he0 hek hxs
   obtain ⟨d0, j0⟩ := D0.out.cells 0; obtain ⟨d1, j1⟩ := D0.out.cells 1
   simp at d0 d1
   have g0 := xqa D0.out.ev 0 (.slice xa xn xc)
   have g1 := xqa g0 1 (.int .i64 ek)
   simp only [List.setIfInBounds_toArray, List.set_cons_zero, List.set_cons_succ] at g1
   have hkd : Kept wr ((wr.setCell ⟨w.heap.size + 1, 0, none⟩ (.slice xa xn xc)).setCell ⟨w.heap.size + 1, 1, none⟩ (.int .i64 ek)).drew [w.heap.size + 1] := (((Kept.refl wr [w.heap.size + 1]).setCell (.inl (by simp)) _).setCell (.inl (by simp)) _).drew
   have y0 := cell_of_row ((wr.setCell ⟨w.heap.size + 1, 0, none⟩ (.slice xa xn xc)).setCell ⟨w.heap.size + 1, 1, none⟩ (.int .i64 ek)).drew _ 0 _ _ _ g1; have y1 := cell_of_row ((wr.setCell ⟨w.heap.size + 1, 0, none⟩ (.slice xa xn xc)).setCell ⟨w.heap.size + 1, 1, none⟩ (.int .i64 ek)).drew _ 1 _ _ _ g1
   simp at y0 y1
   have KD := iH hkd
   clear hkd g0 g1
   obtain ⟨r0, r1, _, _⟩ := D0.out.rcell
   have FE := iH hfin
   clear hfin
   go_wp2
   go_region
   go_wp2
   refine bodyPost_ret (v := .tuple #[.slice ua xs.length uc, .agg #[.slice xa xn xc, .int .i64 ek]]) (by simp [results, Try.results34, go_sem, y0, y1]) rfl ?_
   rw [HG.out, <- FE.out, <- HE0.out, <- HL0.out, <- HX0.out]
   have hs := SZ.out
   exact ⟨_, ⟨_, rfl, D0.out.rd.kept2 KD.out (fun h3 b hb => by have := D0.out.vb h3 b hb; simp; omega), D0.out.k.trans KD.out (by intro x hx; simp at hx; exact .inr (by omega)), VB.out⟩, (OW.out.mono (by omega)).kept KD.out (fun b hb => by have := (OW.out.lt b hb).1; simp; omega)⟩
  have x0 : ¬ (k : Int) < (n0 : Int) := hlt
  have hfin := FIN.out (.inr (by have := HK.out; omega))
  clear hek hxs
  obtain ⟨d0, j0⟩ := D0.out.cells 0; obtain ⟨d1, j1⟩ := D0.out.cells 1
  simp at d0 d1
  have g0 := xqa D0.out.ev 0 (.slice xa xn xc)
  have g1 := xqa g0 1 (.int .i64 ek)
  simp only [List.setIfInBounds_toArray, List.set_cons_zero, List.set_cons_succ] at g1
  have hkd : Kept wr ((wr.setCell ⟨w.heap.size + 1, 0, none⟩ (.slice xa xn xc)).setCell ⟨w.heap.size + 1, 1, none⟩ (.int .i64 ek)).drew [w.heap.size + 1] := (((Kept.refl wr [w.heap.size + 1]).setCell (.inl (by simp)) _).setCell (.inl (by simp)) _).drew
  have y0 := cell_of_row ((wr.setCell ⟨w.heap.size + 1, 0, none⟩ (.slice xa xn xc)).setCell ⟨w.heap.size + 1, 1, none⟩ (.int .i64 ek)).drew _ 0 _ _ _ g1; have y1 := cell_of_row ((wr.setCell ⟨w.heap.size + 1, 0, none⟩ (.slice xa xn xc)).setCell ⟨w.heap.size + 1, 1, none⟩ (.int .i64 ek)).drew _ 1 _ _ _ g1
  simp at y0 y1
  have KD := iH hkd
  clear hkd g0 g1
  obtain ⟨r0, r1, _, _⟩ := D0.out.rcell
  have FE := iH hfin
  clear hfin
  go_wp2
  go_region
  go_wp2
  refine bodyPost_ret (v := .tuple #[.slice ua xs.length uc, .agg #[.slice xa xn xc, .int .i64 ek]]) (by simp [results, Try.results34, go_sem, y0, y1]) rfl ?_
  rw [HG.out, <- FE.out, <- HE0.out, <- HL0.out, <- HX0.out]
  have hs := SZ.out
  exact ⟨_, ⟨_, rfl, D0.out.rd.kept2 KD.out (fun h3 b hb => by have := D0.out.vb h3 b hb; simp; omega), D0.out.k.trans KD.out (by intro x hx; simp at hx; exact .inr (by omega)), VB.out⟩, (OW.out.mono (by omega)).kept KD.out (fun b hb => by have := (OW.out.lt b hb).1; simp; omega)⟩
end Go.Proofs.Ytjdbmlifekghfaa
