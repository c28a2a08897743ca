/-
  Ee, Ef, Eg in one text.
-/
import Derived.Test.YtjdbmlifekghfaaEt0
import Derived.Test.YtjdbmlifekghfaaEt4
set_option linter.unusedVariables false
set_option maxHeartbeats 16000000
set_option maxRecDepth 100000
namespace Go.Proofs.Ytjdbmlifekghfaa
open Go.RowKit
theorem xqm (lo hi : Nat) (e : Int) (l : List UInt8) : (rfN lo hi e l).2.1.length <= l.length := by
 unfold rfN
 split
 ·simp
 exact xqt _ _
structure Dr (w0 : World) (B q p : Nat) (v : Value) (e : Int) (l : List UInt8) (cs : Array Value) (w : World) : Prop where
 rd : Rd w v l
 at_ : w.heap[q]? = some (.cells #[v, .int .i64 e] 95 (0, 0))
 ev : w.heap[p]? = some (.cells cs 69 (0, 0))
 res : w.heap[B]? = some (.cells Ev.zero.cs 69 (0, 0))
 k : Kept w0 w []
 len : l.length <= 1099511627796
 pq : p ≠ q /\ B ≠ q /\ B ≠ p
 low : w0.heap.size <= q /\ w0.heap.size <= p /\ w0.heap.size <= B
 vb : l ≠ [] -> ∀ b, v.ownBlock = some b -> b < w0.heap.size
theorem Dr.call {w0 : World} {B q p : Nat} {v v' : Value} {e e' : Int} {l l' : List UInt8} {cs : Array Value} {w w' : World} (h : Dr w0 B q p v e l cs w) (hr : Rd w' v' l') (hk : Kept w w' []) (hb : ∀ b, v'.ownBlock = some b -> v.ownBlock = some b) (hl : l'.length <= l.length) :
  Dr w0 B q p v' e' l' cs ((w'.setCell ⟨q, 0, none⟩ v').setCell ⟨q, 1, none⟩ (.int .i64 e')) := by
 have h1 := h.pq; have h2 := h.low
 have hne : l' ≠ [] -> l ≠ [] := by rintro h3 rfl; exact h3 (List.eq_nil_of_length_eq_zero (by simpa using hl))
 have hvb : l' ≠ [] -> ∀ b, v'.ownBlock = some b -> b < w0.heap.size := fun h3 b hb' => h.vb (hne h3) b (hb b hb')
 have hk2 : Kept w' ((w'.setCell ⟨q, 0, none⟩ v').setCell ⟨q, 1, none⟩ (.int .i64 e')) [q] := ((Kept.refl w' [q]).setCell (.inl (by simp)) _).setCell (.inl (by simp)) _
 have hq := hk.heap (by simp) h.at_
 refine ⟨hr.kept2 hk2 (fun h3 b hb' => by have := hvb h3 b hb'; simp; omega), ?_, hk2.heap (by simp; omega) (hk.heap (by simp) h.ev), hk2.heap (by simp; omega) (hk.heap (by simp) h.res), (h.k.trans hk (by simp)).trans hk2 (by intro x hx; simp at hx; exact .inr (by omega)), Nat.le_trans hl h.len, h.pq, h.low, hvb⟩
 have h3 := xqa hq 0 v'
 simpa using xqa h3 1 (.int .i64 e')
theorem Dr.store {w0 : World} {B q p : Nat} {v : Value} {e : Int} {l : List UInt8} {cs : Array Value} {w : World} (h : Dr w0 B q p v e l cs w) (j : Nat) (u : Value) : Dr w0 B q p v e l (cs.setIfInBounds j u) (w.setCell ⟨p, j, none⟩ u) := by
 have h1 := h.pq; have h2 := h.low
 have hk : Kept w (w.setCell ⟨p, j, none⟩ u) [p] := (Kept.refl w [p]).setCell (.inl (by simp)) _
 exact ⟨h.rd.kept2 hk (fun h3 b hb' => by have := h.vb h3 b hb'; simp; omega), hk.heap (by simp; omega) h.at_, xqa h.ev j u, hk.heap (by simp; omega) h.res, h.k.trans hk (by intro x hx; simp at hx; exact .inr (by omega)), h.len, h.pq, h.low, h.vb⟩
theorem Dr.both {w0 : World} {B q p : Nat} {v v' : Value} {e e' : Int} {l l' : List UInt8} {cs : Array Value} {w w' : World} (h : Dr w0 B q p v e l cs w) (hr : Rd w' v' l') (hk : Kept w w' []) (hb : ∀ b, v'.ownBlock = some b -> v.ownBlock = some b) (hl : l'.length <= l.length) (j : Nat) (u : Value) :
  Dr w0 B q p v' e' l' (cs.setIfInBounds j u) (((w'.setCell ⟨p, j, none⟩ u).setCell ⟨q, 0, none⟩ v').setCell ⟨q, 1, none⟩ (.int .i64 e')) := by
 have h1 := h.pq; have h2 := h.low
 have hne : l' ≠ [] -> l ≠ [] := by rintro h3 rfl; exact h3 (List.eq_nil_of_length_eq_zero (by simpa using hl))
 have hk2 : Kept w' (w'.setCell ⟨p, j, none⟩ u) [p] := (Kept.refl w' [p]).setCell (.inl (by simp)) _
 have hs := h.store j u
 have hr' : Rd (w'.setCell ⟨p, j, none⟩ u) v' l' := hr.kept2 hk2 (fun h3 b hb' => by have := h.vb (hne h3) b (hb b hb'); simp; omega)
 have hk3 : Kept (w.setCell ⟨p, j, none⟩ u) (w'.setCell ⟨p, j, none⟩ u) [] := by
  refine ⟨hk.os, hk.tape, hk.output, by simpa [World.setCell] using hk.size, fun i hi _ => ?_⟩
  have hi' : i < w.heap.size := by simpa [World.setCell] using hi
  have := hk.block i hi' (by simp)
  simp only [World.setCell, Array.getElem?_modify]
  rw [this]
 exact hs.call hr' hk3 hb hl
theorem Dr.rcell {w0 : World} {B q p : Nat} {v : Value} {e : Int} {l : List UInt8} {cs : Array Value} {w : World} (h : Dr w0 B q p v e l cs w) : w.cell? ⟨q, 0, none⟩ = some v /\ w.cell? ⟨q, 1, none⟩ = some (.int .i64 e) /\ w.frozen? ⟨q, 0, none⟩ = false /\ w.frozen? ⟨q, 1, none⟩ = false :=
 ⟨by simpa using cell_of_row w q 0 _ _ _ h.at_, by simpa using cell_of_row w q 1 _ _ _ h.at_, frozen_of_row w q 0 _ _ h.at_, frozen_of_row w q 1 _ _ h.at_⟩
theorem Dr.keep {w0 : World} {B q p : Nat} {v : Value} {e : Int} {l : List UInt8} {cs : Array Value} {w w' : World} (h : Dr w0 B q p v e l cs w) (hk : Kept w w' []) : Dr w0 B q p v e l cs w' :=
 ⟨h.rd.kept hk (by simp), hk.heap (by simp) h.at_, hk.heap (by simp) h.ev, hk.heap (by simp) h.res, h.k.trans hk (by simp), h.len, h.pq, h.low, h.vb⟩
theorem Dr.cells {w0 : World} {B q p : Nat} {v : Value} {e : Int} {l : List UInt8} {cs : Array Value} {w : World} (h : Dr w0 B q p v e l cs w) (j : Nat) : w.cell? ⟨p, j, none⟩ = cs[j]? /\ w.frozen? ⟨p, j, none⟩ = false :=
 ⟨cell_of_row w p j _ _ _ h.ev, frozen_of_row w p j _ _ h.ev⟩
theorem Dr.bcells {w0 : World} {B q p : Nat} {v : Value} {e : Int} {l : List UInt8} {cs : Array Value} {w : World} (h : Dr w0 B q p v e l cs w) (j : Nat) : w.cell? ⟨B, j, none⟩ = Ev.zero.cs[j]? /\ w.frozen? ⟨B, j, none⟩ = false :=
 ⟨cell_of_row w B j _ _ _ h.res, frozen_of_row w B j _ _ h.res⟩
theorem refdecode_any (v : Value) (l : List UInt8) (w : World) (h : Rd w v l) (hl : l.length <= 1099511627796) :
  Calls Try.prog 65 #[v] w fun e w' => e = .returned (.tuple #[.agg (dEv l).cs, .int .i64 (dErr l)]) /\ Kept w w' [] := by
 have H := iH h
 have hbl := h.block_lt
 obtain ⟨a, len, c, hv⟩ := h.shape3
 clear h
 subst hv
 obtain ⟨n1, hn1⟩ : ∃ n, n = (d1 l).1 := ⟨_, rfl⟩
 obtain ⟨e1, he1⟩ : ∃ e, e = (d1 l).2.2 := ⟨_, rfl⟩
 obtain ⟨l1, hl1⟩ : ∃ e, e = (d1 l).2.1 := ⟨_, rfl⟩
 obtain ⟨n2, hn2⟩ : ∃ n, n = (d2 l).1 := ⟨_, rfl⟩
 obtain ⟨e2, he2⟩ : ∃ e, e = (d2 l).2.2 := ⟨_, rfl⟩
 obtain ⟨l2, hl2⟩ : ∃ e, e = (d2 l).2.1 := ⟨_, rfl⟩
 obtain ⟨n3, hn3⟩ : ∃ n, n = (d3 l).1 := ⟨_, rfl⟩
 obtain ⟨e3, he3⟩ : ∃ e, e = (d3 l).2.2 := ⟨_, rfl⟩
 obtain ⟨l3, hl3⟩ : ∃ e, e = (d3 l).2.1 := ⟨_, rfl⟩
 obtain ⟨n4, hn4⟩ : ∃ n, n = (d4 l).1 := ⟨_, rfl⟩
 obtain ⟨e4, he4⟩ : ∃ e, e = (d4 l).2.2 := ⟨_, rfl⟩
 obtain ⟨l4, hl4⟩ : ∃ e, e = (d4 l).2.1 := ⟨_, rfl⟩
 obtain ⟨n5, hn5⟩ : ∃ n, n = (d5 l).1 := ⟨_, rfl⟩
 obtain ⟨e5, he5⟩ : ∃ e, e = (d5 l).2.2 := ⟨_, rfl⟩
 obtain ⟨l5, hl5⟩ : ∃ e, e = (d5 l).2.1 := ⟨_, rfl⟩
 obtain ⟨n6, hn6⟩ : ∃ n, n = (d6 l).1 := ⟨_, rfl⟩
 obtain ⟨e6, he6⟩ : ∃ e, e = (d6 l).2.2 := ⟨_, rfl⟩
 obtain ⟨l6, hl6⟩ : ∃ e, e = (d6 l).2.1 := ⟨_, rfl⟩
 obtain ⟨n7, hn7⟩ : ∃ n, n = (d7 l).1 := ⟨_, rfl⟩
 obtain ⟨e7, he7⟩ : ∃ e, e = (d7 l).2.2 := ⟨_, rfl⟩
 obtain ⟨l7, hl7⟩ : ∃ e, e = (d7 l).2.1 := ⟨_, rfl⟩
 obtain ⟨n8, hn8⟩ : ∃ n, n = (d8 l).1 := ⟨_, rfl⟩
 obtain ⟨e8, he8⟩ : ∃ e, e = (d8 l).2.2 := ⟨_, rfl⟩
 obtain ⟨l8, hl8⟩ : ∃ e, e = (d8 l).2.1 := ⟨_, rfl⟩
 have hE : dErr l = rEnd e8 l8 := by rw [he8, hl8]; rfl
 have hV : dErr l = 0 -> (dEv l).cs = #[.int .i64 (wrap64 (n1 : Int)), .int .i64 (wrap64 (n2 : Int)), .string (strL n3), .int .i64 (wrap64 (n4 : Int)), .int .i64 (wrap64 (n5 : Int)), .int .u8 ((n6 : Int) % 256), .int .i64 n7, .string (strL n8)] := by
  intro h0
  rw [dEv, if_pos h0, hn1, hn2, hn3, hn4, hn5, hn6, hn7, hn8]
  rfl
 have H1 : RowKit.Hid (rfN 1 9223372036854775807 0 l = (n1, l1, e1)) := iH (by rw [hn1, hl1, he1]; rfl)
 have H2 : RowKit.Hid (rfN 1 9223372036854775807 e1 l1 = (n2, l2, e2)) := iH (by rw [hn2, hl2, he2, he1, hl1]; rfl)
 have H3 : RowKit.Hid (xqg 40 e2 l2 = (n3, l3, e3)) := iH (by rw [hn3, hl3, he3, he2, hl2]; rfl)
 have H4 : RowKit.Hid (rfN 0 2147483647 e3 l3 = (n4, l4, e4)) := iH (by rw [hn4, hl4, he4, he3, hl3]; rfl)
 have H5 : RowKit.Hid (rfN 0 3 e4 l4 = (n5, l5, e5)) := iH (by rw [hn5, hl5, he5, he4, hl4]; rfl)
 have H6 : RowKit.Hid (rfN 1 4 e5 l5 = (n6, l6, e6)) := iH (by rw [hn6, hl6, he6, he5, hl5]; rfl)
 have H7 : RowKit.Hid (rfI e6 l6 = (n7, l7, e7)) := iH (by rw [hn7, hl7, he7, he6, hl6]; rfl)
 have H8 : RowKit.Hid (xqg 40 e7 l7 = (n8, l8, e8)) := iH (by rw [hn8, hl8, he8, he7, hl7]; rfl)
 have HE := iH hE; have HV := iH hV
 clear hE hV hn1 he1 hl1 hn2 he2 hl2 hn3 he3 hl3 hn4 he4 hl4 hn5 he5 hl5 hn6 he6 hl6 hn7 he7 hl7 hn8 he8 hl8
 have D0 : RowKit.Hid (Dr w w.heap.size (w.heap.size + 1) (w.heap.size + 1 + 1) (.slice a len c) 0 l #[.int .i64 0, .int .i64 0, .string ⟨#[]⟩, .int .i64 0, .int .i64 0, .int .u8 0, .int .i64 0, .string ⟨#[]⟩] (((w.alloc (.cells #[.int .i64 0, .int .i64 0, .string ⟨#[]⟩, .int .i64 0, .int .i64 0, .int .u8 0, .int .i64 0, .string ⟨#[]⟩] 69)).alloc (.cells #[.slice a len c, .int .i64 0] 95)).alloc (.cells #[.int .i64 0, .int .i64 0, .string ⟨#[]⟩, .int .i64 0, .int .i64 0, .int .u8 0, .int .i64 0, .string ⟨#[]⟩] 69))) := iH (by
  have k3 : Kept w (((w.alloc (.cells #[.int .i64 0, .int .i64 0, .string ⟨#[]⟩, .int .i64 0, .int .i64 0, .int .u8 0, .int .i64 0, .string ⟨#[]⟩] 69)).alloc (.cells #[.slice a len c, .int .i64 0] 95)).alloc (.cells #[.int .i64 0, .int .i64 0, .string ⟨#[]⟩, .int .i64 0, .int .i64 0, .int .u8 0, .int .i64 0, .string ⟨#[]⟩] 69)) [] := (((Kept.refl w []).alloc _).alloc _).alloc _
  have g0 := heap_alloc_new w (.cells Ev.zero.cs 69)
  have g1 := heap_alloc_new (w.alloc (.cells Ev.zero.cs 69)) (.cells #[.slice a len c, .int .i64 0] 95)
  have g2 := heap_alloc_new ((w.alloc (.cells Ev.zero.cs 69)).alloc (.cells #[.slice a len c, .int .i64 0] 95)) (.cells #[.int .i64 0, .int .i64 0, .string ⟨#[]⟩, .int .i64 0, .int .i64 0, .int .u8 0, .int .i64 0, .string ⟨#[]⟩] 69)
  refine ⟨H.out.kept k3 (by simp), ?_, ?_, ?_, k3, hl, by omega, by omega, hbl⟩
  ·replace g1 : ((w.alloc (.cells Ev.zero.cs 69)).alloc (.cells #[.slice a len c, .int .i64 0] 95)).heap[w.heap.size + 1]? = some (.cells #[.slice a len c, .int .i64 0] 95 (0, 0)) := by simpa using g1
   exact (((Kept.refl ((w.alloc (.cells Ev.zero.cs 69)).alloc (.cells #[.slice a len c, .int .i64 0] 95)) []).alloc _).heap (by simp) g1)
  ·have g3 : (((w.alloc (.cells Ev.zero.cs 69)).alloc (.cells #[.slice a len c, .int .i64 0] 95)).alloc (.cells #[.int .i64 0, .int .i64 0, .string ⟨#[]⟩, .int .i64 0, .int .i64 0, .int .u8 0, .int .i64 0, .string ⟨#[]⟩] 69)).heap[w.heap.size + 1 + 1]? = some (.cells #[.int .i64 0, .int .i64 0, .string ⟨#[]⟩, .int .i64 0, .int .i64 0, .int .u8 0, .int .i64 0, .string ⟨#[]⟩] 69 (0, 0)) := by simpa using g2
   exact g3
  ·exact ((((Kept.refl (w.alloc (.cells Ev.zero.cs 69)) []).alloc _).alloc _).heap (by simp) g0))
 clear hbl
 go_enter Try.func65, Try.ntmps65
 obtain ⟨q1, r1, s1, t1⟩ := D0.out.rcell
 obtain ⟨x1, y1⟩ := D0.out.cells 0
 simp at x1
 go_wp2_with fail
 refine (rfnum_any (.slice a len c) 0 l 1 9223372036854775807 _ D0.out.rd D0.out.len).mono ?_
 rw [H1.out]
 rintro e w2 ⟨v1, rfl, g, k, b⟩
 have hle : l1.length <= l.length := by have h := xqm 1 9223372036854775807 0 l; rw [H1.out] at h; exact h
 obtain ⟨va1, vn1, vc1, hv1⟩ := g.shape3
 have D := (D0.out.call (e' := e1) g k b hle).store 0 (.int .i64 (wrap64 (n1 : Int)))
 have u0 := k.cell (by simp) q1; have u1 := k.cell (by simp) r1; have u2 := (D0.out.keep k).rcell.2.2; have u3 := (D0.out.keep k).cells 0; simp at u3
 have D1 := iH D
 simp only [List.setIfInBounds_toArray, List.set_cons_zero] at D1
 clear g k b D hle q1 r1 s1 t1 x1 y1
 obtain ⟨u2, u2b⟩ := u2; obtain ⟨u3, u3b⟩ := u3
 subst hv1
 obtain ⟨q2, r2, s2, t2⟩ := D1.out.rcell
 obtain ⟨x2, y2⟩ := D1.out.cells 1
 simp at x2
 go_wp2_with fail
 clear u0 u1 u2 u2b u3 u3b
 refine (rfnum_any _ e1 l1 1 9223372036854775807 _ D1.out.rd D1.out.len).mono ?_
 rw [H2.out]
 rintro e w3 ⟨v2, rfl, g, k, b⟩
 have hle : l2.length <= l1.length := by have h := xqm 1 9223372036854775807 e1 l1; rw [H2.out] at h; exact h
 obtain ⟨va2, vn2, vc2, hv2⟩ := g.shape3
 have D := (D1.out.call (e' := e2) g k b hle).store 1 (.int .i64 (wrap64 (n2 : Int)))
 have u0 := k.cell (by simp) q2; have u1 := k.cell (by simp) r2; have u2 := (D1.out.keep k).rcell.2.2; have u3 := (D1.out.keep k).cells 1; simp at u3
 have D2 := iH D
 simp only [List.setIfInBounds_toArray, List.set_cons_zero, List.set_cons_succ] at D2
 clear g k b D hle q2 r2 s2 t2 x2 y2
 obtain ⟨u2, u2b⟩ := u2; obtain ⟨u3, u3b⟩ := u3
 subst hv2
 obtain ⟨q3, r3, s3, t3⟩ := D2.out.rcell
 obtain ⟨x3, y3⟩ := D2.out.cells 2
 simp at x3
 go_wp2_with fail
 clear u0 u1 u2 u2b u3 u3b
 refine (xq0 _ 40 e2 l2 _ D2.out.rd D2.out.len (by omega)).mono ?_
 rw [H3.out]
 rintro e w4 ⟨v3, rfl, g, k, b⟩
 have hle : l3.length <= l2.length := by have h := rText_len 40 e2 l2; rw [H3.out] at h; exact h
 obtain ⟨va3, vn3, vc3, hv3⟩ := g.shape3
 have D := D2.out.both (e' := e3) g k b hle 2 (.string (strL n3))
 have u0 := k.cell (by simp) q3; have u1 := k.cell (by simp) r3; have u2 := (D2.out.keep k).rcell.2.2; have u3 := (D2.out.keep k).cells 2; simp at u3
 have D3 := iH D
 simp only [List.setIfInBounds_toArray, List.set_cons_zero, List.set_cons_succ] at D3
 clear g k b D hle q3 r3 s3 t3 x3 y3
 obtain ⟨u2, u2b⟩ := u2; obtain ⟨u3, u3b⟩ := u3
 subst hv3
 obtain ⟨q4, r4, s4, t4⟩ := D3.out.rcell
 obtain ⟨x4, y4⟩ := D3.out.cells 3
 simp at x4
 go_wp2_with fail
 clear u0 u1 u2 u2b u3 u3b
 refine (rfnum_any _ e3 l3 0 2147483647 _ D3.out.rd D3.out.len).mono ?_
 rw [H4.out]
 rintro e w5 ⟨v4, rfl, g, k, b⟩
 have hle : l4.length <= l3.length := by have h := xqm 0 2147483647 e3 l3; rw [H4.out] at h; exact h
 obtain ⟨va4, vn4, vc4, hv4⟩ := g.shape3
 have D := (D3.out.call (e' := e4) g k b hle).store 3 (.int .i64 (wrap64 (n4 : Int)))
 have u0 := k.cell (by simp) q4; have u1 := k.cell (by simp) r4; have u2 := (D3.out.keep k).rcell.2.2; have u3 := (D3.out.keep k).cells 3; simp at u3
 have D4 := iH D
 simp only [List.setIfInBounds_toArray, List.set_cons_zero, List.set_cons_succ] at D4
 clear g k b D hle q4 r4 s4 t4 x4 y4
 obtain ⟨u2, u2b⟩ := u2; obtain ⟨u3, u3b⟩ := u3
 subst hv4
 obtain ⟨q5, r5, s5, t5⟩ := D4.out.rcell
 obtain ⟨x5, y5⟩ := D4.out.cells 4
 simp at x5
 go_wp2_with fail
 clear u0 u1 u2 u2b u3 u3b
 refine (rfnum_any _ e4 l4 0 3 _ D4.out.rd D4.out.len).mono ?_
 rw [H5.out]
 rintro e w6 ⟨v5, rfl, g, k, b⟩
 have hle : l5.length <= l4.length := by have h := xqm 0 3 e4 l4; rw [H5.out] at h; exact h
 obtain ⟨va5, vn5, vc5, hv5⟩ := g.shape3
 have D := (D4.out.call (e' := e5) g k b hle).store 4 (.int .i64 (wrap64 (n5 : Int)))
 have u0 := k.cell (by simp) q5; have u1 := k.cell (by simp) r5; have u2 := (D4.out.keep k).rcell.2.2; have u3 := (D4.out.keep k).cells 4; simp at u3
 have D5 := iH D
 simp only [List.setIfInBounds_toArray, List.set_cons_zero, List.set_cons_succ] at D5
 clear g k b D hle q5 r5 s5 t5 x5 y5
 obtain ⟨u2, u2b⟩ := u2; obtain ⟨u3, u3b⟩ := u3
 subst hv5
 obtain ⟨q6, r6, s6, t6⟩ := D5.out.rcell
 obtain ⟨x6, y6⟩ := D5.out.cells 5
 simp at x6
 go_wp2_with fail
 clear u0 u1 u2 u2b u3 u3b
 refine (rfnum_any _ e5 l5 1 4 _ D5.out.rd D5.out.len).mono ?_
 rw [H6.out]
 rintro e w7 ⟨v6, rfl, g, k, b⟩
 have hle : l6.length <= l5.length := by have h := xqm 1 4 e5 l5; rw [H6.out] at h; exact h
 obtain ⟨va6, vn6, vc6, hv6⟩ := g.shape3
 have D := (D5.out.call (e' := e6) g k b hle).store 5 (.int .u8 ((n6 : Int) % 256))
 have u0 := k.cell (by simp) q6; have u1 := k.cell (by simp) r6; have u2 := (D5.out.keep k).rcell.2.2; have u3 := (D5.out.keep k).cells 5; simp at u3
 have D6 := iH D
 simp only [List.setIfInBounds_toArray, List.set_cons_zero, List.set_cons_succ] at D6
 clear g k b D hle q6 r6 s6 t6 x6 y6
 obtain ⟨u2, u2b⟩ := u2; obtain ⟨u3, u3b⟩ := u3
 subst hv6
 obtain ⟨q7, r7, s7, t7⟩ := D6.out.rcell
 obtain ⟨x7, y7⟩ := D6.out.cells 6
 simp at x7
 go_wp2_with fail
 clear u0 u1 u2 u2b u3 u3b
 refine (refreadint_any _ e6 l6 _ D6.out.rd D6.out.len).mono ?_
 have HI := H7.out; unfold rfI at HI; simp only [Prod.mk.injEq] at HI; obtain ⟨hi1, hi2, hi3⟩ := HI; rw [hi1, hi2, hi3]; clear hi1 hi2 hi3
 rintro e w8 ⟨v7, rfl, g, k, b⟩
 have hle : l7.length <= l6.length := by have h := xqt e6 l6; have e := congrArg (fun x => x.2.1) H7.out; simp only [rfI] at e; rw [e] at h; exact h
 obtain ⟨va7, vn7, vc7, hv7⟩ := g.shape3
 have D := D6.out.both (e' := e7) g k b hle 6 (.int .i64 n7)
 have u0 := k.cell (by simp) q7; have u1 := k.cell (by simp) r7; have u2 := (D6.out.keep k).rcell.2.2; have u3 := (D6.out.keep k).cells 6; simp at u3
 have D7 := iH D
 simp only [List.setIfInBounds_toArray, List.set_cons_zero, List.set_cons_succ] at D7
 clear g k b D hle q7 r7 s7 t7 x7 y7
 obtain ⟨u2, u2b⟩ := u2; obtain ⟨u3, u3b⟩ := u3
 subst hv7
 obtain ⟨q8, r8, s8, t8⟩ := D7.out.rcell
 obtain ⟨x8, y8⟩ := D7.out.cells 7
 simp at x8
 go_wp2_with fail
 clear u0 u1 u2 u2b u3 u3b
 refine (xq0 _ 40 e7 l7 _ D7.out.rd D7.out.len (by omega)).mono ?_
 rw [H8.out]
 rintro e w9 ⟨v8, rfl, g, k, b⟩
 have hle : l8.length <= l7.length := by have h := rText_len 40 e7 l7; rw [H8.out] at h; exact h
 obtain ⟨va8, vn8, vc8, hv8⟩ := g.shape3
 have D := D7.out.both (e' := e8) g k b hle 7 (.string (strL n8))
 have u0 := k.cell (by simp) q8; have u1 := k.cell (by simp) r8; have u2 := (D7.out.keep k).rcell.2.2; have u3 := (D7.out.keep k).cells 7; simp at u3
 have D8 := iH D
 simp only [List.setIfInBounds_toArray, List.set_cons_zero, List.set_cons_succ] at D8
 clear g k b D hle q8 r8 s8 t8 x8 y8
 obtain ⟨u2, u2b⟩ := u2; obtain ⟨u3, u3b⟩ := u3
 subst hv8
 obtain ⟨q9, r9, s9, t9⟩ := D8.out.rcell
 go_wp2_with fail
 clear u0 u1 u2 u2b u3 u3b
 refine (xqx _ e8 l8 _ D8.out.rd).mono ?_
 rw [<- HE.out]
 rintro e w10 ⟨rfl, k10⟩
 have D9 := iH (D8.out.keep k10)
 clear q9 r9 s9 t9 k10
 obtain ⟨a0, _⟩ := D9.out.cells 0; simp at a0
 obtain ⟨b0, f0⟩ := D9.out.bcells 0; simp [Ev.zero, Ev.cs] at b0
 obtain ⟨a1, _⟩ := D9.out.cells 1; simp at a1
 obtain ⟨b1, f1⟩ := D9.out.bcells 1; simp [Ev.zero, Ev.cs] at b1
 obtain ⟨a2, _⟩ := D9.out.cells 2; simp at a2
 obtain ⟨b2, f2⟩ := D9.out.bcells 2; simp [Ev.zero, Ev.cs] at b2
 obtain ⟨a3, _⟩ := D9.out.cells 3; simp at a3
 obtain ⟨b3, f3⟩ := D9.out.bcells 3; simp [Ev.zero, Ev.cs] at b3
 obtain ⟨a4, _⟩ := D9.out.cells 4; simp at a4
 obtain ⟨b4, f4⟩ := D9.out.bcells 4; simp [Ev.zero, Ev.cs] at b4
 obtain ⟨a5, _⟩ := D9.out.cells 5; simp at a5
 obtain ⟨b5, f5⟩ := D9.out.bcells 5; simp [Ev.zero, Ev.cs] at b5
 obtain ⟨a6, _⟩ := D9.out.cells 6; simp at a6
 obtain ⟨b6, f6⟩ := D9.out.bcells 6; simp [Ev.zero, Ev.cs] at b6
 obtain ⟨a7, _⟩ := D9.out.cells 7; simp at a7
 obtain ⟨b7, f7⟩ := D9.out.bcells 7; simp [Ev.zero, Ev.cs] at b7
 generalize w.heap.size + 1 + 1 = p at D9 a0 a1 a2 a3 a4 a5 a6 a7 ⊢
 generalize w.heap.size + 1 = q at D9 ⊢
 generalize hB : w.heap.size = B at D9 b0 b1 b2 b3 b4 b5 b6 b7 f0 f1 f2 f3 f4 f5 f6 f7 ⊢
 clear hB
 by_cases h0 : dErr l = 0
 ·have HV0 := iH (HV.out h0); have H0 := iH h0
  rw [h0]
  clear h0
  go_wp2
  obtain ⟨g8, k8⟩ := eight (p := B) D9.out.res (.int .i64 (wrap64 (n1 : Int))) (.int .i64 (wrap64 (n2 : Int))) (.string (strL n3)) (.int .i64 (wrap64 (n4 : Int))) (.int .i64 (wrap64 (n5 : Int))) (.int .u8 ((n6 : Int) % 256)) (.int .i64 n7) (.string (strL n8))
  have z0 := cell_of_row _ B 0 _ _ _ g8
  have z1 := cell_of_row _ B 1 _ _ _ g8
  have z2 := cell_of_row _ B 2 _ _ _ g8
  have z3 := cell_of_row _ B 3 _ _ _ g8
  have z4 := cell_of_row _ B 4 _ _ _ g8
  have z5 := cell_of_row _ B 5 _ _ _ g8
  have z6 := cell_of_row _ B 6 _ _ _ g8
  have z7 := cell_of_row _ B 7 _ _ _ g8
  simp at z0 z1 z2 z3 z4 z5 z6 z7
  refine bodyPost_ret (v := .tuple #[.agg #[.int .i64 (wrap64 (n1 : Int)), .int .i64 (wrap64 (n2 : Int)), .string (strL n3), .int .i64 (wrap64 (n4 : Int)), .int .i64 (wrap64 (n5 : Int)), .int .u8 ((n6 : Int) % 256), .int .i64 n7, .string (strL n8)], .int .i64 0]) (by simp [results, Try.results65, go_sem, z0, z1, z2, z3, z4, z5, z6, z7]) rfl ?_
  exact ⟨ret_ev HV0.out.symm H0.out.symm, D9.out.k.trans k8 (by intro x hx; simp at hx; have := D9.out.low; exact .inr (by omega))⟩
 ·have x0 : (dErr l != 0) = true := by simpa using h0
  have HZ : RowKit.Hid ((dEv l).cs = Ev.zero.cs) := iH (by rw [dEv, if_neg h0])
  clear h0
  go_wp2
  obtain ⟨g8, k8⟩ := eight (p := B) D9.out.res (.int .i64 0) (.int .i64 0) (.string ⟨#[]⟩) (.int .i64 0) (.int .i64 0) (.int .u8 0) (.int .i64 0) (.string ⟨#[]⟩)
  have z0 := cell_of_row _ B 0 _ _ _ g8
  have z1 := cell_of_row _ B 1 _ _ _ g8
  have z2 := cell_of_row _ B 2 _ _ _ g8
  have z3 := cell_of_row _ B 3 _ _ _ g8
  have z4 := cell_of_row _ B 4 _ _ _ g8
  have z5 := cell_of_row _ B 5 _ _ _ g8
  have z6 := cell_of_row _ B 6 _ _ _ g8
  have z7 := cell_of_row _ B 7 _ _ _ g8
  simp at z0 z1 z2 z3 z4 z5 z6 z7
  refine bodyPost_ret (v := .tuple #[.agg #[.int .i64 0, .int .i64 0, .string ⟨#[]⟩, .int .i64 0, .int .i64 0, .int .u8 0, .int .i64 0, .string ⟨#[]⟩], .int .i64 (dErr l)]) (by simp [results, Try.results65, go_sem, z0, z1, z2, z3, z4, z5, z6, z7]) rfl ?_
  exact ⟨ret_ev HZ.out.symm rfl, D9.out.k.trans k8 (by intro x hx; simp at hx; have := D9.out.low; exact .inr (by omega))⟩
theorem right_any (e : Ev) (w : World) :
  Calls Try.prog 77 #[.agg e.cs] w fun en w' => en = .returned (.bool e.rightB) /\ Kept w w' [] := by
 change Calls Try.prog 77 #[.agg #[.int .i64 e.id, .int .i64 e.tx, .string e.ow, .int .i64 e.tr, .int .i64 e.tb, .int .u8 e.kd, .int .i64 e.key, .string e.t]] w _
 by_cases h0 : 1 <= e.id
 rotate_left
 ·have y0 : ¬ (1 : Int) <= e.id := by omega
  have HR : RowKit.Hid (e.rightB = false) := iH (by simp only [Ev.rightB]; simp; omega)
  clear h0
  go_enter Try.func77, Try.ntmps77
  go_wp2
  go_ret
  exact ⟨xqD HR.out.symm, (Kept.refl w []).alloc _⟩
 have x0 : (1 : Int) <= e.id := by omega
 by_cases h1 : 1 <= e.tx
 rotate_left
 ·have y1 : ¬ (1 : Int) <= e.tx := by omega
  have HR : RowKit.Hid (e.rightB = false) := iH (by simp only [Ev.rightB]; simp; omega)
  clear h0 h1
  go_enter Try.func77, Try.ntmps77
  go_wp2
  go_ret
  exact ⟨xqD HR.out.symm, (Kept.refl w []).alloc _⟩
 have x1 : (1 : Int) <= e.tx := by omega
 by_cases h2 : e.ow.size <= 40
 rotate_left
 ·have y2 : ¬ (e.ow.size : Int) <= 40 := by omega
  have HR : RowKit.Hid (e.rightB = false) := iH (by simp only [Ev.rightB]; simp; omega)
  clear h0 h1 h2
  go_enter Try.func77, Try.ntmps77
  go_wp2
  go_ret
  exact ⟨xqD HR.out.symm, (Kept.refl w []).alloc _⟩
 have x2 : (e.ow.size : Int) <= 40 := by omega
 by_cases h3 : e.t.size <= 40
 rotate_left
 ·have y3 : ¬ (e.t.size : Int) <= 40 := by omega
  have HR : RowKit.Hid (e.rightB = false) := iH (by simp only [Ev.rightB]; simp; omega)
  clear h0 h1 h2 h3
  go_enter Try.func77, Try.ntmps77
  go_wp2
  go_ret
  exact ⟨xqD HR.out.symm, (Kept.refl w []).alloc _⟩
 have x3 : (e.t.size : Int) <= 40 := by omega
 by_cases h4 : 0 <= e.tr
 rotate_left
 ·have y4 : ¬ (0 : Int) <= e.tr := by omega
  have HR : RowKit.Hid (e.rightB = false) := iH (by simp only [Ev.rightB]; simp; omega)
  clear h0 h1 h2 h3 h4
  go_enter Try.func77, Try.ntmps77
  go_wp2
  go_ret
  exact ⟨xqD HR.out.symm, (Kept.refl w []).alloc _⟩
 have x4 : (0 : Int) <= e.tr := by omega
 by_cases h5 : e.tr <= 2147483647
 rotate_left
 ·have y5 : ¬ e.tr <= 2147483647 := by omega
  have HR : RowKit.Hid (e.rightB = false) := iH (by simp only [Ev.rightB]; simp; omega)
  clear h0 h1 h2 h3 h4 h5
  go_enter Try.func77, Try.ntmps77
  go_wp2
  go_ret
  exact ⟨xqD HR.out.symm, (Kept.refl w []).alloc _⟩
 have x5 : e.tr <= 2147483647 := by omega
 by_cases h6 : 0 <= e.tb
 rotate_left
 ·have y6 : ¬ (0 : Int) <= e.tb := by omega
  have HR : RowKit.Hid (e.rightB = false) := iH (by simp only [Ev.rightB]; simp; omega)
  clear h0 h1 h2 h3 h4 h5 h6
  go_enter Try.func77, Try.ntmps77
  go_wp2
  go_ret
  exact ⟨xqD HR.out.symm, (Kept.refl w []).alloc _⟩
 have x6 : (0 : Int) <= e.tb := by omega
 by_cases h7 : e.tb <= 3
 rotate_left
 ·have y7 : ¬ e.tb <= 3 := by omega
  have HR : RowKit.Hid (e.rightB = false) := iH (by simp only [Ev.rightB]; simp; omega)
  clear h0 h1 h2 h3 h4 h5 h6 h7
  go_enter Try.func77, Try.ntmps77
  go_wp2
  go_ret
  exact ⟨xqD HR.out.symm, (Kept.refl w []).alloc _⟩
 have x7 : e.tb <= 3 := by omega
 by_cases h8 : 1 <= e.kd
 rotate_left
 ·have y8 : ¬ (1 : Int) <= e.kd := by omega
  have HR : RowKit.Hid (e.rightB = false) := iH (by simp only [Ev.rightB]; simp; omega)
  clear h0 h1 h2 h3 h4 h5 h6 h7 h8
  go_enter Try.func77, Try.ntmps77
  go_wp2
  go_ret
  exact ⟨xqD HR.out.symm, (Kept.refl w []).alloc _⟩
 have x8 : (1 : Int) <= e.kd := by omega
 by_cases h9 : e.kd <= 4
 rotate_left
 ·have y9 : ¬ e.kd <= 4 := by omega
  have HR : RowKit.Hid (e.rightB = false) := iH (by simp only [Ev.rightB]; simp; omega)
  clear h0 h1 h2 h3 h4 h5 h6 h7 h8 h9
  go_enter Try.func77, Try.ntmps77
  go_wp2
  go_ret
  exact ⟨xqD HR.out.symm, (Kept.refl w []).alloc _⟩
 have x9 : e.kd <= 4 := by omega
 have HR : RowKit.Hid (e.rightB = true) := iH (by simp only [Ev.rightB]; simp; omega)
 clear h0 h1 h2 h3 h4 h5 h6 h7 h8 h9
 go_enter Try.func77, Try.ntmps77
 go_wp2
 go_ret
 exact ⟨xqD HR.out.symm, (Kept.refl w []).alloc _⟩
variable {R : Bx}
def Ew (w : World) (b B p : Nat) (e : Ev) (W : World) (l : List UInt8) : Prop :=
 ∃ v, Wr ⟨81, [], by decide⟩ W B p v l /\ W.heap[b]? = some (.cells e.cs 69 (0, 0)) /\ b < B /\ w.heap.size <= b /\ B <= p /\ Kept w W [] /\ B <= W.heap.size
theorem Ew.drew {w : World} {b B p : Nat} {e : Ev} {W : World} {l : List UInt8} (h : Ew w b B p e W l) : Ew w b B p e W.drew l := by
 obtain ⟨v, h1, h2, h3, h4, h5, h6, h7⟩ := h
 exact ⟨v, h1, h2, h3, h4, h5, h6.drew, h7⟩
theorem Ew.cells {w : World} {b B p : Nat} {e : Ev} {W : World} {l : List UInt8} (h : Ew w b B p e W l) (j : Nat) : W.cell? ⟨b, j, none⟩ = e.cs[j]? := by
 obtain ⟨v, h1, h2, _⟩ := h
 exact cell_of_row W b j _ _ _ h2
theorem Ew.step {w : World} {b B p : Nat} {e : Ev} {W W' : World} {l m : List UInt8} {v v' : Value} (hw : Wr ⟨81, [], by decide⟩ W B p v l) (hb : W.heap[b]? = some (.cells e.cs 69 (0, 0))) (h3 : b < B) (h4 : w.heap.size <= b) (h5 : B <= p) (h6 : Kept w W []) (h7 : B <= W.heap.size)
  (g : Wr ⟨81, [], by decide⟩ W' B p v' m) (s : Wtp W W' [p] v v') : Ew w b B p e W' m := by
 have hx : ∀ x ∈ [p] ++ v.ownBlock.toList, B <= x := by
  intro x hx
  rcases List.mem_append.1 hx with h | h
  ·simp at h; omega
  exact (hw.2.lt x (by simpa using h)).1
 have hs := s.1.size
 refine ⟨v', g, s.1.heap (fun hm => by have := hx b hm; omega) hb, h3, h4, h5, h6.trans s.1 (fun x hm => .inr (by have := hx x hm; omega)), by omega⟩
theorem ew_num (w : World) (b B p : Nat) (e : Ev) (W : World) (l : List UInt8) (x : Int) (h : Ew w b B p e W l) (hx : 0 <= x /\ x <= 18446744073709551615) (hl : l.length <= 1099511627776) :
  Calls Try.prog 72 #[.pointer (some ⟨p, 0, none⟩), .int .u64 x] W fun en w' => en = .returned (.pointer (some ⟨p, 0, none⟩)) /\ Ew w b B p e w' (l ++ numL x.toNat) := by
 obtain ⟨n, rfl⟩ := Int.eq_ofNat_of_zero_le hx.1
 obtain ⟨v, h1, h2, h3, h4, h5, h6, h7⟩ := h
 refine (num_any B p v l n W h1 h7 (by omega) hl).mono ?_
 rintro en w' ⟨rfl, v', g, s⟩
 exact ⟨rfl, Ew.step h1 h2 h3 h4 h5 h6 h7 g s⟩
theorem ew_int (w : World) (b B p : Nat) (e : Ev) (W : World) (l : List UInt8) (x : Int) (h : Ew w b B p e W l) (hx : -9223372036854775808 <= x /\ x <= 9223372036854775807) (hl : l.length <= 1099511627776) :
  Calls Try.prog 52 #[.pointer (some ⟨p, 0, none⟩), .int .i64 x] W fun en w' => en = .returned (.pointer (some ⟨p, 0, none⟩)) /\ Ew w b B p e w' (l ++ intL x) := by
 obtain ⟨v, h1, h2, h3, h4, h5, h6, h7⟩ := h
 refine (int_any B p v l x W h1 h7 hx hl).mono ?_
 rintro en w' ⟨rfl, v', g, s⟩
 exact ⟨rfl, Ew.step h1 h2 h3 h4 h5 h6 h7 g s⟩
theorem ew_text (w : World) (b B p : Nat) (e : Ev) (W : World) (l : List UInt8) (x : ByteArray) (h : Ew w b B p e W l) (hx : x.size <= 1099511627776) (hl : l.length <= 1099511627776) :
  Calls Try.prog 78 #[.pointer (some ⟨p, 0, none⟩), .string x] W fun en w' => en = .returned (.pointer (some ⟨p, 0, none⟩)) /\ Ew w b B p e w' (l ++ xqr x.data.toList) := by
 obtain ⟨v, h1, h2, h3, h4, h5, h6, h7⟩ := h
 refine (text_any B p v l x W h1 h7 hx hl).mono ?_
 rintro en w' ⟨rfl, v', g, s⟩
 exact ⟨rfl, Ew.step h1 h2 h3 h4 h5 h6 h7 g s⟩
theorem Ev.parts_len {e : Ev} (h : e.Right) (o : e.Ok) : (numL e.id.toNat).length <= 10 /\ (numL e.tx.toNat).length <= 10 /\ (xqr e.ow.data.toList).length <= 50 /\ (numL e.tr.toNat).length <= 10 /\ (numL e.tb.toNat).length <= 10 /\ (numL e.kd.toNat).length <= 10 /\ (intL e.key).length <= 10 /\ (xqr e.t.data.toList).length <= 50 := by
 have a1 := xqc (n := e.id.toNat) (by have := o.id; omega)
 have a2 := xqc (n := e.tx.toNat) (by have := o.tx; omega)
 have a3 := xqc (n := e.tr.toNat) (by have := o.tr; omega)
 have a4 := xqc (n := e.tb.toNat) (by have := o.tb; omega)
 have a5 := xqc (n := e.kd.toNat) (by have := o.kd; omega)
 have a6 := xqc (Lib.zigzag_lt o.key.1 o.key.2)
 have a7 := xqc (n := e.ow.data.toList.length) (by have := h.ow; rw [xqk]; omega)
 have a8 := xqc (n := e.t.data.toList.length) (by have := h.t; rw [xqk]; omega)
 have b1 := h.ow
 have b2 := h.t
 have b3 := xqk e.ow
 have b4 := xqk e.t
 simp only [xqr, intL, List.length_append]
 omega
theorem encode_any (e : Ev) (h : e.Right) (o : e.Ok) (w : World) :
  Calls Try.prog 79 #[.agg e.cs] w fun en w' => ∃ v', en = .returned v' /\ Own w' w.heap.size 5 v' e.encL /\ Kept w w' [] := by
 have HR := right_any e
 rw [(Ev.rightB_iff e).2 h] at HR
 have HR := iH HR
 obtain ⟨p1, p2, p3, p4, p5, p6, p7, p8⟩ := Ev.parts_len h o
 have z1 : 0 <= e.id /\ e.id <= 18446744073709551615 := by have := h.id; have := o.id; omega
 have z2 : 0 <= e.tx /\ e.tx <= 18446744073709551615 := by have := h.tx; have := o.tx; omega
 have z3 : 0 <= e.tr /\ e.tr <= 18446744073709551615 := by have := h.tr; omega
 have z4 : 0 <= e.tb /\ e.tb <= 18446744073709551615 := by have := h.tb; omega
 have z5 : 0 <= e.kd /\ e.kd <= 18446744073709551615 := by have := h.kd; omega
 have z7 : e.ow.size <= 1099511627776 := by have := h.ow; omega
 have z8 : e.t.size <= 1099511627776 := by have := h.t; omega
 have HK := iH o.key
 have v1 : IntKind.u64.wrap e.id = e.id := by rw [IntKind.wrap_u64]; omega
 have v2 : IntKind.u64.wrap e.tx = e.tx := by rw [IntKind.wrap_u64]; omega
 have v3 : IntKind.u64.wrap e.tr = e.tr := by rw [IntKind.wrap_u64]; omega
 have v4 : IntKind.u64.wrap e.tb = e.tb := by rw [IntKind.wrap_u64]; omega
 have v5 : IntKind.u64.wrap e.kd = e.kd := by rw [IntKind.wrap_u64]; omega
 have P := iH (And.intro p1 (And.intro p2 (And.intro p3 (And.intro p4 (And.intro p5 (And.intro p6 (And.intro p7 p8)))))))
 have Z := iH (And.intro z1 (And.intro z2 (And.intro z3 (And.intro z4 (And.intro z5 (And.intro z7 z8))))))
 clear p1 p2 p3 p4 p5 p6 p7 p8 z1 z2 z3 z4 z5 z7 z8 h o
 change Calls Try.prog 79 #[.agg #[.int .i64 e.id, .int .i64 e.tx, .string e.ow, .int .i64 e.tr, .int .i64 e.tb, .int .u8 e.kd, .int .i64 e.key, .string e.t]] w _
 go_enter Try.func79, Try.ntmps79
 go_wp2_with fail
 refine (HR.out _).mono ?_
 rintro en w1 ⟨rfl, hk1⟩
 have g0 := heap_alloc_new w (.cells e.cs 69)
 have hk : Kept w w1 [] := ((Kept.refl w []).alloc _).trans hk1 (by simp)
 have hb := hk1.heap (by simp) g0
 have hlt : w.heap.size < w1.heap.size := (Array.getElem?_eq_some_iff.1 hb).1
 have E0 : Ew w w.heap.size w1.heap.size w1.heap.size e (w1.alloc (.cells #[.slice none 0 0] 81)) [] :=
  ⟨.slice none 0 0, ⟨heap_alloc_new w1 _, Own.nil _ _ _⟩, ((Kept.refl w1 []).alloc _).heap (by simp) hb, hlt, Nat.le_refl _, Nat.le_refl _, hk.alloc _, by simp⟩
 have HN := iH (fun V l x => ew_num w w.heap.size w1.heap.size w1.heap.size e V l x)
 have HI := iH (fun V l x => ew_int w w.heap.size w1.heap.size w1.heap.size e V l x)
 have HT := iH (fun V l x => ew_text w w.heap.size w1.heap.size w1.heap.size e V l x)
 have E0 := iH E0
 clear hk1 g0 hk hb hlt
 have k8 := E0.out.drew
 have y2 : ((w1.alloc (.cells #[.slice none 0 0] 81)).drew.cell? ⟨w.heap.size, 0, none⟩ = some (.int .i64 e.id) /\ (w1.alloc (.cells #[.slice none 0 0] 81)).drew.cell? ⟨w.heap.size, 1, none⟩ = some (.int .i64 e.tx)) /\ (w1.alloc (.cells #[.slice none 0 0] 81)).drew.cell? ⟨w.heap.size, 2, none⟩ = some (.string e.ow) := ⟨⟨k8.cells 0, k8.cells 1⟩, k8.cells 2⟩
 go_wp2_with fail
 go_region_held3 (fun V => (V.cell? ⟨w.heap.size, 0, none⟩ = some (.int .i64 e.id) /\ V.cell? ⟨w.heap.size, 1, none⟩ = some (.int .i64 e.tx)) /\ V.cell? ⟨w.heap.size, 2, none⟩ = some (.string e.ow)) (exact y2)
  (first
   | (go_at_call 72; refine (HN.out _ _ _ k8 ?_ ?_).mono ?_; (first | exact Z.out.1 | exact Z.out.2.1); (have := P.out; simp only [List.length_append, List.length_nil]; omega); rintro en w8 ⟨rfl, k8⟩; have y2 : (w8.cell? ⟨w.heap.size, 0, none⟩ = some (.int .i64 e.id) /\ w8.cell? ⟨w.heap.size, 1, none⟩ = some (.int .i64 e.tx)) /\ w8.cell? ⟨w.heap.size, 2, none⟩ = some (.string e.ow) := ⟨⟨k8.cells 0, k8.cells 1⟩, k8.cells 2⟩)
   | (go_at_call 78; refine (HT.out _ _ _ k8 ?_ ?_).mono ?_; (first | exact Z.out.2.2.2.2.2.1); (have := P.out; simp only [List.length_append, List.length_nil]; omega); rintro en w8 ⟨rfl, k8⟩; have y2 : (w8.cell? ⟨w.heap.size, 0, none⟩ = some (.int .i64 e.id) /\ w8.cell? ⟨w.heap.size, 1, none⟩ = some (.int .i64 e.tx)) /\ w8.cell? ⟨w.heap.size, 2, none⟩ = some (.string e.ow) := ⟨⟨k8.cells 0, k8.cells 1⟩, k8.cells 2⟩))
 have E1 := iH k8
 clear k8 y2
 have k8 := E1.out.drew
 have y2 : (w8.drew.cell? ⟨w.heap.size, 3, none⟩ = some (.int .i64 e.tr) /\ w8.drew.cell? ⟨w.heap.size, 4, none⟩ = some (.int .i64 e.tb)) /\ w8.drew.cell? ⟨w.heap.size, 5, none⟩ = some (.int .u8 e.kd) := ⟨⟨k8.cells 3, k8.cells 4⟩, k8.cells 5⟩
 go_wp2_with fail
 go_region_held3 (fun V => (V.cell? ⟨w.heap.size, 3, none⟩ = some (.int .i64 e.tr) /\ V.cell? ⟨w.heap.size, 4, none⟩ = some (.int .i64 e.tb)) /\ V.cell? ⟨w.heap.size, 5, none⟩ = some (.int .u8 e.kd)) (exact y2)
  (first
   | (go_at_call 72; refine (HN.out _ _ _ k8 ?_ ?_).mono ?_; (first | exact Z.out.2.2.1 | exact Z.out.2.2.2.1 | exact Z.out.2.2.2.2.1); (have := P.out; simp only [List.length_append, List.length_nil]; omega); rintro en w9 ⟨rfl, k8⟩; have y2 : (w9.cell? ⟨w.heap.size, 3, none⟩ = some (.int .i64 e.tr) /\ w9.cell? ⟨w.heap.size, 4, none⟩ = some (.int .i64 e.tb)) /\ w9.cell? ⟨w.heap.size, 5, none⟩ = some (.int .u8 e.kd) := ⟨⟨k8.cells 3, k8.cells 4⟩, k8.cells 5⟩))
 have E2 := iH k8
 clear k8 y2
 have k8 := E2.out.drew
 have y2 : w9.drew.cell? ⟨w.heap.size, 6, none⟩ = some (.int .i64 e.key) /\ w9.drew.cell? ⟨w.heap.size, 7, none⟩ = some (.string e.t) := ⟨k8.cells 6, k8.cells 7⟩
 go_wp2_with fail
 go_region_held3 (fun V => V.cell? ⟨w.heap.size, 6, none⟩ = some (.int .i64 e.key) /\ V.cell? ⟨w.heap.size, 7, none⟩ = some (.string e.t)) (exact y2)
  (first
   | (go_at_call 52; refine (HI.out _ _ _ k8 ?_ ?_).mono ?_; exact HK.out; (have := P.out; simp only [List.length_append, List.length_nil]; omega); rintro en w10 ⟨rfl, k8⟩; have y2 : w10.cell? ⟨w.heap.size, 6, none⟩ = some (.int .i64 e.key) /\ w10.cell? ⟨w.heap.size, 7, none⟩ = some (.string e.t) := ⟨k8.cells 6, k8.cells 7⟩)
   | (go_at_call 78; refine (HT.out _ _ _ k8 ?_ ?_).mono ?_; exact Z.out.2.2.2.2.2.2; (have := P.out; simp only [List.length_append, List.length_nil]; omega); rintro en w10 ⟨rfl, k8⟩; have y2 : w10.cell? ⟨w.heap.size, 6, none⟩ = some (.int .i64 e.key) /\ w10.cell? ⟨w.heap.size, 7, none⟩ = some (.string e.t) := ⟨k8.cells 6, k8.cells 7⟩))
 have E3 := iH k8
 clear k8 y2
 go_wp2_with fail
 obtain ⟨v, h1, h2, h3, h4, h5, h6, h7⟩ := E3.out
 refine (bytes_any _ _ v _ _ h1 (by have := P.out; simp only [List.length_append, List.length_nil]; omega)).mono ?_
 rintro en w11 ⟨v', rfl, g, k⟩
 have G := iH g; have K := iH k; have H6 := iH h6
 clear g k h1 h2 h3 h4 h5 h6 h7
 go_wp2
 go_ret
 refine ⟨v', rfl, ?_, H6.out.trans K.out (by simp)⟩
 have := G.out.mono (base' := w.heap.size) (by have := H6.out.size; simp at this ⊢; omega)
 simpa only [Ev.encL, Ev.r2, Ev.r3, Ev.r4, Ev.r5, Ev.r6, Ev.r7, Ev.r8, List.nil_append, List.append_assoc] using this
end Go.Proofs.Ytjdbmlifekghfaa
