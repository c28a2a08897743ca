/-
  Ec, RefText, Ed in one text.
-/
import Derived.Test.YtjdbmlifekghfaaEt0
import Derived.Test.YtjdbmlifekghfaaEt3
import Derived.Test.YtjdbmlifekghfaaEt2
set_option linter.unusedVariables false
set_option maxHeartbeats 16000000
set_option maxRecDepth 100000
namespace Go.Proofs.Ytjdbmlifekghfaa
open Go.RowKit
theorem stN_len (lo hi : Nat) (s : Sd) : (stN lo hi s).2.l.length <= s.l.length := xqt _ _
theorem rText_len (m e : Int) (l : List UInt8) : (xqg m e l).2.1.length <= l.length := by
 have := xqt e l
 unfold xqg xqG
 split
 ·split
  ·simp
  split
  ·simp
  simp only [List.length_drop]; omega
 exact this
structure Dw (w0 : World) (B q r p : Nat) (v : Value) (s : Sd) (cs : Array Value) (w : World) : Prop where
 er : Er w q r v s
 ev : w.heap[p]? = some (.cells cs 69 (0, 0))
 res : w.heap[B]? = some (.cells Ev.zero.cs 69 (0, 0))
 k : Kept w0 w []
 len : s.l.length <= 1099511627796
 pq : p ≠ q /\ p ≠ r
 bq : B ≠ q /\ B ≠ r /\ B ≠ p
 low : w0.heap.size <= q /\ w0.heap.size <= r /\ w0.heap.size <= p
 vb : ∀ b, v.ownBlock = some b -> b ≠ p
theorem Dw.call {w0 : World} {B q r p : Nat} {v v' : Value} {s s' : Sd} {cs : Array Value} {w w' : World} (h : Dw w0 B q r p v s cs w) (he : Er w' q r v' s') (hk : Kept w w' [q, r]) (hb : ∀ b, v'.ownBlock = some b -> v.ownBlock = some b) (hl : s'.l.length <= s.l.length) : Dw w0 B q r p v' s' cs w' := by
 have h1 := h.pq; have h2 := h.bq; have h3 := h.low
 refine ⟨he, hk.heap (by simp; omega) h.ev, hk.heap (by simp; omega) h.res, h.k.trans hk ?_, Nat.le_trans hl h.len, h.pq, h.bq, h.low, fun b hb' => h.vb b (hb b hb')⟩
 intro x hx
 simp at hx
 exact .inr (by omega)
theorem Dw.callR {w0 : World} {B q r p : Nat} {v v' : Value} {s : Sd} {cs : Array Value} {w w' : World} (h : Dw w0 B q r p v s cs w) {e' : Int} {l' : List UInt8} (hr : Rr w' r v' e' l') (hk : Kept w w' [r]) (hb : ∀ b, v'.ownBlock = some b -> v.ownBlock = some b) (hl : l'.length <= s.l.length) : Dw w0 B q r p v' ⟨s.bad, e', l'⟩ cs w' :=
 h.call (h.er.read hr hk hb) (hk.mono (by simp)) hb hl
theorem Dw.store {w0 : World} {B q r p : Nat} {v : Value} {s : Sd} {cs : Array Value} {w : World} (h : Dw w0 B q r p v s cs w) (j : Nat) (u : Value) : Dw w0 B q r p v s (cs.setIfInBounds j u) (w.setCell ⟨p, j, none⟩ u) := by
 have h1 := h.pq; have h2 := h.bq; have h3 := h.low
 have hk : Kept w (w.setCell ⟨p, j, none⟩ u) [p] := (Kept.refl w [p]).setCell (.inl (by simp)) _
 refine ⟨h.er.kept hk (by simp; omega) (by simp; omega) (by simpa using h.vb), xqa h.ev j u, hk.heap (by simp; omega) h.res, h.k.trans hk ?_, h.len, h.pq, h.bq, h.low, h.vb⟩
 intro x hx
 simp at hx
 exact .inr (by omega)
theorem Dw.cell {w0 : World} {B q r p : Nat} {v : Value} {s : Sd} {cs : Array Value} {w : World} (h : Dw w0 B q r p v s cs w) : w.cell? ⟨q, 0, none⟩ = some (.pointer (some ⟨r, 0, none⟩)) := h.er.cells.1
theorem Dw.cells {w0 : World} {B q r p : Nat} {v : Value} {s : Sd} {cs : Array Value} {w : World} (h : Dw w0 B q r p v s cs w) (j : Nat) : w.cell? ⟨p, j, none⟩ = cs[j]? /\ w.frozen? ⟨p, j, none⟩ = false :=
 ⟨cell_of_row w p j _ _ _ h.ev, frozen_of_row w p j _ _ h.ev⟩
theorem Dw.rcells {w0 : World} {B q r p : Nat} {v : Value} {s : Sd} {cs : Array Value} {w : World} (h : Dw w0 B q r p v s cs w) (j : Nat) : w.cell? ⟨B, j, none⟩ = Ev.zero.cs[j]? /\ w.frozen? ⟨B, j, none⟩ = false :=
 ⟨cell_of_row w B j _ _ _ h.res, frozen_of_row w B j _ _ h.res⟩
theorem eight {w : World} {p : Nat} {x0 x1 x2 x3 x4 x5 x6 x7 : Value} {T : TypeId} (h : w.heap[p]? = some (.cells #[x0, x1, x2, x3, x4, x5, x6, x7] T (0, 0))) (u0 u1 u2 u3 u4 u5 u6 u7 : Value) :
  ((((((((w.setCell ⟨p, 0, none⟩ u0).setCell ⟨p, 1, none⟩ u1).setCell ⟨p, 2, none⟩ u2).setCell ⟨p, 3, none⟩ u3).setCell ⟨p, 4, none⟩ u4).setCell ⟨p, 5, none⟩ u5).setCell ⟨p, 6, none⟩ u6).setCell ⟨p, 7, none⟩ u7).heap[p]? = some (.cells #[u0, u1, u2, u3, u4, u5, u6, u7] T (0, 0)) /\ Kept w ((((((((w.setCell ⟨p, 0, none⟩ u0).setCell ⟨p, 1, none⟩ u1).setCell ⟨p, 2, none⟩ u2).setCell ⟨p, 3, none⟩ u3).setCell ⟨p, 4, none⟩ u4).setCell ⟨p, 5, none⟩ u5).setCell ⟨p, 6, none⟩ u6).setCell ⟨p, 7, none⟩ u7) [p] := by
 refine ⟨?_, ((((((((Kept.refl w [p]).setCell (.inl (by simp)) _).setCell (.inl (by simp)) _).setCell (.inl (by simp)) _).setCell (.inl (by simp)) _).setCell (.inl (by simp)) _).setCell (.inl (by simp)) _).setCell (.inl (by simp)) _).setCell (.inl (by simp)) _⟩
 have g0 := xqa h 0 u0
 have g1 := xqa g0 1 u1
 have g2 := xqa g1 2 u2
 have g3 := xqa g2 3 u3
 have g4 := xqa g3 4 u4
 have g5 := xqa g4 5 u5
 have g6 := xqa g5 6 u6
 have g7 := xqa g6 7 u7
 simpa using g7
theorem ret_ev {a b : Array Value} {c d : Int} (h1 : a = b) (h2 : c = d) : Ending.returned (.tuple #[.agg a, .int .i64 c]) = .returned (.tuple #[.agg b, .int .i64 d]) := by rw [h1, h2]
theorem decode_any (v : Value) (l : List UInt8) (w : World) (h : Rd w v l) (hl : l.length <= 1099511627796) :
  Calls Try.prog 92 #[v] w fun e w' => e = .returned (.tuple #[.agg (cEv l).cs, .int .i64 (cErr l)]) /\ Kept w w' [] := by
 have H := iH h; clear h
 obtain ⟨n1, hn1⟩ : ∃ n, n = (c1 l).1 := ⟨_, rfl⟩
 obtain ⟨s1, hs1⟩ : ∃ s, s = (c1 l).2 := ⟨_, rfl⟩
 obtain ⟨n2, hn2⟩ : ∃ n, n = (c2 l).1 := ⟨_, rfl⟩
 obtain ⟨s2, hs2⟩ : ∃ s, s = (c2 l).2 := ⟨_, rfl⟩
 obtain ⟨n3, hn3⟩ : ∃ n, n = (c3 l).1 := ⟨_, rfl⟩
 obtain ⟨s3, hs3⟩ : ∃ s, s = (c3 l).2 := ⟨_, rfl⟩
 obtain ⟨n4, hn4⟩ : ∃ n, n = (c4 l).1 := ⟨_, rfl⟩
 obtain ⟨s4, hs4⟩ : ∃ s, s = (c4 l).2 := ⟨_, rfl⟩
 obtain ⟨n5, hn5⟩ : ∃ n, n = (c5 l).1 := ⟨_, rfl⟩
 obtain ⟨s5, hs5⟩ : ∃ s, s = (c5 l).2 := ⟨_, rfl⟩
 obtain ⟨n6, hn6⟩ : ∃ n, n = (c6 l).1 := ⟨_, rfl⟩
 obtain ⟨s6, hs6⟩ : ∃ s, s = (c6 l).2 := ⟨_, rfl⟩
 obtain ⟨n7, hn7⟩ : ∃ n, n = (c7 l).1 := ⟨_, rfl⟩
 obtain ⟨s7, hs7⟩ : ∃ s, s = (c7 l).2 := ⟨_, rfl⟩
 obtain ⟨n8, hn8⟩ : ∃ n, n = (c8 l).1 := ⟨_, rfl⟩
 obtain ⟨s8, hs8⟩ : ∃ s, s = (c8 l).2 := ⟨_, rfl⟩
 have hE : cErr l = if s8.bad = true then 2 else rEnd s8.e s8.l := by rw [hs8]; rfl
 have hV : cErr l = 0 -> (cEv l).cs = #[.int .i64 (wrap64 (n1 : Int)), .int .i64 (wrap64 (n2 : Int)), .string (strL n3), .int .i64 (wrap64 (n4 : Int)), .int .i64 (wrap64 (n5 : Int)), .int .u8 ((n6 : Int) % 256), .int .i64 n7, .string (strL n8)] := by
  intro h0
  rw [cEv, if_pos h0, hn1, hn2, hn3, hn4, hn5, hn6, hn7, hn8]
  rfl
 have H1 : RowKit.Hid (stN 1 9223372036854775807 ⟨false, 0, l⟩ = (n1, s1)) := iH (by rw [hn1, hs1]; rfl)
 have H2 : RowKit.Hid (stN 1 9223372036854775807 s1 = (n2, s2)) := iH (by rw [hn2, hs2, hs1]; rfl)
 have H3 : RowKit.Hid (stT s2 = (n3, s3)) := iH (by rw [hn3, hs3, hs2]; rfl)
 have H4 : RowKit.Hid (stN 0 2147483647 s3 = (n4, s4)) := iH (by rw [hn4, hs4, hs3]; rfl)
 have H5 : RowKit.Hid (stN 0 3 s4 = (n5, s5)) := iH (by rw [hn5, hs5, hs4]; rfl)
 have H6 : RowKit.Hid (stN 1 4 s5 = (n6, s6)) := iH (by rw [hn6, hs6, hs5]; rfl)
 have H7 : RowKit.Hid (stI s6 = (n7, s7)) := iH (by rw [hn7, hs7, hs6]; rfl)
 have H8 : RowKit.Hid (stT s7 = (n8, s8)) := iH (by rw [hn8, hs8, hs7]; rfl)
 have HE := iH hE; have HV := iH hV
 clear hE hV hn1 hs1 hn2 hs2 hn3 hs3 hn4 hs4 hn5 hs5 hn6 hs6 hn7 hs7 hn8 hs8
 go_enter Try.func92, Try.ntmps92
 go_wp2_with fail
 refine (new_any2 v l _ (H.out.kept ((Kept.refl w []).alloc _) (by simp)) hl).mono ?_
 rintro e w1 ⟨r, v0, rfl, hr, hr1, hr2, hvb, hk1⟩
 have D0 : RowKit.Hid (Dw w w.heap.size w1.heap.size r (w1.heap.size + 1) v0 ⟨false, 0, l⟩ #[.int .i64 0, .int .i64 0, .string ⟨#[]⟩, .int .i64 0, .int .i64 0, .int .u8 0, .int .i64 0, .string ⟨#[]⟩] ((w1.alloc (.cells #[.pointer (some ⟨r, 0, none⟩), .bool false] 156)).alloc (.cells #[.int .i64 0, .int .i64 0, .string ⟨#[]⟩, .int .i64 0, .int .i64 0, .int .u8 0, .int .i64 0, .string ⟨#[]⟩] 69))) := iH (by
  have hB := hk1.heap (by simp) (heap_alloc_new w (.cells Ev.zero.cs 69))
  have hz := hk1.size
  simp at hz hr1
  have k2 : Kept w1 ((w1.alloc (.cells #[.pointer (some ⟨r, 0, none⟩), .bool false] 156)).alloc (.cells #[.int .i64 0, .int .i64 0, .string ⟨#[]⟩, .int .i64 0, .int .i64 0, .int .u8 0, .int .i64 0, .string ⟨#[]⟩] 69)) [] := ((Kept.refl w1 []).alloc _).alloc _
  refine ⟨⟨?_, hr.kept k2 (by simp) (by simp), ?_, ?_⟩, ?_, ?_, ?_, hl, ?_, ?_, ?_, ?_⟩
  ·have := heap_alloc_new w1 (.cells #[.pointer (some ⟨r, 0, none⟩), .bool false] 156)
   exact (((Kept.refl (w1.alloc (.cells #[.pointer (some ⟨r, 0, none⟩), .bool false] 156)) []).alloc _).heap (by simp) this)
  ·intro b hb; have := (hvb b hb).2; omega
  ·omega
  ·simpa using heap_alloc_new (w1.alloc (.cells #[.pointer (some ⟨r, 0, none⟩), .bool false] 156)) (.cells #[.int .i64 0, .int .i64 0, .string ⟨#[]⟩, .int .i64 0, .int .i64 0, .int .u8 0, .int .i64 0, .string ⟨#[]⟩] 69)
  ·exact k2.heap (by simp) hB
  ·exact (((Kept.refl w []).alloc _).trans hk1 (by simp)).trans k2 (by simp)
  ·omega
  ·omega
  ·omega
  ·intro b hb; have := (hvb b hb).2; omega)
 clear hr hr1 hr2 hvb hk1
 have q1 := D0.out.cell
 go_wp2_with fail
 refine (ernum_any _ r v0 ⟨false, 0, l⟩ 1 9223372036854775807 _ D0.out.er D0.out.len).mono ?_
 rw [H1.out]
 rintro e w2 ⟨rfl, v1, g, k, b⟩
 have hle := stN_len 1 9223372036854775807 ⟨false, 0, l⟩; rw [H1.out] at hle
 have D := D0.out.call g k b hle
 obtain ⟨x1, y1⟩ := D.cells 0
 simp at x1
 have D1 := iH (D.store 0 (.int .i64 (wrap64 (n1 : Int))))
 simp only [List.setIfInBounds_toArray, List.set_cons_zero] at D1
 clear g k b D q1
 have q2 := D1.out.cell
 go_wp2_with fail
 refine (ernum_any _ r v1 s1 1 9223372036854775807 _ D1.out.er D1.out.len).mono ?_
 rw [H2.out]
 rintro e w3 ⟨rfl, v2, g, k, b⟩
 have hle := stN_len 1 9223372036854775807 s1; rw [H2.out] at hle
 have D := D1.out.call g k b hle
 obtain ⟨x2, y2⟩ := D.cells 1
 simp at x2
 have D2 := iH (D.store 1 (.int .i64 (wrap64 (n2 : Int))))
 simp only [List.setIfInBounds_toArray, List.set_cons_zero, List.set_cons_succ] at D2
 clear g k b D q2
 have q3 := D2.out.cell
 go_wp2_with fail
 refine (rtext_any r v2 40 s2.e s2.l _ D2.out.er.2.1 D2.out.len (by omega)).mono ?_
 rintro e w4 ⟨rfl, v3, g, k, b⟩
 have D := D2.out.callR g k b (rText_len _ _ _)
 change Dw _ _ _ _ _ _ (stT s2).2 _ _ at D
 rw [H3.out] at D
 rw [show (xqg 40 s2.e s2.l).1 = n3 from congrArg Prod.fst H3.out]
 obtain ⟨x3, y3⟩ := D.cells 2
 simp at x3
 have D3 := iH (D.store 2 (.string (strL n3)))
 simp only [List.setIfInBounds_toArray, List.set_cons_zero, List.set_cons_succ] at D3
 clear g k b D q3
 have q4 := D3.out.cell
 go_wp2_with fail
 refine (ernum_any _ r v3 s3 0 2147483647 _ D3.out.er D3.out.len).mono ?_
 rw [H4.out]
 rintro e w5 ⟨rfl, v4, g, k, b⟩
 have hle := stN_len 0 2147483647 s3; rw [H4.out] at hle
 have D := D3.out.call g k b hle
 obtain ⟨x4, y4⟩ := D.cells 3
 simp at x4
 have D4 := iH (D.store 3 (.int .i64 (wrap64 (n4 : Int))))
 simp only [List.setIfInBounds_toArray, List.set_cons_zero, List.set_cons_succ] at D4
 clear g k b D q4
 have q5 := D4.out.cell
 go_wp2_with fail
 refine (ernum_any _ r v4 s4 0 3 _ D4.out.er D4.out.len).mono ?_
 rw [H5.out]
 rintro e w6 ⟨rfl, v5, g, k, b⟩
 have hle := stN_len 0 3 s4; rw [H5.out] at hle
 have D := D4.out.call g k b hle
 obtain ⟨x5, y5⟩ := D.cells 4
 simp at x5
 have D5 := iH (D.store 4 (.int .i64 (wrap64 (n5 : Int))))
 simp only [List.setIfInBounds_toArray, List.set_cons_zero, List.set_cons_succ] at D5
 clear g k b D q5
 have q6 := D5.out.cell
 go_wp2_with fail
 refine (ernum_any _ r v5 s5 1 4 _ D5.out.er D5.out.len).mono ?_
 rw [H6.out]
 rintro e w7 ⟨rfl, v6, g, k, b⟩
 have hle := stN_len 1 4 s5; rw [H6.out] at hle
 have D := D5.out.call g k b hle
 obtain ⟨x6, y6⟩ := D.cells 5
 simp at x6
 have D6 := iH (D.store 5 (.int .u8 ((n6 : Int) % 256)))
 simp only [List.setIfInBounds_toArray, List.set_cons_zero, List.set_cons_succ] at D6
 clear g k b D q6
 have q7 := D6.out.cell
 go_wp2_with fail
 refine (rint_any r v6 s6.e s6.l _ D6.out.er.2.1 D6.out.len).mono ?_
 rintro e w8 ⟨rfl, v7, g, k, b⟩
 have D := D6.out.callR g k b (xqt _ _)
 change Dw _ _ _ _ _ _ (stI s6).2 _ _ at D
 rw [H7.out] at D
 rw [show unzig (rNum s6.e s6.l).1 = n7 from congrArg Prod.fst H7.out]
 obtain ⟨x7, y7⟩ := D.cells 6
 simp at x7
 have D7 := iH (D.store 6 (.int .i64 n7))
 simp only [List.setIfInBounds_toArray, List.set_cons_zero, List.set_cons_succ] at D7
 clear g k b D q7
 have q8 := D7.out.cell
 go_wp2_with fail
 refine (rtext_any r v7 40 s7.e s7.l _ D7.out.er.2.1 D7.out.len (by omega)).mono ?_
 rintro e w9 ⟨rfl, v8, g, k, b⟩
 have D := D7.out.callR g k b (rText_len _ _ _)
 change Dw _ _ _ _ _ _ (stT s7).2 _ _ at D
 rw [H8.out] at D
 rw [show (xqg 40 s7.e s7.l).1 = n8 from congrArg Prod.fst H8.out]
 obtain ⟨x8, y8⟩ := D.cells 7
 simp at x8
 have D8 := iH (D.store 7 (.string (strL n8)))
 simp only [List.setIfInBounds_toArray, List.set_cons_zero, List.set_cons_succ] at D8
 clear g k b D q8
 have q9 := D8.out.cell
 go_wp2_with fail
 refine (erend_any _ r v8 s8 _ D8.out.er D8.out.len).mono ?_
 rw [<- HE.out]
 rintro e w10 ⟨rfl, rfl⟩
 obtain ⟨a0, _⟩ := D8.out.cells 0; simp at a0
 obtain ⟨b0, f0⟩ := D8.out.rcells 0; simp [Ev.zero, Ev.cs] at b0
 obtain ⟨a1, _⟩ := D8.out.cells 1; simp at a1
 obtain ⟨b1, f1⟩ := D8.out.rcells 1; simp [Ev.zero, Ev.cs] at b1
 obtain ⟨a2, _⟩ := D8.out.cells 2; simp at a2
 obtain ⟨b2, f2⟩ := D8.out.rcells 2; simp [Ev.zero, Ev.cs] at b2
 obtain ⟨a3, _⟩ := D8.out.cells 3; simp at a3
 obtain ⟨b3, f3⟩ := D8.out.rcells 3; simp [Ev.zero, Ev.cs] at b3
 obtain ⟨a4, _⟩ := D8.out.cells 4; simp at a4
 obtain ⟨b4, f4⟩ := D8.out.rcells 4; simp [Ev.zero, Ev.cs] at b4
 obtain ⟨a5, _⟩ := D8.out.cells 5; simp at a5
 obtain ⟨b5, f5⟩ := D8.out.rcells 5; simp [Ev.zero, Ev.cs] at b5
 obtain ⟨a6, _⟩ := D8.out.cells 6; simp at a6
 obtain ⟨b6, f6⟩ := D8.out.rcells 6; simp [Ev.zero, Ev.cs] at b6
 obtain ⟨a7, _⟩ := D8.out.cells 7; simp at a7
 obtain ⟨b7, f7⟩ := D8.out.rcells 7; simp [Ev.zero, Ev.cs] at b7
 by_cases h0 : cErr l = 0
 ·have HV0 := iH (HV.out h0); have H0 := iH h0
  rw [h0]
  clear h0
  go_wp2
  obtain ⟨g8, k8⟩ := eight (p := w.heap.size) D8.out.res (.int .i64 (wrap64 (n1 : Int))) (.int .i64 (wrap64 (n2 : Int))) (.string (strL n3)) (.int .i64 (wrap64 (n4 : Int))) (.int .i64 (wrap64 (n5 : Int))) (.int .u8 ((n6 : Int) % 256)) (.int .i64 n7) (.string (strL n8))
  have z0 := cell_of_row _ w.heap.size 0 _ _ _ g8
  have z1 := cell_of_row _ w.heap.size 1 _ _ _ g8
  have z2 := cell_of_row _ w.heap.size 2 _ _ _ g8
  have z3 := cell_of_row _ w.heap.size 3 _ _ _ g8
  have z4 := cell_of_row _ w.heap.size 4 _ _ _ g8
  have z5 := cell_of_row _ w.heap.size 5 _ _ _ g8
  have z6 := cell_of_row _ w.heap.size 6 _ _ _ g8
  have z7 := cell_of_row _ w.heap.size 7 _ _ _ g8
  simp at z0 z1 z2 z3 z4 z5 z6 z7
  refine bodyPost_ret (v := .tuple #[.agg #[.int .i64 (wrap64 (n1 : Int)), .int .i64 (wrap64 (n2 : Int)), .string (strL n3), .int .i64 (wrap64 (n4 : Int)), .int .i64 (wrap64 (n5 : Int)), .int .u8 ((n6 : Int) % 256), .int .i64 n7, .string (strL n8)], .int .i64 0]) (by simp [results, Try.results92, go_sem, z0, z1, z2, z3, z4, z5, z6, z7]) rfl ?_
  exact ⟨ret_ev HV0.out.symm H0.out.symm, D8.out.k.trans k8 (by intro x hx; simp at hx; exact .inr (by omega))⟩
 ·have x0 : (cErr l != 0) = true := by simpa using h0
  have HZ : RowKit.Hid ((cEv l).cs = Ev.zero.cs) := iH (by rw [cEv, if_neg h0])
  clear h0
  go_wp2
  obtain ⟨g8, k8⟩ := eight (p := w.heap.size) D8.out.res (.int .i64 0) (.int .i64 0) (.string ⟨#[]⟩) (.int .i64 0) (.int .i64 0) (.int .u8 0) (.int .i64 0) (.string ⟨#[]⟩)
  have z0 := cell_of_row _ w.heap.size 0 _ _ _ g8
  have z1 := cell_of_row _ w.heap.size 1 _ _ _ g8
  have z2 := cell_of_row _ w.heap.size 2 _ _ _ g8
  have z3 := cell_of_row _ w.heap.size 3 _ _ _ g8
  have z4 := cell_of_row _ w.heap.size 4 _ _ _ g8
  have z5 := cell_of_row _ w.heap.size 5 _ _ _ g8
  have z6 := cell_of_row _ w.heap.size 6 _ _ _ g8
  have z7 := cell_of_row _ w.heap.size 7 _ _ _ g8
  simp at z0 z1 z2 z3 z4 z5 z6 z7
  refine bodyPost_ret (v := .tuple #[.agg #[.int .i64 0, .int .i64 0, .string ⟨#[]⟩, .int .i64 0, .int .i64 0, .int .u8 0, .int .i64 0, .string ⟨#[]⟩], .int .i64 (cErr l)]) (by simp [results, Try.results92, go_sem, z0, z1, z2, z3, z4, z5, z6, z7]) rfl ?_
  exact ⟨ret_ev HZ.out.symm rfl, D8.out.k.trans k8 (by intro x hx; simp at hx; exact .inr (by omega))⟩
theorem xq0 (v : Value) (most e : Int) (l : List UInt8) (w : World) (h : Rd w v l) (hl : l.length <= 1099511627796) (hm : -9223372036854775808 <= most /\ most <= 9223372036854775807) :
  Calls Try.prog 37 #[.agg #[v, .int .i64 e], .int .i64 most] w fun en w' => ∃ v', en = .returned (.tuple #[.string (strL (xqg most e l).1), .agg #[v', .int .i64 (xqg most e l).2.2]]) /\ Rd w' v' (xqg most e l).2.1 /\ Kept w w' [] /\ (∀ x, v'.ownBlock = some x -> v.ownBlock = some x) := by
 have H := iH h
 obtain ⟨a, len, c, hv⟩ := h.shape3
 clear h
 subst hv
 obtain ⟨h1, h2⟩ := hm
 have hn2 := rNum_lt e l
 have hln := xqt e l
 obtain ⟨n, hn⟩ : ∃ n, n = (rNum e l).1 := ⟨_, rfl⟩
 obtain ⟨l1, hl1⟩ : ∃ l1, l1 = (rNum e l).2.1 := ⟨_, rfl⟩
 obtain ⟨e1, he1⟩ : ∃ e1, e1 = (rNum e l).2.2 := ⟨_, rfl⟩
 have hT : xqg most e l = xqG most n l1 e1 := by rw [xqg, <- hn, <- hl1, <- he1]
 rw [<- hn] at hn2
 rw [<- hl1] at hln
 have Hn := iH hn; have Hl1 := iH hl1; have He1 := iH he1; have HT := iH hT
 clear hn hl1 he1 hT
 go_enter Try.func37, Try.ntmps37
 go_wp2_with fail
 refine (yqb _ e l _ (H.out.kept (((Kept.refl w []).alloc _).alloc _) (by simp)) hl).mono ?_
 rintro en w1 ⟨v1, rfl, hr1, hk1, hb1⟩
 rw [<- Hn.out, <- He1.out]
 rw [<- Hl1.out] at hr1
 have hB : w1.heap[w.heap.size + 1]? = some (.cells #[.slice none 0 0, .int .i64 0] 95 (0, 0)) := hk1.heap (by simp) (by
  have := heap_alloc_new (w.alloc (.cells #[.slice a len c, .int .i64 e] 95)) (.cells #[.slice none 0 0, .int .i64 0] 95)
  simpa using this)
 have hlt : w.heap.size + 1 < w1.heap.size := (Array.getElem?_eq_some_iff.1 hB).1
 have k0 : w1.cell? ⟨w.heap.size + 1, 0, none⟩ = some (.slice none 0 0) := by simpa using cell_of_row w1 (w.heap.size + 1) 0 _ _ _ hB
 have k1 : w1.cell? ⟨w.heap.size + 1, 1, none⟩ = some (.int .i64 0) := by simpa using cell_of_row w1 (w.heap.size + 1) 1 _ _ _ hB
 have f0 := frozen_of_row w1 (w.heap.size + 1) 0 _ _ hB
 have f1 := frozen_of_row w1 (w.heap.size + 1) 1 _ _ hB
 obtain ⟨a1, c1, hv1, hc1, hna1, hcell1⟩ := id hr1
 have Hr1 := iH hr1; have Hk1 := iH (((((Kept.refl w []).alloc _).alloc _)).trans hk1 (by simp)); have Hb1 := iH hb1; have HB := iH hB
 have Hcell1 := iH hcell1
 clear hr1 hk1 hb1 hB hcell1
 subst hv1
 by_cases he : e1 = 0
 ·subst he
  by_cases hmx : max most 0 < (n : Int)
  ·have HX : RowKit.Hid (xqg most e l = ([], [], 2)) := iH (by rw [HT.out, xqG, if_pos rfl, if_pos hmx])
   by_cases hm0 : most < 0
   ·have hn0 : (0 : Int) < (n : Int) := by omega
    have hn1 : 0 < n := by omega
    clear hmx
    obtain ⟨q0, q1⟩ := xqw HB.out (.slice none 0 0) (.int .i64 2) (.cells #[.slice a1 l1.length c1, .int .i64 0] 95)
    go_wp2
    refine bodyPost_ret (v := .tuple #[.string ⟨#[]⟩, .agg #[.slice none 0 0, .int .i64 2]]) (by simp [results, Try.results37, go_sem, q0, q1]) rfl ?_
    rw [HX.out]
    exact ⟨_, rfl, Rd.nil _, Hk1.out.trans ((((Kept.refl w1 [w.heap.size + 1]).setCell (.inl (by simp)) _).setCell (.inl (by simp)) _).alloc _) (by simp), by simp [Value.ownBlock]⟩
   have hn0 : most < (n : Int) := by omega
   clear hmx
   obtain ⟨q0, q1⟩ := xqw HB.out (.slice none 0 0) (.int .i64 2) (.cells #[.slice a1 l1.length c1, .int .i64 0] 95)
   go_wp2
   refine bodyPost_ret (v := .tuple #[.string ⟨#[]⟩, .agg #[.slice none 0 0, .int .i64 2]]) (by simp [results, Try.results37, go_sem, q0, q1]) rfl ?_
   rw [HX.out]
   exact ⟨_, rfl, Rd.nil _, Hk1.out.trans ((((Kept.refl w1 [w.heap.size + 1]).setCell (.inl (by simp)) _).setCell (.inl (by simp)) _).alloc _) (by simp), by simp [Value.ownBlock]⟩
  by_cases hlen : l1.length < n
  ·have HX : RowKit.Hid (xqg most e l = ([], [], 3)) := iH (by rw [HT.out, xqG, if_pos rfl, if_neg hmx, if_pos hlen])
   have hlen2 : (l1.length : Int) < (n : Int) := by omega
   have hm0 : ¬ most < 0 := by omega
   have hn0 : ¬ most < (n : Int) := by omega
   clear hmx
   obtain ⟨q0, q1⟩ := xqw HB.out (.slice none 0 0) (.int .i64 3) (.cells #[.slice a1 l1.length c1, .int .i64 0] 95)
   go_wp2
   refine bodyPost_ret (v := .tuple #[.string ⟨#[]⟩, .agg #[.slice none 0 0, .int .i64 3]]) (by simp [results, Try.results37, go_sem, q0, q1]) rfl ?_
   rw [HX.out]
   exact ⟨_, rfl, Rd.nil _, Hk1.out.trans ((((Kept.refl w1 [w.heap.size + 1]).setCell (.inl (by simp)) _).setCell (.inl (by simp)) _).alloc _) (by simp), by simp [Value.ownBlock]⟩
  have HX : RowKit.Hid (xqg most e l = (l1.take n, l1.drop n, 0)) := iH (by rw [HT.out, xqG, if_pos rfl, if_neg hmx, if_neg hlen])
  have hlen2 : ¬ (l1.length : Int) < (n : Int) := by omega
  by_cases hne : l1 = []
  ·subst hne
   obtain rfl : n = 0 := by simpa using hlen
   have hcv := fun W x k => conv_empty W x k
   by_cases hm0 : most < 0
   ·clear hmx
    cases a1 with
    | none =>
    obtain rfl := hna1 rfl
    clear hna1
    obtain ⟨q0, q1⟩ := xqw HB.out (.slice none 0 0) (.int .i64 0) (.cells #[.slice none 0 0, .int .i64 0] 95)
    go_wp2
    go_region
    go_wp2
    refine bodyPost_ret (v := .tuple #[.string ⟨#[]⟩, .agg #[.slice none 0 0, .int .i64 0]]) (by simp [results, Try.results37, go_sem, q0, q1]) rfl ?_
    have hk3 : ∀ ob : Obj, Kept w1 (((w1.setCell ⟨w.heap.size + 1, 0, none⟩ (.slice none 0 0)).setCell ⟨w.heap.size + 1, 1, none⟩ (.int .i64 0)).alloc ob).drew [w.heap.size + 1] := fun ob =>
     ((((Kept.refl w1 _).setCell (.inl (by simp)) _).setCell (.inl (by simp)) _).alloc ob).drew
    rw [HX.out]
    exact ⟨.slice none 0 0, rfl, ⟨none, 0, rfl, Nat.zero_le _, by simp, fun h => absurd rfl h⟩, Hk1.out.trans (hk3 _) (by simp), fun x hx => Hb1.out x hx⟩
    | some x =>
    clear hna1
    obtain ⟨q0, q1⟩ := xqw HB.out (.slice (some x) 0 c1) (.int .i64 0) (.cells #[.slice (some x) 0 c1, .int .i64 0] 95)
    go_wp2
    go_region
    go_wp2
    refine bodyPost_ret (v := .tuple #[.string ⟨#[]⟩, .agg #[.slice (some x) 0 c1, .int .i64 0]]) (by simp [results, Try.results37, go_sem, q0, q1]) rfl ?_
    have hk3 : ∀ ob : Obj, Kept w1 (((w1.setCell ⟨w.heap.size + 1, 0, none⟩ (.slice (some x) 0 c1)).setCell ⟨w.heap.size + 1, 1, none⟩ (.int .i64 0)).alloc ob).drew [w.heap.size + 1] := fun ob =>
     ((((Kept.refl w1 _).setCell (.inl (by simp)) _).setCell (.inl (by simp)) _).alloc ob).drew
    rw [HX.out]
    exact ⟨.slice (some x) 0 c1, rfl, ⟨some x, c1, rfl, Nat.zero_le _, by simp, fun h => absurd rfl h⟩, Hk1.out.trans (hk3 _) (by simp), fun x hx => Hb1.out x hx⟩
   have hn0 : ¬ most < 0 := hm0
   clear hmx
   cases a1 with
   | none =>
   obtain rfl := hna1 rfl
   clear hna1
   obtain ⟨q0, q1⟩ := xqw HB.out (.slice none 0 0) (.int .i64 0) (.cells #[.slice none 0 0, .int .i64 0] 95)
   go_wp2
   go_region
   go_wp2
   refine bodyPost_ret (v := .tuple #[.string ⟨#[]⟩, .agg #[.slice none 0 0, .int .i64 0]]) (by simp [results, Try.results37, go_sem, q0, q1]) rfl ?_
   have hk3 : ∀ ob : Obj, Kept w1 (((w1.setCell ⟨w.heap.size + 1, 0, none⟩ (.slice none 0 0)).setCell ⟨w.heap.size + 1, 1, none⟩ (.int .i64 0)).alloc ob).drew [w.heap.size + 1] := fun ob =>
    ((((Kept.refl w1 _).setCell (.inl (by simp)) _).setCell (.inl (by simp)) _).alloc ob).drew
   rw [HX.out]
   exact ⟨.slice none 0 0, rfl, ⟨none, 0, rfl, Nat.zero_le _, by simp, fun h => absurd rfl h⟩, Hk1.out.trans (hk3 _) (by simp), fun x hx => Hb1.out x hx⟩
   | some x =>
   clear hna1
   obtain ⟨q0, q1⟩ := xqw HB.out (.slice (some x) 0 c1) (.int .i64 0) (.cells #[.slice (some x) 0 c1, .int .i64 0] 95)
   go_wp2
   go_region
   go_wp2
   refine bodyPost_ret (v := .tuple #[.string ⟨#[]⟩, .agg #[.slice (some x) 0 c1, .int .i64 0]]) (by simp [results, Try.results37, go_sem, q0, q1]) rfl ?_
   have hk3 : ∀ ob : Obj, Kept w1 (((w1.setCell ⟨w.heap.size + 1, 0, none⟩ (.slice (some x) 0 c1)).setCell ⟨w.heap.size + 1, 1, none⟩ (.int .i64 0)).alloc ob).drew [w.heap.size + 1] := fun ob =>
    ((((Kept.refl w1 _).setCell (.inl (by simp)) _).setCell (.inl (by simp)) _).alloc ob).drew
   rw [HX.out]
   exact ⟨.slice (some x) 0 c1, rfl, ⟨some x, c1, rfl, Nat.zero_le _, by simp, fun h => absurd rfl h⟩, Hk1.out.trans (hk3 _) (by simp), fun x hx => Hb1.out x hx⟩
  obtain ⟨b, o, rfl, hcell2⟩ := Hcell1.out hne
  have hbw : b < w1.heap.size := World.block_lt_of_cell? w1 _ (hcell2 0 (List.length_pos_iff.2 hne))
  have hcv : ∀ k : Nat, (convert 22 9 (.slice (some ⟨b, o, none⟩) n k)).run Try.prog (w1.alloc (.cells #[.slice (some ⟨b, o, none⟩) l1.length c1, .int .i64 0] 95)) = .ok (.string (strL (l1.take n))) (w1.alloc (.cells #[.slice (some ⟨b, o, none⟩) l1.length c1, .int .i64 0] 95)) := fun k =>
   conv_take _ b o k n l1 (by omega) (fun i hi => by rw [World.cell?_alloc_past _ _ _ hbw]; exact hcell2 i hi)
  have hcv2 : ∀ k : Nat, (convert 22 9 (.slice (some ⟨b, o, none⟩) n k)).run Try.prog (w1.alloc (.cells #[.slice (some ⟨b, o, none⟩) l1.length c1, .int .i64 0] 95)).drew = .ok (.string (strL (l1.take n))) (w1.alloc (.cells #[.slice (some ⟨b, o, none⟩) l1.length c1, .int .i64 0] 95)).drew := fun k =>
   conv_take _ b o k n l1 (by omega) (fun i hi => by show (w1.alloc _).cell? _ = _; rw [World.cell?_alloc_past _ _ _ hbw]; exact hcell2 i hi)
  obtain ⟨S, hS⟩ : ∃ S, S = strL (l1.take n) := ⟨_, rfl⟩
  rw [<- hS] at hcv hcv2
  have HS := iH hS; have Hcell := iH hcell2
  clear hcell2 hS hna1
  by_cases hm0 : most < 0
  ·obtain rfl : n = 0 := by omega
   clear hmx
   obtain ⟨q0, q1⟩ := xqw HB.out (.slice (some ⟨b, o, none⟩) l1.length c1) (.int .i64 0) (.cells #[.slice (some ⟨b, o, none⟩) l1.length c1, .int .i64 0] 95)
   go_wp2
   go_region
   go_wp2
   refine bodyPost_ret (v := .tuple #[.string S, .agg #[.slice (some ⟨b, o, none⟩) l1.length c1, .int .i64 0]]) (by simp [results, Try.results37, go_sem, q0, q1]) rfl ?_
   have hk3 : ∀ ob : Obj, Kept w1 (((w1.setCell ⟨w.heap.size + 1, 0, none⟩ (.slice (some ⟨b, o, none⟩) l1.length c1)).setCell ⟨w.heap.size + 1, 1, none⟩ (.int .i64 0)).alloc ob).drew [w.heap.size + 1] := fun ob =>
    ((((Kept.refl w1 _).setCell (.inl (by simp)) _).setCell (.inl (by simp)) _).alloc ob).drew
   rw [HX.out]
   exact ⟨.slice (some ⟨b, o, none⟩) l1.length c1, by rw [<- HS.out], (rd_cut Hcell.out 0 o l1.length c1 rfl hc1 (fun _ => rfl)).kept2 (hk3 _) (H.out.not_new (by simp; omega) (fun x hx => Hb1.out x hx) (by omega)), Hk1.out.trans (hk3 _) (by simp), fun x hx => Hb1.out x hx⟩
  have hn0 : ¬ most < (n : Int) := by omega
  by_cases hcs : c1 = n
  ·subst hcs
   obtain ⟨q0, q1⟩ := xqw HB.out (.slice (some ⟨b, o, none⟩) 0 0) (.int .i64 0) (.cells #[.slice (some ⟨b, o, none⟩) l1.length c1, .int .i64 0] 95)
   go_wp2
   go_region
   go_wp2
   refine bodyPost_ret (v := .tuple #[.string S, .agg #[.slice (some ⟨b, o, none⟩) 0 0, .int .i64 0]]) (by simp [results, Try.results37, go_sem, q0, q1]) rfl ?_
   have hk3 : ∀ ob : Obj, Kept w1 (((w1.setCell ⟨w.heap.size + 1, 0, none⟩ (.slice (some ⟨b, o, none⟩) 0 0)).setCell ⟨w.heap.size + 1, 1, none⟩ (.int .i64 0)).alloc ob).drew [w.heap.size + 1] := fun ob =>
    ((((Kept.refl w1 _).setCell (.inl (by simp)) _).setCell (.inl (by simp)) _).alloc ob).drew
   rw [HX.out]
   exact ⟨.slice (some ⟨b, o, none⟩) 0 0, by rw [<- HS.out], (rd_cut Hcell.out c1 o 0 0 (by omega) (by omega) (by omega)).kept2 (hk3 _) (H.out.not_new (by simp; omega) (fun x hx => Hb1.out x hx) (by omega)), Hk1.out.trans (hk3 _) (by simp), fun x hx => Hb1.out x hx⟩
  have hcs' : (n : Int) < (c1 : Int) := by omega
  obtain ⟨q0, q1⟩ := xqw HB.out (.slice (some ⟨b, o + n, none⟩) (l1.length - n) (c1 - n)) (.int .i64 0) (.cells #[.slice (some ⟨b, o, none⟩) l1.length c1, .int .i64 0] 95)
  go_wp2
  go_region
  go_wp2
  refine bodyPost_ret (v := .tuple #[.string S, .agg #[.slice (some ⟨b, o + n, none⟩) (l1.length - n) (c1 - n), .int .i64 0]]) (by simp [results, Try.results37, go_sem, q0, q1]) rfl ?_
  have hk3 : ∀ ob : Obj, Kept w1 (((w1.setCell ⟨w.heap.size + 1, 0, none⟩ (.slice (some ⟨b, o + n, none⟩) (l1.length - n) (c1 - n))).setCell ⟨w.heap.size + 1, 1, none⟩ (.int .i64 0)).alloc ob).drew [w.heap.size + 1] := fun ob =>
   ((((Kept.refl w1 _).setCell (.inl (by simp)) _).setCell (.inl (by simp)) _).alloc ob).drew
  rw [HX.out]
  exact ⟨.slice (some ⟨b, o + n, none⟩) (l1.length - n) (c1 - n), by rw [<- HS.out], (rd_cut Hcell.out n (o + n) (l1.length - n) (c1 - n) rfl (by omega) (fun _ => rfl)).kept2 (hk3 _) (H.out.not_new (by simp; omega) (fun x hx => Hb1.out x hx) (by omega)), Hk1.out.trans (hk3 _) (by simp), fun x hx => Hb1.out x hx⟩
 ·have x1 : (e1 != 0) = true := by simpa using he
  have HX : RowKit.Hid (xqg most e l = ([], l1, e1)) := iH (by rw [HT.out, xqG, if_neg he])
  clear he
  obtain ⟨q0, q1⟩ := xqw HB.out (.slice a1 l1.length c1) (.int .i64 e1) (.cells #[.slice a1 l1.length c1, .int .i64 e1] 95)
  go_wp2
  go_region
  go_wp2
  refine bodyPost_ret (v := .tuple #[.string ⟨#[]⟩, .agg #[.slice a1 l1.length c1, .int .i64 e1]]) (by simp [results, Try.results37, go_sem, q0, q1]) rfl ?_
  have hk3 : ∀ ob : Obj, Kept w1 (((w1.setCell ⟨w.heap.size + 1, 0, none⟩ (.slice a1 l1.length c1)).setCell ⟨w.heap.size + 1, 1, none⟩ (.int .i64 e1)).alloc ob).drew [w.heap.size + 1] := fun ob =>
   ((((Kept.refl w1 _).setCell (.inl (by simp)) _).setCell (.inl (by simp)) _).alloc ob).drew
  rw [HX.out]
  exact ⟨_, rfl, Hr1.out.kept2 (hk3 _) (H.out.not_new hln Hb1.out (by omega)), Hk1.out.trans (hk3 _) (by simp), Hb1.out⟩
theorem rfnum_any (v : Value) (e : Int) (l : List UInt8) (lo hi : Nat) (w : World) (h : Rd w v l) (hl : l.length <= 1099511627796) :
  Calls Try.prog 91 #[.agg #[v, .int .i64 e], .int .u64 lo, .int .u64 hi] w fun en w' => ∃ v', en = .returned (.tuple #[.int .u64 (rfN lo hi e l).1, .agg #[v', .int .i64 (rfN lo hi e l).2.2]]) /\ Rd w' v' (rfN lo hi e l).2.1 /\ Kept w w' [] /\ (∀ x, v'.ownBlock = some x -> v.ownBlock = some x) := by
 have H := iH h
 obtain ⟨a, len, c, hv⟩ := h.shape3
 clear h
 subst hv
 have hln := xqt e l
 have hnb := rNum_lt e l
 obtain ⟨n, hn⟩ : ∃ n, n = (rNum e l).1 := ⟨_, rfl⟩
 obtain ⟨l1, hl1⟩ : ∃ l1, l1 = (rNum e l).2.1 := ⟨_, rfl⟩
 obtain ⟨e1, he1⟩ : ∃ e1, e1 = (rNum e l).2.2 := ⟨_, rfl⟩
 have hT : rfN lo hi e l = if badN lo hi e1 n = true then (0, [], 2) else (n, l1, e1) := by rw [rfN, <- hn, <- he1, hn, hl1, he1]
 rw [<- hl1] at hln
 rw [<- hn] at hnb
 have Hn := iH hn; have Hl1 := iH hl1; have He1 := iH he1; have HT := iH hT
 clear hn hl1 he1 hT
 go_enter Try.func91, Try.ntmps91
 go_wp2_with fail
 refine (yqb _ e l _ (H.out.kept (((Kept.refl w []).alloc _).alloc _) (by simp)) hl).mono ?_
 rintro en w1 ⟨v1, rfl, hr1, hk1, hb1⟩
 rw [<- Hn.out, <- He1.out]
 rw [<- Hl1.out] at hr1
 have hB : w1.heap[w.heap.size + 1]? = some (.cells #[.slice none 0 0, .int .i64 0] 95 (0, 0)) := hk1.heap (by simp) (by
  have := heap_alloc_new (w.alloc (.cells #[.slice a len c, .int .i64 e] 95)) (.cells #[.slice none 0 0, .int .i64 0] 95)
  simpa using this)
 have hlt : w.heap.size + 1 < w1.heap.size := (Array.getElem?_eq_some_iff.1 hB).1
 have k0 : w1.cell? ⟨w.heap.size + 1, 0, none⟩ = some (.slice none 0 0) := by simpa using cell_of_row w1 (w.heap.size + 1) 0 _ _ _ hB
 have k1 : w1.cell? ⟨w.heap.size + 1, 1, none⟩ = some (.int .i64 0) := by simpa using cell_of_row w1 (w.heap.size + 1) 1 _ _ _ hB
 have f0 := frozen_of_row w1 (w.heap.size + 1) 0 _ _ hB
 have f1 := frozen_of_row w1 (w.heap.size + 1) 1 _ _ hB
 obtain ⟨a1, c1, hv1, hc1, hna1, hcell1⟩ := id hr1
 have Hr1 := iH hr1; have Hk1 := iH (((((Kept.refl w []).alloc _).alloc _)).trans hk1 (by simp)); have Hb1 := iH hb1; have HB := iH hB
 clear hr1 hk1 hb1 hB hcell1 hna1 hc1
 subst hv1
 by_cases hb : badN lo hi e1 n = true
 ·have HX : RowKit.Hid (rfN lo hi e l = (0, [], 2)) := iH (by rw [HT.out, if_pos hb])
  unfold badN at hb
  simp only [Bool.and_eq_true, Bool.or_eq_true, decide_eq_true_eq] at hb
  obtain ⟨rfl, hb⟩ := hb
  obtain ⟨q0, q1⟩ := xqw HB.out (.slice none 0 0) (.int .i64 2) (.cells #[.slice a1 l1.length c1, .int .i64 0] 95)
  by_cases h1 : n < lo
  ·have x1 : (n : Int) < (lo : Int) := by omega
   clear hb
   go_wp2
   refine bodyPost_ret (v := .tuple #[.int .u64 0, .agg #[.slice none 0 0, .int .i64 2]]) (by simp [results, Try.results91, go_sem, q0, q1]) rfl ?_
   rw [HX.out]
   exact ⟨_, rfl, Rd.nil _, Hk1.out.trans ((((Kept.refl w1 [w.heap.size + 1]).setCell (.inl (by simp)) _).setCell (.inl (by simp)) _).alloc _) (by simp), by simp [Value.ownBlock]⟩
  have x1 : ¬ (n : Int) < (lo : Int) := by omega
  have x2 : (hi : Int) < (n : Int) := by omega
  clear hb
  go_wp2
  refine bodyPost_ret (v := .tuple #[.int .u64 0, .agg #[.slice none 0 0, .int .i64 2]]) (by simp [results, Try.results91, go_sem, q0, q1]) rfl ?_
  rw [HX.out]
  exact ⟨_, rfl, Rd.nil _, Hk1.out.trans ((((Kept.refl w1 [w.heap.size + 1]).setCell (.inl (by simp)) _).setCell (.inl (by simp)) _).alloc _) (by simp), by simp [Value.ownBlock]⟩
 ·have HX : RowKit.Hid (rfN lo hi e l = (n, l1, e1)) := iH (by rw [HT.out, if_neg hb])
  obtain ⟨q0, q1⟩ := xqw HB.out (.slice a1 l1.length c1) (.int .i64 e1) (.cells #[.slice a1 l1.length c1, .int .i64 e1] 95)
  have hk3 : ∀ ob : Obj, Kept w1 (((w1.setCell ⟨w.heap.size + 1, 0, none⟩ (.slice a1 l1.length c1)).setCell ⟨w.heap.size + 1, 1, none⟩ (.int .i64 e1)).alloc ob).drew [w.heap.size + 1] := fun ob =>
   ((((Kept.refl w1 _).setCell (.inl (by simp)) _).setCell (.inl (by simp)) _).alloc ob).drew
  by_cases he : e1 = 0
  ·subst he
   have x1 : ¬ (n : Int) < (lo : Int) := by intro hx; apply hb; simp [badN]; omega
   have x2 : ¬ (hi : Int) < (n : Int) := by intro hx; apply hb; simp [badN]; omega
   clear hb
   go_wp2
   go_region
   go_wp2
   refine bodyPost_ret (v := .tuple #[.int .u64 n, .agg #[.slice a1 l1.length c1, .int .i64 0]]) (by simp [results, Try.results91, go_sem, q0, q1]) rfl ?_
   rw [HX.out]
   exact ⟨_, rfl, Hr1.out.kept2 (hk3 _) (H.out.not_new hln Hb1.out (by omega)), Hk1.out.trans (hk3 _) (by simp), Hb1.out⟩
  have x0 : (e1 == 0) = false := by simpa using he
  clear hb he
  go_wp2
  go_region
  go_wp2
  refine bodyPost_ret (v := .tuple #[.int .u64 n, .agg #[.slice a1 l1.length c1, .int .i64 e1]]) (by simp [results, Try.results91, go_sem, q0, q1]) rfl ?_
  rw [HX.out]
  exact ⟨_, rfl, Hr1.out.kept2 (hk3 _) (H.out.not_new hln Hb1.out (by omega)), Hk1.out.trans (hk3 _) (by simp), Hb1.out⟩
end Go.Proofs.Ytjdbmlifekghfaa
