/-
  Eok in one text.
-/
import Derived.Test.YtjdbmlifekghfaaEt0
import Derived.Test.YtjdbmlifekghfaaEt14
set_option linter.unusedVariables false
set_option maxHeartbeats 16000000
set_option maxRecDepth 100000
namespace Go.Proofs.Ytjdbmlifekghfaa
open Go.RowKit
structure Pz (w0 : World) (q r c p : Nat) (cs : Array Value) (V : World) (e : Int) (l : List UInt8) : Prop where
 zs : Zs V q r c e l
 hp : V.heap[p]? = some (.cells cs 41 (0, 0))
 k : Kept w0 V [q, r, p]
 ne : p ≠ q /\ p ≠ r /\ p ≠ c
 lt : q < w0.heap.size /\ r < w0.heap.size /\ c < w0.heap.size /\ p < w0.heap.size
theorem Pz.call {w0 : World} {q r c p : Nat} {cs : Array Value} {V V' : World} {e e' : Int} {l l' : List UInt8} (h : Pz w0 q r c p cs V e l) (g : Zs V' q r c e' l') (k : Kept V V' [q, r]) : Pz w0 q r c p cs V' e' l' :=
 ⟨g, k.heap (by have := h.ne; simp; omega) h.hp, h.k.trans k (fun x hx => .inl (by simp at hx ⊢; omega)), h.ne, h.lt⟩
theorem Pz.store {w0 : World} {q r c p : Nat} {cs : Array Value} {V : World} {e : Int} {l : List UInt8} (h : Pz w0 q r c p cs V e l) (j : Nat) (u : Value) : Pz w0 q r c p (cs.setIfInBounds j u) (V.setCell ⟨p, j, none⟩ u) e l := by
 have hk : Kept V (V.setCell ⟨p, j, none⟩ u) [p] := (Kept.refl V [p]).setCell (.inl (by simp)) _
 have h1 := h.ne
 exact ⟨h.zs.kept hk (by simp; omega) (by simp; omega) (by simp; omega), xqa h.hp j u, h.k.trans hk (fun x hx => .inl (by simp at hx ⊢; omega)), h.ne, h.lt⟩
theorem Pz.cell {w0 : World} {q r c p : Nat} {cs : Array Value} {V : World} {e : Int} {l : List UInt8} (h : Pz w0 q r c p cs V e l) (j : Nat) : V.cell? ⟨p, j, none⟩ = cs[j]? /\ V.frozen? ⟨p, j, none⟩ = false :=
 ⟨cell_of_row V p j _ _ _ h.hp, frozen_of_row V p j _ _ h.hp⟩
theorem Pz.csz {w0 : World} {q r c p : Nat} {cs : Array Value} {V : World} {e : Int} {l : List UInt8} (h : Pz w0 q r c p cs V e l) : c < V.heap.size := Nat.lt_of_lt_of_le h.lt.2.2.1 h.k.size
theorem OwnK.upon {α : Type} {E : Enc α} {w0 V V' : World} {q r p : Nat} {T : TypeId} {lv : Value} {L : List α} (h : OwnK E V w0.heap.size T lv L) (k : Kept V V' [q, r, p]) (hl : q < w0.heap.size /\ r < w0.heap.size /\ p < w0.heap.size) : OwnK E V' w0.heap.size T lv L :=
 h.kept k (fun b hb => by have := (h.lt b hb).1; simp; omega)
def RPost (q r c p : Nat) (k : Int) (l : List UInt8) (w w' : World) : Prop :=
 ∃ (E : En) (vo ve vi : Value), w'.heap[p]? = some (.cells (E.cs vo ve vi) 41 (0, 0)) /\ RdN w' E vo ve vi /\ Zs w' q r c (xqO k l).2.2 (xqO k l).2.1 /\ Kept w w' [q, r, p] /\ ((xqO k l).2.2 = 0 -> E = (xqO k l).1) /\
  (∀ b, vo.ownBlock = some b -> w.heap.size <= b) /\ (∀ b, ve.ownBlock = some b -> w.heap.size <= b) /\ (∀ b, vi.ownBlock = some b -> w.heap.size <= b) /\ (∃ a n c, vo = .slice a n c) /\ (∃ a n c, ve = .slice a n c) /\ (∃ a n c, vi = .slice a n c)
theorem rp1 (q r c p : Nat) (l : List UInt8) (w : World) (D0 : RowKit.Hid (Pz w q r c p #[.int .u8 1, .int .i64 0, .int .i64 0, .int .i64 0, .slice none 0 0, .slice none 0 0, .int .i64 0, .int .i64 0, .slice none 0 0, .int .i64 0, .string ⟨#[]⟩, .int .i64 0, .int .i64 0] w 0 l)) :
  Calls Try.prog 30 #[.pointer (some ⟨q, 0, none⟩), .pointer (some ⟨p, 0, none⟩)] w fun en w' => en = .returned (.tuple #[]) /\ RPost q r c p 1 l w w' := by
 obtain ⟨ck, _⟩ := D0.out.cell 0
 simp at ck
 go_enter Try.func30, Try.ntmps30
 go_wp2_with fail
 refine (xqH q r c _ _ _ D0.out.zs).mono ?_
 rintro en w2 ⟨a1, rfl, g, k9, ha⟩
 have H1 := iH ha; have C1 := iH (D0.out.call g k9)
 clear g k9 ha
 go_wp2_with fail
 refine (xqH q r c _ _ _ C1.out.zs).mono ?_
 rintro en w3 ⟨a2, rfl, g, k9, ha⟩
 have H2 := iH ha; have C2 := iH (C1.out.call g k9)
 clear g k9 ha
 go_wp2_with fail
 refine (xqH q r c _ _ _ C2.out.zs).mono ?_
 rintro en w4 ⟨a3, rfl, g, k9, ha⟩
 have H3 := iH ha; have C3 := iH (C2.out.call g k9)
 clear g k9 ha
 obtain ⟨x1, y1⟩ := C3.out.cell 1; obtain ⟨x2, y2⟩ := C3.out.cell 2; obtain ⟨x3, y3⟩ := C3.out.cell 3
 simp at x1 x2 x3
 have D3 := iH (((C3.out.store 1 (.int .i64 a1)).store 2 (.int .i64 a2)).store 3 (.int .i64 a3))
 simp only [List.setIfInBounds_toArray, List.set_cons_zero, List.set_cons_succ] at D3
 go_wp2_with fail
 refine (rgops_any q r c _ _ _ D3.out.zs D3.out.csz).mono ?_
 rintro en w5 ⟨lv4, L4, rfl, g, ow, k9, ha⟩
 obtain ⟨ua4, uc4, e9⟩ := ow.shape
 subst e9
 have H4 := iH ha
 have dd := D3.out.call g k9
 obtain ⟨x4, y4⟩ := dd.cell 4
 simp at x4
 have D4 := iH (dd.store 4 (.slice ua4 L4.length uc4))
 simp only [List.setIfInBounds_toArray, List.set_cons_zero, List.set_cons_succ] at D4
 have O4 := iH ((ow.mono (D3.out.k.size)).upon (V' := (w5.setCell ⟨p, 4, none⟩ (.slice ua4 L4.length uc4))) (q := q) (r := r) (p := p) ((Kept.refl w5 [q, r, p]).setCell (.inl (by simp)) _) ⟨D0.out.lt.1, D0.out.lt.2.1, D0.out.lt.2.2.2⟩)
 clear ow
 clear g k9 ha dd
 go_wp2_with fail
 refine (rgevs_any q r c _ _ _ D4.out.zs D4.out.csz).mono ?_
 rintro en w6 ⟨lv5, L5, rfl, g, ow, k9, ha⟩
 obtain ⟨ua5, uc5, e9⟩ := ow.shape
 subst e9
 have O4 := iH (O4.out.upon (k9.mono (cs := [q, r, p]) (by simp)) ⟨D0.out.lt.1, D0.out.lt.2.1, D0.out.lt.2.2.2⟩)
 have H5 := iH ha
 have dd := D4.out.call g k9
 obtain ⟨x5, y5⟩ := dd.cell 5
 simp at x5
 have D5 := iH (dd.store 5 (.slice ua5 L5.length uc5))
 simp only [List.setIfInBounds_toArray, List.set_cons_zero, List.set_cons_succ] at D5
 have O5 := iH ((ow.mono (D4.out.k.size)).upon (V' := (w6.setCell ⟨p, 5, none⟩ (.slice ua5 L5.length uc5))) (q := q) (r := r) (p := p) ((Kept.refl w6 [q, r, p]).setCell (.inl (by simp)) _) ⟨D0.out.lt.1, D0.out.lt.2.1, D0.out.lt.2.2.2⟩)
 clear ow
 have O4 := iH (O4.out.upon (V' := (w6.setCell ⟨p, 5, none⟩ (.slice ua5 L5.length uc5))) ((Kept.refl w6 [q, r, p]).setCell (.inl (by simp)) _) ⟨D0.out.lt.1, D0.out.lt.2.1, D0.out.lt.2.2.2⟩)
 clear g k9 ha dd
 go_wp2
 go_end0
 refine ⟨rfl, ⟨1, a1, a2, a3, L4, L5, 0, 0, [], 0, ⟨#[]⟩, 0, 0⟩, .slice ua4 L4.length uc4, .slice ua5 L5.length uc5, .slice none 0 0, D5.out.hp, ⟨O4.out.rd, O5.out.rd, RdI.nil _⟩, D5.out.zs, D5.out.k, fun h0 => ?_, fun b hb => (O4.out.lt b hb).1, fun b hb => (O5.out.lt b hb).1, fun b hb => by simp [Value.ownBlock] at hb, ⟨_, _, _, rfl⟩, ⟨_, _, _, rfl⟩, ⟨_, _, _, rfl⟩⟩
 have h5 : (fx5 l).2.2 = 0 := h0
 have h4 : (fx4 l).2.2 = 0 := xq4 (dEvs_zero h5)
 have h3 : (fx3 l).2.2 = 0 := xq4 (dOps_zero h4)
 have h2 : (fx2 l).2.2 = 0 := xq4 h3
 have h1 : (fx1 l).2.2 = 0 := xq4 h2
 have e1 := H1.out h1; have e2 := H2.out h2; have e3 := H3.out h3; have e4 := H4.out h4; have e5 := H5.out h5
 subst e1 e2 e3 e4 e5
 rfl
theorem rp8 (q r c p : Nat) (l : List UInt8) (w : World) (D0 : RowKit.Hid (Pz w q r c p #[.int .u8 8, .int .i64 0, .int .i64 0, .int .i64 0, .slice none 0 0, .slice none 0 0, .int .i64 0, .int .i64 0, .slice none 0 0, .int .i64 0, .string ⟨#[]⟩, .int .i64 0, .int .i64 0] w 0 l)) :
  Calls Try.prog 30 #[.pointer (some ⟨q, 0, none⟩), .pointer (some ⟨p, 0, none⟩)] w fun en w' => en = .returned (.tuple #[]) /\ RPost q r c p 8 l w w' := by
 obtain ⟨ck, _⟩ := D0.out.cell 0
 simp at ck
 go_enter Try.func30, Try.ntmps30
 go_wp2_with fail
 refine (xqH q r c _ _ _ D0.out.zs).mono ?_
 rintro en w2 ⟨a1, rfl, g, k9, ha⟩
 have H1 := iH ha; have C1 := iH (D0.out.call g k9)
 clear g k9 ha
 go_wp2_with fail
 refine (xqH q r c _ _ _ C1.out.zs).mono ?_
 rintro en w3 ⟨a2, rfl, g, k9, ha⟩
 have H2 := iH ha; have C2 := iH (C1.out.call g k9)
 clear g k9 ha
 go_wp2_with fail
 refine (xqH q r c _ _ _ C2.out.zs).mono ?_
 rintro en w4 ⟨a3, rfl, g, k9, ha⟩
 have H3 := iH ha; have C3 := iH (C2.out.call g k9)
 clear g k9 ha
 obtain ⟨x1, y1⟩ := C3.out.cell 1; obtain ⟨x2, y2⟩ := C3.out.cell 2; obtain ⟨x3, y3⟩ := C3.out.cell 3
 simp at x1 x2 x3
 have D3 := iH (((C3.out.store 1 (.int .i64 a1)).store 2 (.int .i64 a2)).store 3 (.int .i64 a3))
 simp only [List.setIfInBounds_toArray, List.set_cons_zero, List.set_cons_succ] at D3
 go_wp2_with fail
 refine (rgevs_any q r c _ _ _ D3.out.zs D3.out.csz).mono ?_
 rintro en w5 ⟨lv4, L4, rfl, g, ow, k9, ha⟩
 obtain ⟨ua4, uc4, e9⟩ := ow.shape
 subst e9
 have H4 := iH ha
 have dd := D3.out.call g k9
 obtain ⟨x5, y5⟩ := dd.cell 5
 simp at x5
 have D4 := iH (dd.store 5 (.slice ua4 L4.length uc4))
 simp only [List.setIfInBounds_toArray, List.set_cons_zero, List.set_cons_succ] at D4
 have O4 := iH ((ow.mono (D3.out.k.size)).upon (V' := (w5.setCell ⟨p, 5, none⟩ (.slice ua4 L4.length uc4))) (q := q) (r := r) (p := p) ((Kept.refl w5 [q, r, p]).setCell (.inl (by simp)) _) ⟨D0.out.lt.1, D0.out.lt.2.1, D0.out.lt.2.2.2⟩)
 clear ow
 clear g k9 ha dd
 have pr := D4.out.zs.cell
 go_wp2_with fail
 refine (zint_any q r c _ _ _ D4.out.zs).mono ?_
 rintro en w6 ⟨a5, rfl, g, k9, ha⟩
 have O4 := iH (O4.out.upon (k9.mono (cs := [q, r, p]) (by simp)) ⟨D0.out.lt.1, D0.out.lt.2.1, D0.out.lt.2.2.2⟩)
 have H5 := iH ha
 have dd := D4.out.call g k9
 obtain ⟨x12, y12⟩ := dd.cell 12
 simp at x12
 have D5 := iH (dd.store 12 (.int .i64 a5))
 simp only [List.setIfInBounds_toArray, List.set_cons_zero, List.set_cons_succ] at D5
 have O4 := iH (O4.out.upon (V' := (w6.setCell ⟨p, 12, none⟩ (.int .i64 a5))) ((Kept.refl w6 [q, r, p]).setCell (.inl (by simp)) _) ⟨D0.out.lt.1, D0.out.lt.2.1, D0.out.lt.2.2.2⟩)
 clear g k9 ha dd pr
 go_wp2
 go_end0
 refine ⟨rfl, ⟨8, a1, a2, a3, [], L4, 0, 0, [], 0, ⟨#[]⟩, 0, a5⟩, .slice none 0 0, .slice ua4 L4.length uc4, .slice none 0 0, D5.out.hp, ⟨RdK.nil _, O4.out.rd, RdI.nil _⟩, D5.out.zs, D5.out.k, fun h0 => ?_, fun b hb => by simp [Value.ownBlock] at hb, fun b hb => (O4.out.lt b hb).1, fun b hb => by simp [Value.ownBlock] at hb, ⟨_, _, _, rfl⟩, ⟨_, _, _, rfl⟩, ⟨_, _, _, rfl⟩⟩
 have h5 : (fy5 l).2.2 = 0 := h0
 have h4 : (fy4 l).2.2 = 0 := stay_I h5
 have h3 : (fx3 l).2.2 = 0 := xq4 (dEvs_zero h4)
 have h2 : (fx2 l).2.2 = 0 := xq4 h3
 have h1 : (fx1 l).2.2 = 0 := xq4 h2
 have e1 := H1.out h1; have e2 := H2.out h2; have e3 := H3.out h3; have e4 := H4.out h4; have e5 := H5.out h5
 subst e1 e2 e3 e4 e5
 rfl
theorem rp2 (q r c p : Nat) (l : List UInt8) (w : World) (D0 : RowKit.Hid (Pz w q r c p #[.int .u8 2, .int .i64 0, .int .i64 0, .int .i64 0, .slice none 0 0, .slice none 0 0, .int .i64 0, .int .i64 0, .slice none 0 0, .int .i64 0, .string ⟨#[]⟩, .int .i64 0, .int .i64 0] w 0 l)) :
  Calls Try.prog 30 #[.pointer (some ⟨q, 0, none⟩), .pointer (some ⟨p, 0, none⟩)] w fun en w' => en = .returned (.tuple #[]) /\ RPost q r c p 2 l w w' := by
 obtain ⟨ck, _⟩ := D0.out.cell 0
 simp at ck
 go_enter Try.func30, Try.ntmps30
 go_wp2_with fail
 refine (rgtick_any q r c _ _ D0.out.zs D0.out.csz).mono ?_
 rintro en w2 ⟨lv1, tn, tm, ta, L1, rfl, g, ow, k9, ha⟩
 obtain ⟨ua1, uc1, e9, _⟩ := xqM ow
 subst e9
 have H1 := iH ha
 have dd := D0.out.call g k9
 obtain ⟨x6, y6⟩ := dd.cell 6
 obtain ⟨x7, y7⟩ := dd.cell 7
 obtain ⟨x8, y8⟩ := dd.cell 8
 obtain ⟨x9, y9⟩ := dd.cell 9
 simp at x6 x7 x8 x9
 have D1 := iH ((((dd.store 6 (.int .i64 tn)).store 7 (.int .i64 tm)).store 8 (.slice ua1 L1.length uc1)).store 9 (.int .i64 ta))
 simp only [List.setIfInBounds_toArray, List.set_cons_zero, List.set_cons_succ] at D1
 have O1 := iH (xqj (ownsRow_mono ow D0.out.k.size) (w' := ((((w2.setCell ⟨p, 6, none⟩ (.int .i64 tn)).setCell ⟨p, 7, none⟩ (.int .i64 tm)).setCell ⟨p, 8, none⟩ (.slice ua1 L1.length uc1)).setCell ⟨p, 9, none⟩ (.int .i64 ta))) (bs := [q, r, p]) (((((Kept.refl w2 [q, r, p]).setCell (.inl (by simp)) _).setCell (.inl (by simp)) _).setCell (.inl (by simp)) _).setCell (.inl (by simp)) _) (fun b hb => by have := (World.ownsRow.lt (ownsRow_mono ow D0.out.k.size) b hb).1; have := D0.out.lt; simp; omega))
 clear ow
 clear g k9 ha dd
 go_wp2
 go_end0
 refine ⟨rfl, ⟨2, 0, 0, 0, [], [], tn, tm, L1, ta, ⟨#[]⟩, 0, 0⟩, .slice none 0 0, .slice none 0 0, .slice ua1 L1.length uc1, D1.out.hp, ⟨RdK.nil _, RdK.nil _, xqM O1.out⟩, D1.out.zs, D1.out.k, fun h0 => ?_, fun b hb => by simp [Value.ownBlock] at hb, fun b hb => by simp [Value.ownBlock] at hb, fun b hb => (World.ownsRow.lt O1.out b hb).1, ⟨_, _, _, rfl⟩, ⟨_, _, _, rfl⟩, ⟨_, _, _, rfl⟩⟩
 obtain ⟨e1, e2, e3, e4⟩ := H1.out h0
 subst e1 e2 e3 e4
 rfl
theorem rp3 (q r c p : Nat) (k : Int) (hk : k = 3 ∨ k = 4 ∨ k = 5 ∨ k = 6) (l : List UInt8) (w : World) (D0 : RowKit.Hid (Pz w q r c p #[.int .u8 k, .int .i64 0, .int .i64 0, .int .i64 0, .slice none 0 0, .slice none 0 0, .int .i64 0, .int .i64 0, .slice none 0 0, .int .i64 0, .string ⟨#[]⟩, .int .i64 0, .int .i64 0] w 0 l)) :
  Calls Try.prog 30 #[.pointer (some ⟨q, 0, none⟩), .pointer (some ⟨p, 0, none⟩)] w fun en w' => en = .returned (.tuple #[]) /\ RPost q r c p k l w w' := by
 rcases hk with rfl | rfl | rfl | rfl
 all_goals
  obtain ⟨ck, _⟩ := D0.out.cell 0
  simp at ck
  go_enter Try.func30, Try.ntmps30
  have pr := D0.out.zs.cell
  go_wp2_with fail
  refine (ztext_any q r c 40 _ _ _ D0.out.zs (by omega)).mono ?_
  rintro en w2 ⟨a1, rfl, g, k9, ha, _⟩
  have H1 := iH ha
  have dd := D0.out.call g k9
  obtain ⟨x10, y10⟩ := dd.cell 10
  simp at x10
  have D1 := iH (dd.store 10 (.string a1))
  simp only [List.setIfInBounds_toArray, List.set_cons_zero, List.set_cons_succ] at D1
  clear g k9 ha dd pr
  go_wp2_with fail
  refine (xqH q r c _ _ _ D1.out.zs).mono ?_
  rintro en w3 ⟨a2, rfl, g, k9, ha⟩
  have H2 := iH ha
  have dd := D1.out.call g k9
  obtain ⟨x11, y11⟩ := dd.cell 11
  simp at x11
  have D2 := iH (dd.store 11 (.int .i64 a2))
  simp only [List.setIfInBounds_toArray, List.set_cons_zero, List.set_cons_succ] at D2
  clear g k9 ha dd
  go_wp2
  go_end0
  refine ⟨rfl, ⟨_, 0, 0, 0, [], [], 0, 0, [], 0, a1, a2, 0⟩, .slice none 0 0, .slice none 0 0, .slice none 0 0, D2.out.hp, ⟨RdK.nil _, RdK.nil _, RdI.nil _⟩, D2.out.zs, D2.out.k, fun h0 => ?_, fun b hb => by simp [Value.ownBlock] at hb, fun b hb => by simp [Value.ownBlock] at hb, fun b hb => by simp [Value.ownBlock] at hb, ⟨_, _, _, rfl⟩, ⟨_, _, _, rfl⟩, ⟨_, _, _, rfl⟩⟩
  have h2 : (fn2 l).2.2 = 0 := h0
  have h1 : (fn1 l).2.2 = 0 := xq4 h2
  have e1 := H1.out h1; have e2 := H2.out h2
  subst e1 e2
  rfl
theorem rp7 (q r c p : Nat) (l : List UInt8) (w : World) (D0 : RowKit.Hid (Pz w q r c p #[.int .u8 7, .int .i64 0, .int .i64 0, .int .i64 0, .slice none 0 0, .slice none 0 0, .int .i64 0, .int .i64 0, .slice none 0 0, .int .i64 0, .string ⟨#[]⟩, .int .i64 0, .int .i64 0] w 0 l)) :
  Calls Try.prog 30 #[.pointer (some ⟨q, 0, none⟩), .pointer (some ⟨p, 0, none⟩)] w fun en w' => en = .returned (.tuple #[]) /\ RPost q r c p 7 l w w' := by
 obtain ⟨ck, _⟩ := D0.out.cell 0
 simp at ck
 go_enter Try.func30, Try.ntmps30
 have pr := D0.out.zs.cell
 go_wp2_with fail
 refine (ztext_any q r c 40 _ _ _ D0.out.zs (by omega)).mono ?_
 rintro en w2 ⟨a1, rfl, g, k9, ha, _⟩
 have H1 := iH ha
 have dd := D0.out.call g k9
 obtain ⟨x10, y10⟩ := dd.cell 10
 simp at x10
 have D1 := iH (dd.store 10 (.string a1))
 simp only [List.setIfInBounds_toArray, List.set_cons_zero, List.set_cons_succ] at D1
 clear g k9 ha dd pr
 go_wp2_with fail
 refine (xqH q r c _ _ _ D1.out.zs).mono ?_
 rintro en w3 ⟨a2, rfl, g, k9, ha⟩
 have H2 := iH ha
 have dd := D1.out.call g k9
 obtain ⟨x11, y11⟩ := dd.cell 11
 simp at x11
 have D2 := iH (dd.store 11 (.int .i64 a2))
 simp only [List.setIfInBounds_toArray, List.set_cons_zero, List.set_cons_succ] at D2
 clear g k9 ha dd
 have pr := D2.out.zs.cell
 go_wp2_with fail
 refine (zint_any q r c _ _ _ D2.out.zs).mono ?_
 rintro en w4 ⟨a3, rfl, g, k9, ha⟩
 have H3 := iH ha
 have dd := D2.out.call g k9
 obtain ⟨x12, y12⟩ := dd.cell 12
 simp at x12
 have D3 := iH (dd.store 12 (.int .i64 a3))
 simp only [List.setIfInBounds_toArray, List.set_cons_zero, List.set_cons_succ] at D3
 clear g k9 ha dd pr
 go_wp2
 go_end0
 refine ⟨rfl, ⟨7, 0, 0, 0, [], [], 0, 0, [], 0, a1, a2, a3⟩, .slice none 0 0, .slice none 0 0, .slice none 0 0, D3.out.hp, ⟨RdK.nil _, RdK.nil _, RdI.nil _⟩, D3.out.zs, D3.out.k, fun h0 => ?_, fun b hb => by simp [Value.ownBlock] at hb, fun b hb => by simp [Value.ownBlock] at hb, fun b hb => by simp [Value.ownBlock] at hb, ⟨_, _, _, rfl⟩, ⟨_, _, _, rfl⟩, ⟨_, _, _, rfl⟩⟩
 have h3 : (fn3 l).2.2 = 0 := h0
 have h2 : (fn2 l).2.2 = 0 := stay_I h3
 have h1 : (fn1 l).2.2 = 0 := xq4 h2
 have e1 := H1.out h1; have e2 := H2.out h2; have e3 := H3.out h3
 subst e1 e2 e3
 rfl
theorem rp9 (q r c p : Nat) (k : Int) (hk : k = 9 ∨ k = 10) (l : List UInt8) (w : World) (D0 : RowKit.Hid (Pz w q r c p #[.int .u8 k, .int .i64 0, .int .i64 0, .int .i64 0, .slice none 0 0, .slice none 0 0, .int .i64 0, .int .i64 0, .slice none 0 0, .int .i64 0, .string ⟨#[]⟩, .int .i64 0, .int .i64 0] w 0 l)) :
  Calls Try.prog 30 #[.pointer (some ⟨q, 0, none⟩), .pointer (some ⟨p, 0, none⟩)] w fun en w' => en = .returned (.tuple #[]) /\ RPost q r c p k l w w' := by
 rcases hk with rfl | rfl
 all_goals
  obtain ⟨ck, _⟩ := D0.out.cell 0
  simp at ck
  go_enter Try.func30, Try.ntmps30
  go_wp2_with fail
  refine (xqH q r c _ _ _ D0.out.zs).mono ?_
  rintro en w2 ⟨a1, rfl, g, k9, ha⟩
  have H1 := iH ha
  have dd := D0.out.call g k9
  obtain ⟨x11, y11⟩ := dd.cell 11
  simp at x11
  have D1 := iH (dd.store 11 (.int .i64 a1))
  simp only [List.setIfInBounds_toArray, List.set_cons_zero, List.set_cons_succ] at D1
  clear g k9 ha dd
  go_wp2
  go_end0
  refine ⟨rfl, ⟨_, 0, 0, 0, [], [], 0, 0, [], 0, ⟨#[]⟩, a1, 0⟩, .slice none 0 0, .slice none 0 0, .slice none 0 0, D1.out.hp, ⟨RdK.nil _, RdK.nil _, RdI.nil _⟩, D1.out.zs, D1.out.k, fun h0 => ?_, fun b hb => by simp [Value.ownBlock] at hb, fun b hb => by simp [Value.ownBlock] at hb, fun b hb => by simp [Value.ownBlock] at hb, ⟨_, _, _, rfl⟩, ⟨_, _, _, rfl⟩, ⟨_, _, _, rfl⟩⟩
  have h1 : (fm1 l).2.2 = 0 := h0
  have e1 := H1.out h1
  subst e1
  rfl
theorem rp11 (q r c p : Nat) (l : List UInt8) (w : World) (D0 : RowKit.Hid (Pz w q r c p #[.int .u8 11, .int .i64 0, .int .i64 0, .int .i64 0, .slice none 0 0, .slice none 0 0, .int .i64 0, .int .i64 0, .slice none 0 0, .int .i64 0, .string ⟨#[]⟩, .int .i64 0, .int .i64 0] w 0 l)) :
  Calls Try.prog 30 #[.pointer (some ⟨q, 0, none⟩), .pointer (some ⟨p, 0, none⟩)] w fun en w' => en = .returned (.tuple #[]) /\ RPost q r c p 11 l w w' := by
 obtain ⟨ck, _⟩ := D0.out.cell 0
 simp at ck
 go_enter Try.func30, Try.ntmps30
 go_wp2_with fail
 refine (xqH q r c _ _ _ D0.out.zs).mono ?_
 rintro en w2 ⟨a1, rfl, g, k9, ha⟩
 have H1 := iH ha
 have dd := D0.out.call g k9
 obtain ⟨x11, y11⟩ := dd.cell 11
 simp at x11
 have D1 := iH (dd.store 11 (.int .i64 a1))
 simp only [List.setIfInBounds_toArray, List.set_cons_zero, List.set_cons_succ] at D1
 clear g k9 ha dd
 go_wp2_with fail
 refine (rgops_any q r c _ _ _ D1.out.zs D1.out.csz).mono ?_
 rintro en w3 ⟨lv2, L2, rfl, g, ow, k9, ha⟩
 obtain ⟨ua2, uc2, e9⟩ := ow.shape
 subst e9
 have H2 := iH ha
 have dd := D1.out.call g k9
 obtain ⟨x4, y4⟩ := dd.cell 4
 simp at x4
 have D2 := iH (dd.store 4 (.slice ua2 L2.length uc2))
 simp only [List.setIfInBounds_toArray, List.set_cons_zero, List.set_cons_succ] at D2
 have O2 := iH ((ow.mono (D1.out.k.size)).upon (V' := (w3.setCell ⟨p, 4, none⟩ (.slice ua2 L2.length uc2))) (q := q) (r := r) (p := p) ((Kept.refl w3 [q, r, p]).setCell (.inl (by simp)) _) ⟨D0.out.lt.1, D0.out.lt.2.1, D0.out.lt.2.2.2⟩)
 clear ow
 clear g k9 ha dd
 go_wp2
 go_end0
 refine ⟨rfl, ⟨11, 0, 0, 0, L2, [], 0, 0, [], 0, ⟨#[]⟩, a1, 0⟩, .slice ua2 L2.length uc2, .slice none 0 0, .slice none 0 0, D2.out.hp, ⟨O2.out.rd, RdK.nil _, RdI.nil _⟩, D2.out.zs, D2.out.k, fun h0 => ?_, fun b hb => (O2.out.lt b hb).1, fun b hb => by simp [Value.ownBlock] at hb, fun b hb => by simp [Value.ownBlock] at hb, ⟨_, _, _, rfl⟩, ⟨_, _, _, rfl⟩, ⟨_, _, _, rfl⟩⟩
 have h2 : (fm2 l).2.2 = 0 := h0
 have h1 : (fm1 l).2.2 = 0 := xq4 (dOps_zero h2)
 have e1 := H1.out h1; have e2 := H2.out h2
 subst e1 e2
 rfl
end Go.Proofs.Ytjdbmlifekghfaa
