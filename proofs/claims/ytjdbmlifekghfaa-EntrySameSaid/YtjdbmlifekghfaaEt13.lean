/-
  Eoi in one text.
-/
import Derived.Test.YtjdbmlifekghfaaEt0
import Derived.Test.YtjdbmlifekghfaaEt12
set_option linter.unusedVariables false
set_option maxHeartbeats 16000000
set_option maxRecDepth 100000
namespace Go.Proofs.Ytjdbmlifekghfaa
open Go.RowKit
structure Oz (w0 : World) (q r c z : Nat) (T : TypeId) (cs : Array Value) (V : World) (e : Int) (l : List UInt8) : Prop where
 zs : Zs V q r c e l
 hz : V.heap[z]? = some (.cells cs T (0, 0))
 k : Kept w0 V [q, r]
 ne : z ≠ q /\ z ≠ r /\ z ≠ c
 lo : w0.heap.size <= z
theorem Oz.call {w0 : World} {q r c z : Nat} {T : TypeId} {cs : Array Value} {V V' : World} {e e' : Int} {l l' : List UInt8} (h : Oz w0 q r c z T cs V e l) (g : Zs V' q r c e' l') (k : Kept V V' [q, r]) : Oz w0 q r c z T cs V' e' l' :=
 ⟨g, k.heap (by have := h.ne; simp; omega) h.hz, h.k.trans k (fun x hx => .inl hx), h.ne, h.lo⟩
theorem Oz.store {w0 : World} {q r c z : Nat} {T : TypeId} {cs : Array Value} {V : World} {e : Int} {l : List UInt8} (h : Oz w0 q r c z T cs V e l) (j : Nat) (u : Value) : Oz w0 q r c z T (cs.setIfInBounds j u) (V.setCell ⟨z, j, none⟩ u) e l := by
 have hk : Kept V (V.setCell ⟨z, j, none⟩ u) [z] := (Kept.refl V [z]).setCell (.inl (by simp)) _
 have h1 := h.ne; have h2 := h.lo
 exact ⟨h.zs.kept hk (by simp; omega) (by simp; omega) (by simp; omega), xqa h.hz j u, h.k.trans hk (fun x hx => by simp at hx; exact .inr (by omega)), h.ne, h.lo⟩
theorem Oz.cell {w0 : World} {q r c z : Nat} {T : TypeId} {cs : Array Value} {V : World} {e : Int} {l : List UInt8} (h : Oz w0 q r c z T cs V e l) (j : Nat) : V.cell? ⟨z, j, none⟩ = cs[j]? /\ V.frozen? ⟨z, j, none⟩ = false :=
 ⟨cell_of_row V z j _ _ _ h.hz, frozen_of_row V z j _ _ h.hz⟩
structure Lq {α : Type} (E : Enc α) (T1 T2 : TypeId) (w : World) (q r c B br bl : Nat) (lv : Value) (xs : List α) : Prop where
 bb : w.heap[br]? = some (.cells #[.pointer (some ⟨q, 0, none⟩)] 86 (0, 0))
 bo : w.heap[bl]? = some (.cells #[lv] T1 (0, 0))
 own : OwnK E w B T2 lv xs
 lo : q < br /\ r < br /\ c < br /\ br < B /\ q < bl /\ r < bl /\ c < bl /\ bl < B /\ br ≠ bl
 sz : B <= w.heap.size
theorem Lq.keep {α : Type} {E : Enc α} {T1 T2 : TypeId} {w w' : World} {q r c B br bl : Nat} {lv : Value} {xs : List α} (h : Lq E T1 T2 w q r c B br bl lv xs) (k : Kept w w' [q, r]) : Lq E T1 T2 w' q r c B br bl lv xs := by
 have := h.lo
 exact ⟨k.heap (by simp; omega) h.bb, k.heap (by simp; omega) h.bo, h.own.kept k (fun b hb => by have := (h.own.lt b hb).1; simp; omega), h.lo, Nat.le_trans h.sz k.size⟩
theorem Lq.cells {α : Type} {E : Enc α} {T1 T2 : TypeId} {w : World} {q r c B br bl : Nat} {lv : Value} {xs : List α} (h : Lq E T1 T2 w q r c B br bl lv xs) : w.cell? ⟨br, 0, none⟩ = some (.pointer (some ⟨q, 0, none⟩)) /\ w.cell? ⟨bl, 0, none⟩ = some lv /\ w.frozen? ⟨bl, 0, none⟩ = false :=
 ⟨cell_of_row w br 0 _ _ _ h.bb, cell_of_row w bl 0 _ _ _ h.bo, frozen_of_row w bl 0 _ _ h.bo⟩
theorem Lq.size {α : Type} {E : Enc α} {T1 T2 : TypeId} {w : World} {q r c B br bl : Nat} {lv : Value} {xs : List α} (h : Lq E T1 T2 w q r c B br bl lv xs) : B <= w.heap.size := h.sz
theorem xq4 {lo hi : Nat} {e : Int} {l : List UInt8} (h : (rfN lo hi e l).2.2 = 0) : e = 0 := by
 by_cases he : e = 0
 ·exact he
 rw [rfN_bad he] at h; exact absurd h he
theorem stay_I {e : Int} {l : List UInt8} (h : (rfI e l).2.2 = 0) : e = 0 := by
 by_cases he : e = 0
 ·exact he
 rw [rfI, yqc he] at h; exact absurd h he
theorem stay_T {m e : Int} {l : List UInt8} (h : (xqg m e l).2.2 = 0) : e = 0 := by
 by_cases he : e = 0
 ·exact he
 rw [xq5 he] at h; exact absurd h he
theorem Lq.lay {α : Type} {E : Enc α} {T1 T2 : TypeId} {w w' : World} {q r c B br bl : Nat} {lv lv' : Value} {xs : List α} {e : Int} {l : List UInt8} (h : Lq E T1 T2 w q r c B br bl lv xs) (hne : T1 ≠ T2) (z : Zs w q r c e l) (x : α) (hg : w.grownBy w' lv.ownBlock) (ho : OwnK E w' B T2 lv' (xs ++ [x])) :
  Lq E T1 T2 (w'.setCell ⟨bl, 0, none⟩ lv') q r c B br bl lv' (xs ++ [x]) /\ Zs (w'.setCell ⟨bl, 0, none⟩ lv') q r c e l /\ Kept w (w'.setCell ⟨bl, 0, none⟩ lv') ([bl] ++ lv.ownBlock.toList) := by
 have h1 := h.lo
 have hlv : ∀ b, lv.ownBlock = some b -> B <= b := fun b hb => (h.own.lt b hb).1
 have k1 : Kept w w' lv.ownBlock.toList := (Kept.refl w _).grown hg (fun k hk => .inl (by simp [hk]))
 have hin : ∀ b, b < B -> b ∉ lv.ownBlock.toList := fun b hb hm => by have := hlv b (by simpa using hm); omega
 have k2 : Kept w' (w'.setCell ⟨bl, 0, none⟩ lv') [bl] := (Kept.refl w' [bl]).setCell (.inl (by simp)) _
 have bo' := k1.heap (hin bl (by omega)) h.bo
 have bb' := k1.heap (hin br (by omega)) h.bb
 have z1 := z.kept k1 (hin q (by omega)) (hin r (by omega)) (hin c (by omega))
 have hd : ∀ b, lv'.ownBlock = some b -> b ∉ [bl] := fun b hb => by have := (ho.lt b hb).1; simp; omega
 refine ⟨⟨k2.heap (by simp; omega) bb', by simpa using xqa bo' 0 lv', ho.kept k2 hd, h.lo, Nat.le_trans h.sz (Nat.le_trans k1.size k2.size)⟩, z1.kept k2 (by simp; omega) (by simp; omega) (by simp; omega), ?_⟩
 exact (k1.mono (cs := [bl] ++ lv.ownBlock.toList) (fun x hx => List.mem_append.2 (.inr hx))).trans k2 (fun x hx => .inl (List.mem_append.2 (.inl hx)))
theorem Try.infoOx : (Try.prog.info? 67).map (fun i => (i.zero, i.size, i.bytes)) = some (some (.agg #[.int .i64 0, .bool false, .int .i64 0, .string ⟨#[]⟩]), 4, 40) := by kernel_rfl
theorem Try.infoPx : (Try.prog.info? 71).map (fun i => (i.zero, i.size, i.bytes)) = some (some (.agg #[.int .i64 0, .int .i64 0, .int .i64 0, .string ⟨#[]⟩, .int .i64 0, .int .i64 0, .int .u8 0, .int .i64 0, .string ⟨#[]⟩]), 9, 88) := by kernel_rfl
theorem zev8_any (q r c : Nat) (e : Int) (l : List UInt8) (w : World) (h : Zs w q r c e l) (hc : c < w.heap.size) :
  Calls Try.prog 85 #[.pointer (some ⟨q, 0, none⟩)] w fun en w' => ∃ (e0 e1 : Int) (e2 : ByteArray) (e3 e4 e5 e6 : Int) (e7 : ByteArray), en = .returned (.agg #[.int .i64 e0, .int .i64 e1, .string e2, .int .i64 e3, .int .i64 e4, .int .u8 e5, .int .i64 e6, .string e7]) /\ Zs w' q r c (evE e l) (evL e l) /\ Kept w w' [q, r] /\ (evE e l = 0 -> (⟨e0, e1, e2, e3, e4, e5, e6, e7⟩ : Ev) = dEv (xqg 400 e l).1) :=
 (zev_any q r c e l w h hc).mono (by
  rintro en w' ⟨⟨e0, e1, e2, e3, e4, e5, e6, e7⟩, rfl, z, k, hE⟩
  exact ⟨e0, e1, e2, e3, e4, e5, e6, e7, rfl, z, k, hE⟩)
structure Lt (w : World) (q r c B br bl : Nat) (tn tm ta lv : Value) (xs : List Int) : Prop where
 bb : w.heap[br]? = some (.cells #[.pointer (some ⟨q, 0, none⟩)] 86 (0, 0))
 bo : w.heap[bl]? = some (.cells #[tn, tm, lv, ta] 33 (0, 0))
 own : w.ownsRow B 2 1 lv xs.length (ic xs)
 lo : q < br /\ r < br /\ c < br /\ br < B /\ q < bl /\ r < bl /\ c < bl /\ bl < B /\ br ≠ bl
 sz : B <= w.heap.size
theorem xqj {w w' : World} {B e size n : Nat} {v : Value} {xs : List Value} {bs : List Nat} (h : w.ownsRow B e size v n xs) (hk : Kept w w' bs) (hb : ∀ b, v.ownBlock = some b -> b ∉ bs) : w'.ownsRow B e size v n xs := by
 refine ⟨h.1, ?_⟩
 rcases h.2 with h2 | ⟨g, cap, cur, rfl, hbg, hg, rest⟩
 ·exact .inl h2
 exact .inr ⟨g, cap, cur, rfl, hbg, hk.heap (hb g rfl) hg, rest⟩
theorem Lt.keep {w w' : World} {q r c B br bl : Nat} {tn tm ta lv : Value} {xs : List Int} (h : Lt w q r c B br bl tn tm ta lv xs) (k : Kept w w' [q, r]) : Lt w' q r c B br bl tn tm ta lv xs := by
 have := h.lo
 exact ⟨k.heap (by simp; omega) h.bb, k.heap (by simp; omega) h.bo, xqj h.own k (fun b hb => by have := (World.ownsRow.lt h.own b hb).1; simp; omega), h.lo, Nat.le_trans h.sz k.size⟩
theorem Lt.lay {w w' : World} {q r c B br bl : Nat} {tn tm ta lv lv' : Value} {xs : List Int} {e : Int} {l : List UInt8} (h : Lt w q r c B br bl tn tm ta lv xs) (z : Zs w q r c e l) (x : Int) (hg : w.grownBy w' lv.ownBlock) (ho : w'.ownsRow B 2 1 lv' (xs ++ [x]).length (ic (xs ++ [x]))) :
  Lt (w'.setCell ⟨bl, 2, none⟩ lv') q r c B br bl tn tm ta lv' (xs ++ [x]) /\ Zs (w'.setCell ⟨bl, 2, none⟩ lv') q r c e l /\ Kept w (w'.setCell ⟨bl, 2, none⟩ lv') ([bl] ++ lv.ownBlock.toList) /\ w'.cell? ⟨bl, 2, none⟩ = some lv /\ w'.frozen? ⟨bl, 2, none⟩ = false /\ w'.cell? ⟨br, 0, none⟩ = some (.pointer (some ⟨q, 0, none⟩)) := by
 have h1 := h.lo
 have hlv : ∀ b, lv.ownBlock = some b -> B <= b := fun b hb => (World.ownsRow.lt h.own b hb).1
 have k1 : Kept w w' lv.ownBlock.toList := (Kept.refl w _).grown hg (fun k hk => .inl (by simp [hk]))
 have hin : ∀ b, b < B -> b ∉ lv.ownBlock.toList := fun b hb hm => by have := hlv b (by simpa using hm); omega
 have k2 : Kept w' (w'.setCell ⟨bl, 2, none⟩ lv') [bl] := (Kept.refl w' [bl]).setCell (.inl (by simp)) _
 have bo' := k1.heap (hin bl (by omega)) h.bo
 have bb' := k1.heap (hin br (by omega)) h.bb
 have z1 := z.kept k1 (hin q (by omega)) (hin r (by omega)) (hin c (by omega))
 have hd : ∀ b, lv'.ownBlock = some b -> b ∉ [bl] := fun b hb => by have := (World.ownsRow.lt ho b hb).1; simp; omega
 refine ⟨⟨k2.heap (by simp; omega) bb', by simpa using xqa bo' 2 lv', xqj ho k2 hd, h.lo, Nat.le_trans h.sz (Nat.le_trans k1.size k2.size)⟩, z1.kept k2 (by simp; omega) (by simp; omega) (by simp; omega), ?_, cell_of_row w' bl 2 _ _ _ bo', frozen_of_row w' bl 2 _ _ bo', cell_of_row w' br 0 _ _ _ bb'⟩
 exact (k1.mono (cs := [bl] ++ lv.ownBlock.toList) (fun x hx => List.mem_append.2 (.inr hx))).trans k2 (fun x hx => .inl (List.mem_append.2 (.inl hx)))
theorem rop_any (q r c B br bl : Nat) (lv : Value) (xs : List Ox) (l : List UInt8) (w : World) (z : Zs w q r c 0 l) (L : Lq encO 38 67 w q r c B br bl lv xs) (hn : xs.length <= 255) :
  Calls Try.prog 83 #[.pointer (some ⟨br, 0, none⟩), .pointer (some ⟨bl, 0, none⟩)] w fun en w' => en = .returned (.tuple #[]) /\ ∃ (o : Ox) (lv' : Value), Zs w' q r c (oD 0 l).2.2 (oD 0 l).2.1 /\ Lq encO 38 67 w' q r c B br bl lv' (xs ++ [o]) /\ Kept w w' ([q, r, bl] ++ lv.ownBlock.toList) /\ ((oD 0 l).2.2 = 0 -> o = dOp 0 l) := by
 obtain ⟨i0, hi0, hz0, hz1, hz2⟩ := info_parts Try.infoOx
 obtain ⟨W1, hW1⟩ : ∃ W1, W1 = w.alloc (.cells #[.int .i64 0, .bool false, .int .i64 0, .string ⟨#[]⟩] 67) := ⟨_, rfl⟩
 obtain ⟨zb, hzb⟩ : ∃ zb, zb = w.heap.size := ⟨_, rfl⟩
 have k1 : Kept w W1 [] := by rw [hW1]; exact (Kept.refl w []).alloc _
 have hlo := L.lo
 have hbr : br < w.heap.size := (Array.getElem?_eq_some_iff.1 L.bb).1
 have D0 : RowKit.Hid (Oz w q r c zb 67 #[.int .i64 0, .bool false, .int .i64 0, .string ⟨#[]⟩] W1 0 l) := iH ⟨z.kept k1 (by simp) (by simp) (by simp), by rw [hW1, hzb]; exact heap_alloc_new w _, k1.mono (by simp), by omega, by omega⟩
 obtain ⟨ua, uc, hlv⟩ := L.own.shape
 subst hlv
 have CB : RowKit.Hid (∀ V e' l' cs, Oz w q r c zb 67 cs V e' l' -> Lq encO 38 67 V q r c B br bl (.slice ua xs.length uc) xs) := iH (fun V e' l' cs d => L.keep d.k)
 have BC : RowKit.Hid (c < w.heap.size) := iH (by omega)
 have HN := iH hn
 have HB : RowKit.Hid (q < bl /\ r < bl /\ br < B /\ bl < B /\ B <= w.heap.size ∨ w.heap.size < B) := iH (by omega)
 have SZB := iH (L.size)
 clear z L k1 hlo hbr hn
 go_enter Try.func83, Try.ntmps83
 go_upto_region 1 with fail
 rw [<- hW1, <- hzb]
 clear hW1 hzb
 have pc := (CB.out _ _ _ _ D0.out).cells.1
 obtain ⟨x0, y0⟩ := D0.out.cell 0
 simp at x0
 go_wp2_with fail
 refine (zup_any q r c 255 0 l _ D0.out.zs (by omega)).mono ?_
 rintro en w2 ⟨a1, rfl, g, k, ha⟩
 have H1 := iH ha
 have dd := D0.out.call g k
 obtain ⟨x1, y1⟩ := dd.cell 0
 simp at x1
 have D1 := iH (dd.store 0 (.int .i64 a1))
 simp only [List.setIfInBounds_toArray, List.set_cons_zero] at D1
 clear g k ha dd pc x0 y0
 have pc := (CB.out _ _ _ _ D1.out).cells.1
 go_wp2_with fail
 refine (zup_any q r c 1 _ _ _ D1.out.zs (by omega)).mono ?_
 rintro en w3 ⟨a2, rfl, g, k, ha⟩
 have H2 := iH ha
 have dd := D1.out.call g k
 have DD := iH dd
 obtain ⟨x2, y2⟩ := dd.cell 1
 simp at x2
 clear g k ha dd pc x1 y1
 go_wp2_with fail
 refine (flag_any true _).mono ?_
 rintro en w4 ⟨rfl, hw⟩
 subst hw
 have D2 := iH (DD.out.store 1 (.bool (a2 == ((flag true : Nat) : Int))))
 simp only [List.setIfInBounds_toArray, List.set_cons_zero, List.set_cons_succ] at D2
 have pc := (CB.out _ _ _ _ D2.out).cells.1
 have pr := D2.out.zs.cell
 go_wp2_with fail
 refine (zint_any q r c _ _ _ D2.out.zs).mono ?_
 rintro en w5 ⟨a3, rfl, g, k, ha⟩
 have H3 := iH ha
 have dd := D2.out.call g k
 obtain ⟨x3, y3⟩ := dd.cell 2
 simp at x3
 have D3 := iH (dd.store 2 (.int .i64 a3))
 simp only [List.setIfInBounds_toArray, List.set_cons_zero, List.set_cons_succ] at D3
 clear g k ha dd pc pr x2 y2
 have pc := (CB.out _ _ _ _ D3.out).cells.1
 have pr := D3.out.zs.cell
 go_wp2_with fail
 refine (ztext_any q r c 40 _ _ _ D3.out.zs (by omega)).mono ?_
 rintro en w6 ⟨a4, rfl, g, k, ha, _⟩
 have H4 := iH ha
 have dd := D3.out.call g k
 obtain ⟨x4, y4⟩ := dd.cell 3
 simp at x4
 have D4 := iH (dd.store 3 (.string a4))
 simp only [List.setIfInBounds_toArray, List.set_cons_zero, List.set_cons_succ] at D4
 clear g k ha dd pc pr x3 y3
 go_upto_region 5 with fail
 obtain ⟨W, hW⟩ : ∃ W, W = w6.setCell ⟨zb, 3, none⟩ (.string a4) := ⟨_, rfl⟩
 rw [<- hW] at D4 ⊢
 clear hW x4 y4
 have LQ := iH (CB.out _ _ _ _ D4.out)
 obtain ⟨_, lc, lf⟩ := LQ.out.cells
 have q0 : W.cell? ⟨zb, 0, none⟩ = some (.int .i64 a1) := (D4.out.cell 0).1
 have q1 : W.cell? ⟨zb, 1, none⟩ = some (.bool (a2 == ((flag true : Nat) : Int))) := (D4.out.cell 1).1
 have q2 : W.cell? ⟨zb, 2, none⟩ = some (.int .i64 a3) := (D4.out.cell 2).1
 have q3 : W.cell? ⟨zb, 3, none⟩ = some (.string a4) := (D4.out.cell 3).1
 have SRC := xqI (E := encO) (P := Try.prog) (t := 67) W (⟨a1, a2 == ((flag true : Nat) : Int), a3, a4⟩ : Ox) (tx := 38) Try.underlying38
 simp only [encO, Ox.cs] at SRC
 have SRC := iH SRC
 have OO := iH (LQ.out.own.keep ((Kept.refl W []).alloc (.cells #[.int .i64 a1, .bool (a2 == ((flag true : Nat) : Int)), .int .i64 a3, .string a4] 67)))
 have HS : RowKit.Hid (B <= (W.alloc (.cells #[.int .i64 a1, .bool (a2 == ((flag true : Nat) : Int)), .int .i64 a3, .string a4] 67)).heap.size) := iH (by have := SZB.out; have := D4.out.k.size; simp; omega)
 go_wp2_with (at_builtin; refine xqp _ rfl (.tmp 28) (.tmp 30) 38 38 rfl B 67 i0 _ 4 40 Try.underlying38 hi0 hz0 hz1 hz2 rfl (.slice ua xs.length uc) xs.length (kcs encO xs) rfl OO.out (.slice (some ⟨W.heap.size, 0, none⟩) 1 1) 1 _ rfl SRC.out (by have := HN.out; unfold maxLen; omega) (by have := HN.out; omega) HS.out ?nexta)
 case nexta =>
  intro v9 w9 hown _ hgrow _
  have o9 : OwnK encO w9 B 67 v9 (xs ++ [(⟨a1, a2 == ((flag true : Nat) : Int), a3, a4⟩ : Ox)]) := by
   unfold OwnK
   rw [xqv, xqu, List.length_append]
   exact hown
  have LQ2 := iH (LQ.out.keep ((Kept.refl W []).alloc (.cells #[.int .i64 a1, .bool (a2 == ((flag true : Nat) : Int)), .int .i64 a3, .string a4] 67) |>.mono (by simp)))
  obtain ⟨l1, z1, k1⟩ := LQ2.out.lay (by decide) (D4.out.zs.kept ((Kept.refl W []).alloc (.cells #[.int .i64 a1, .bool (a2 == ((flag true : Nat) : Int)), .int .i64 a3, .string a4] 67)) (by simp) (by simp) (by simp)) (⟨a1, a2 == ((flag true : Nat) : Int), a3, a4⟩ : Ox) hgrow o9
  have hbl := LQ2.out.lo
  have kbl : Kept (W.alloc (.cells #[.int .i64 a1, .bool (a2 == ((flag true : Nat) : Int)), .int .i64 a3, .string a4] 67)) w9 (Value.slice ua xs.length uc).ownBlock.toList := (Kept.refl _ _).grown hgrow (fun k hk => .inl (by simp [hk]))
  have bl9 := kbl.heap (fun hm => by have := (LQ2.out.own.lt bl (by simpa using hm)).1; omega) LQ2.out.bo
  have d9 := cell_of_row w9 bl 0 _ _ _ bl9
  have f9 := frozen_of_row w9 bl 0 _ _ bl9
  simp at d9
  obtain ⟨u9, c9, e9⟩ := o9.shape
  rw [show (xs ++ [(⟨a1, a2 == ((flag true : Nat) : Int), a3, a4⟩ : Ox)]).length = xs.length + 1 by simp] at e9
  subst e9
  have L9 := iH l1; have Z9 := iH z1
  have K9 := iH (((D4.out.k.alloc (.cells #[.int .i64 a1, .bool (a2 == ((flag true : Nat) : Int)), .int .i64 a3, .string a4] 67)).mono (cs := [q, r, bl] ++ (Value.slice ua xs.length uc).ownBlock.toList) (by intro x hx; simp at hx; rcases hx with rfl | rfl <;> simp)).trans k1 (by intro x hx; left; simp at hx ⊢; rcases hx with rfl | h; simp; simp [h]))
  clear hown hgrow o9 l1 z1 k1 bl9 kbl hbl lc lf q0 q1 q2 q3
  have HR : RowKit.Hid ((oD 0 l).2.2 = 0 -> (⟨a1, a2 == ((flag true : Nat) : Int), a3, a4⟩ : Ox) = dOp 0 l) := iH (fun h4 => by
   have h3 := stay_T h4
   have h2 := stay_I h3
   have h1 := xq4 h2
   have e1 := H1.out h1; have e2 := H2.out h2; have e3 := H3.out h3; have e4 := H4.out h4
   subst e1 e2 e3 e4
   unfold dOp
   congr 1
   show ((((oB 0 l).1 : Nat) : Int) == ((flag true : Nat) : Int)) = decide ((oB 0 l).1 = 1)
   rw [show flag true = 1 from rfl]
   by_cases h : (oB 0 l).1 = 1
   ·rw [h]; rfl
   ·rw [decide_eq_false h, beq_eq_false_iff_ne]; omega)
  go_wp2
  go_end0
  exact ⟨rfl, (⟨a1, a2 == ((flag true : Nat) : Int), a3, a4⟩ : Ox), _, Z9.out, L9.out, K9.out, HR.out⟩
theorem rpl_any (q r c B br bl : Nat) (lv : Value) (xs : List Px) (l : List UInt8) (w : World) (z : Zs w q r c 0 l) (L : Lq encP 39 71 w q r c B br bl lv xs) (hn : xs.length <= 255) :
  Calls Try.prog 84 #[.pointer (some ⟨br, 0, none⟩), .pointer (some ⟨bl, 0, none⟩)] w fun en w' => en = .returned (.tuple #[]) /\ ∃ (o : Px) (lv' : Value), Zs w' q r c (evE (pA 0 l).2.2 (pA 0 l).2.1) (evL (pA 0 l).2.2 (pA 0 l).2.1) /\ Lq encP 39 71 w' q r c B br bl lv' (xs ++ [o]) /\ Kept w w' ([q, r, bl] ++ lv.ownBlock.toList) /\ (evE (pA 0 l).2.2 (pA 0 l).2.1 = 0 -> o = dPl 0 l) := by
 obtain ⟨i0, hi0, hz0, hz1, hz2⟩ := info_parts Try.infoPx
 obtain ⟨W1, hW1⟩ : ∃ W1, W1 = w.alloc (.cells #[.int .i64 0, .int .i64 0, .int .i64 0, .string ⟨#[]⟩, .int .i64 0, .int .i64 0, .int .u8 0, .int .i64 0, .string ⟨#[]⟩] 71) := ⟨_, rfl⟩
 obtain ⟨zb, hzb⟩ : ∃ zb, zb = w.heap.size := ⟨_, rfl⟩
 have k1 : Kept w W1 [] := by rw [hW1]; exact (Kept.refl w []).alloc _
 have hlo := L.lo
 have hbr : br < w.heap.size := (Array.getElem?_eq_some_iff.1 L.bb).1
 have D0 : RowKit.Hid (Oz w q r c zb 71 #[.int .i64 0, .int .i64 0, .int .i64 0, .string ⟨#[]⟩, .int .i64 0, .int .i64 0, .int .u8 0, .int .i64 0, .string ⟨#[]⟩] W1 0 l) := iH ⟨z.kept k1 (by simp) (by simp) (by simp), by rw [hW1, hzb]; exact heap_alloc_new w _, k1.mono (by simp), by omega, by omega⟩
 obtain ⟨ua, uc, hlv⟩ := L.own.shape
 subst hlv
 have CB : RowKit.Hid (∀ V e' l' cs, Oz w q r c zb 71 cs V e' l' -> Lq encP 39 71 V q r c B br bl (.slice ua xs.length uc) xs) := iH (fun V e' l' cs d => L.keep d.k)
 have BC : RowKit.Hid (c < w.heap.size) := iH (by omega)
 have HN := iH hn
 have HB : RowKit.Hid (q < bl /\ r < bl /\ br < B /\ bl < B /\ B <= w.heap.size ∨ w.heap.size < B) := iH (by omega)
 have SZB := iH (L.size)
 clear z L k1 hlo hbr hn
 go_enter Try.func84, Try.ntmps84
 go_upto_region 1 with fail
 rw [<- hW1, <- hzb]
 clear hW1 hzb
 have pc := (CB.out _ _ _ _ D0.out).cells.1
 obtain ⟨x0, y0⟩ := D0.out.cell 0
 simp at x0
 go_wp2_with fail
 refine (zup_any q r c 255 0 l _ D0.out.zs (by omega)).mono ?_
 rintro en w2 ⟨a1, rfl, g, k, ha⟩
 have H1 := iH ha
 have dd := D0.out.call g k
 obtain ⟨x1, y1⟩ := dd.cell 0
 simp at x1
 have D1 := iH (dd.store 0 (.int .i64 a1))
 simp only [List.setIfInBounds_toArray, List.set_cons_zero] at D1
 clear g k ha dd pc x0 y0
 have pc := (CB.out _ _ _ _ D1.out).cells.1
 go_wp2_with fail
 refine (zev8_any q r c _ _ _ D1.out.zs (Nat.lt_of_lt_of_le BC.out D1.out.k.size)).mono ?_
 rintro en w3 ⟨e0, e1, e2, e3, e4, e5, e6, e7, rfl, g, k, ha⟩
 have H2 := iH ha
 have dd := D1.out.call g k
 obtain ⟨x2, y2⟩ := dd.cell 1
 obtain ⟨x3, y3⟩ := dd.cell 2
 obtain ⟨x4, y4⟩ := dd.cell 3
 obtain ⟨x5, y5⟩ := dd.cell 4
 obtain ⟨x6, y6⟩ := dd.cell 5
 obtain ⟨x7, y7⟩ := dd.cell 6
 obtain ⟨x8, y8⟩ := dd.cell 7
 obtain ⟨x9, y9⟩ := dd.cell 8
 simp at x2 x3 x4 x5 x6 x7 x8 x9
 have D4 := iH ((((((((dd.store 1 (.int .i64 e0)).store 2 (.int .i64 e1)).store 3 (.string e2)).store 4 (.int .i64 e3)).store 5 (.int .i64 e4)).store 6 (.int .u8 e5)).store 7 (.int .i64 e6)).store 8 (.string e7))
 simp only [List.setIfInBounds_toArray, List.set_cons_zero, List.set_cons_succ] at D4
 clear g k ha dd pc x1 y1
 go_upto_region 3 with fail
 obtain ⟨W, hW⟩ : ∃ W, W = ((((((((w3.setCell ⟨zb, 1, none⟩ (.int .i64 e0)).setCell ⟨zb, 2, none⟩ (.int .i64 e1)).setCell ⟨zb, 3, none⟩ (.string e2)).setCell ⟨zb, 4, none⟩ (.int .i64 e3)).setCell ⟨zb, 5, none⟩ (.int .i64 e4)).setCell ⟨zb, 6, none⟩ (.int .u8 e5)).setCell ⟨zb, 7, none⟩ (.int .i64 e6)).setCell ⟨zb, 8, none⟩ (.string e7)) := ⟨_, rfl⟩
 rw [<- hW] at D4 ⊢
 clear hW x2 y2 x3 y3 x4 y4 x5 y5 x6 y6 x7 y7 x8 y8 x9 y9
 have LQ := iH (CB.out _ _ _ _ D4.out)
 obtain ⟨_, lc, lf⟩ := LQ.out.cells
 have q0 : W.cell? ⟨zb, 0, none⟩ = some (.int .i64 a1) := (D4.out.cell 0).1
 have q1 : W.cell? ⟨zb, 1, none⟩ = some (.int .i64 e0) := (D4.out.cell 1).1
 have q2 : W.cell? ⟨zb, 2, none⟩ = some (.int .i64 e1) := (D4.out.cell 2).1
 have q3 : W.cell? ⟨zb, 3, none⟩ = some (.string e2) := (D4.out.cell 3).1
 have q4 : W.cell? ⟨zb, 4, none⟩ = some (.int .i64 e3) := (D4.out.cell 4).1
 have q5 : W.cell? ⟨zb, 5, none⟩ = some (.int .i64 e4) := (D4.out.cell 5).1
 have q6 : W.cell? ⟨zb, 6, none⟩ = some (.int .u8 e5) := (D4.out.cell 6).1
 have q7 : W.cell? ⟨zb, 7, none⟩ = some (.int .i64 e6) := (D4.out.cell 7).1
 have q8 : W.cell? ⟨zb, 8, none⟩ = some (.string e7) := (D4.out.cell 8).1
 have SRC := xqI (E := encP) (P := Try.prog) (t := 71) W (⟨a1, ⟨e0, e1, e2, e3, e4, e5, e6, e7⟩⟩ : Px) (tx := 39) Try.underlying39
 simp only [encP, Px.cs] at SRC
 have SRC := iH SRC
 have OO := iH (LQ.out.own.keep ((Kept.refl W []).alloc (.cells #[.int .i64 a1, .int .i64 e0, .int .i64 e1, .string e2, .int .i64 e3, .int .i64 e4, .int .u8 e5, .int .i64 e6, .string e7] 71)))
 have HS : RowKit.Hid (B <= (W.alloc (.cells #[.int .i64 a1, .int .i64 e0, .int .i64 e1, .string e2, .int .i64 e3, .int .i64 e4, .int .u8 e5, .int .i64 e6, .string e7] 71)).heap.size) := iH (by have := SZB.out; have := D4.out.k.size; simp; omega)
 go_wp2_with (at_builtin; refine xqp _ rfl (.tmp 9) (.tmp 11) 39 39 rfl B 71 i0 _ 9 88 Try.underlying39 hi0 hz0 hz1 hz2 rfl (.slice ua xs.length uc) xs.length (kcs encP xs) rfl OO.out (.slice (some ⟨W.heap.size, 0, none⟩) 1 1) 1 _ rfl SRC.out (by have := HN.out; unfold maxLen; omega) (by have := HN.out; omega) HS.out ?nexta)
 case nexta =>
  intro v9 w9 hown _ hgrow _
  have o9 : OwnK encP w9 B 71 v9 (xs ++ [(⟨a1, ⟨e0, e1, e2, e3, e4, e5, e6, e7⟩⟩ : Px)]) := by
   unfold OwnK
   rw [xqv, xqu, List.length_append]
   exact hown
  have LQ2 := iH (LQ.out.keep ((Kept.refl W []).alloc (.cells #[.int .i64 a1, .int .i64 e0, .int .i64 e1, .string e2, .int .i64 e3, .int .i64 e4, .int .u8 e5, .int .i64 e6, .string e7] 71) |>.mono (by simp)))
  obtain ⟨l1, z1, k1⟩ := LQ2.out.lay (by decide) (D4.out.zs.kept ((Kept.refl W []).alloc (.cells #[.int .i64 a1, .int .i64 e0, .int .i64 e1, .string e2, .int .i64 e3, .int .i64 e4, .int .u8 e5, .int .i64 e6, .string e7] 71)) (by simp) (by simp) (by simp)) (⟨a1, ⟨e0, e1, e2, e3, e4, e5, e6, e7⟩⟩ : Px) hgrow o9
  have hbl := LQ2.out.lo
  have kbl : Kept (W.alloc (.cells #[.int .i64 a1, .int .i64 e0, .int .i64 e1, .string e2, .int .i64 e3, .int .i64 e4, .int .u8 e5, .int .i64 e6, .string e7] 71)) w9 (Value.slice ua xs.length uc).ownBlock.toList := (Kept.refl _ _).grown hgrow (fun k hk => .inl (by simp [hk]))
  have bl9 := kbl.heap (fun hm => by have := (LQ2.out.own.lt bl (by simpa using hm)).1; omega) LQ2.out.bo
  have d9 := cell_of_row w9 bl 0 _ _ _ bl9
  have f9 := frozen_of_row w9 bl 0 _ _ bl9
  simp at d9
  obtain ⟨u9, c9, e9⟩ := o9.shape
  rw [show (xs ++ [(⟨a1, ⟨e0, e1, e2, e3, e4, e5, e6, e7⟩⟩ : Px)]).length = xs.length + 1 by simp] at e9
  subst e9
  have L9 := iH l1; have Z9 := iH z1
  have K9 := iH (((D4.out.k.alloc (.cells #[.int .i64 a1, .int .i64 e0, .int .i64 e1, .string e2, .int .i64 e3, .int .i64 e4, .int .u8 e5, .int .i64 e6, .string e7] 71)).mono (cs := [q, r, bl] ++ (Value.slice ua xs.length uc).ownBlock.toList) (by intro x hx; simp at hx; rcases hx with rfl | rfl <;> simp)).trans k1 (by intro x hx; left; simp at hx ⊢; rcases hx with rfl | h; simp; simp [h]))
  clear hown hgrow o9 l1 z1 k1 bl9 kbl hbl lc lf q0 q1 q2 q3 q4 q5 q6 q7 q8
  have HR : RowKit.Hid (evE (pA 0 l).2.2 (pA 0 l).2.1 = 0 -> (⟨a1, ⟨e0, e1, e2, e3, e4, e5, e6, e7⟩⟩ : Px) = dPl 0 l) := iH (fun h4 => by
   have e2 := H2.out h4
   have h1 : (pA 0 l).2.2 = 0 := by
    by_cases h : (pA 0 l).2.2 = 0
    ·exact h
    unfold evE at h4
    rw [xq5 h, if_neg h] at h4
    exact absurd h4 h
   have e1 := H1.out h1
   subst e1
   unfold dPl pB
   rw [e2]
   rfl)
  go_wp2
  go_end0
  exact ⟨rfl, (⟨a1, ⟨e0, e1, e2, e3, e4, e5, e6, e7⟩⟩ : Px), _, Z9.out, L9.out, K9.out, HR.out⟩
theorem rnum1_any (q r c B br bl : Nat) (tn tm ta lv : Value) (xs : List Int) (l : List UInt8) (w : World) (z : Zs w q r c 0 l) (L : Lt w q r c B br bl tn tm ta lv xs) (hn : xs.length <= 255) :
  Calls Try.prog 87 #[.pointer (some ⟨bl, 0, none⟩), .pointer (some ⟨br, 0, none⟩)] w fun en w' => en = .returned (.tuple #[]) /\ ∃ (o : Int) (lv' : Value), Zs w' q r c (wA 0 l).2.2 (wA 0 l).2.1 /\ Lt w' q r c B br bl tn tm ta lv' (xs ++ [o]) /\ Kept w w' ([q, r, bl] ++ lv.ownBlock.toList) /\ ((wA 0 l).2.2 = 0 -> o = ((wA 0 l).1 : Nat)) := by
 obtain ⟨i0, hi, hz0, hz1, hz2⟩ := info_parts Try.infoI
 obtain ⟨ua, uc, hlv, _⟩ := xqM L.own
 subst hlv
 have k0 : Kept w w.drew [q, r] := (Kept.refl w _).drew
 have LW := iH (L.keep k0); have ZW := iH (z.kept (Kept.refl w []).drew (by simp) (by simp) (by simp)); have KW := iH k0
 have pc0 := cell_of_row w.drew br 0 _ _ _ LW.out.bb
 have lc0 := cell_of_row w.drew bl 2 _ _ _ LW.out.bo
 simp at pc0 lc0
 have HN := iH hn
 clear z L hn k0
 go_enter Try.func87, Try.ntmps87
 refine wp_region_held_drew (S := fun Z => Z.cell? ⟨br, 0, none⟩ = some (.pointer (some ⟨q, 0, none⟩))) (by kernel_rfl) pc0 (fun hJ => ?_)
 refine wx 0 2 (.pointer (some ⟨bl, 1, none⟩)) rfl hJ ?_
 refine wx 1 3 (.pointer (some ⟨bl, 2, none⟩)) rfl hJ ?_
 refine wx 3 5 (.pointer (some ⟨q, 0, none⟩)) rfl hJ ?_
 refine wpAnyH_ready (rs := [2, 4]) (by kernel_rfl) (by simp) ?_
 refine AllReadyH.cons (o := _) rfl (fun K hK => ?_) (AllReadyH.cons (o := _) rfl (fun K hK => ?_) AllReadyH.nil)
 ·go_simp
  refine hK.out _ _ pc0 (fun hJ => ?_)
  clear hK K lc0
  refine wr1 4 rfl (fun K hK => ?_)
  go_simp
  go_at_call 56
  refine (xqH q r c 0 l _ ZW.out).mono ?_
  rintro en w2 ⟨a1, rfl, g, k, ha⟩
  have H1 := iH ha; have Z2 := iH g; have L2 := iH (LW.out.keep k); have K2 := iH (KW.out.trans k (fun x hx => .inl hx))
  clear g k ha
  have pc := cell_of_row w2 br 0 _ _ _ L2.out.bb
  have lc := cell_of_row w2 bl 2 _ _ _ L2.out.bo
  simp at pc lc
  refine hK.out _ _ pc (fun hJ => ?_)
  clear hK K
  refine wr1 5 rfl (fun K hK => ?_)
  go_simp
  obtain ⟨W, hW⟩ : ∃ W, W = w2.alloc (.cells #[.int .i64 a1] 2) := ⟨_, rfl⟩
  rw [<- hW]
  have k3 : Kept w2 W [] := by rw [hW]; exact (Kept.refl w2 []).alloc _
  have L3 := iH (L2.out.keep (k3.mono (by simp)))
  have Z3 := iH (Z2.out.kept k3 (by simp) (by simp) (by simp))
  have K3 := iH (K2.out.trans k3 (by simp))
  have SRC : RowKit.Hid (Src Try.prog 1 23 (.slice (some ⟨w2.heap.size, 0, none⟩) 1 1) 1 [.int .i64 a1] W) := iH (by rw [hW]; exact xq9 Try.underlying23 w2 _ rfl _)
  clear hW k3
  have pc3 := cell_of_row W br 0 _ _ _ L3.out.bb
  simp at pc3
  refine hK.out _ _ pc3 (fun hJ => ?_)
  clear hK K pc lc
  clear pc3
  refine wr1 6 rfl (fun K hK => ?_)
  refine xqn _ rfl (.tmp 4) (.tmp 7) 23 23 rfl B 2 i0 (.int .i64 0) 1 8 Try.underlying23 hi hz0 hz1 hz2 rfl _ xs.length (ic xs) rfl L3.out.own _ 1 [.int .i64 a1] rfl SRC.out (by have := HN.out; unfold maxLen; omega) (by have := HN.out; omega) L3.out.sz ?_
  intro v9 w9 hown _ hgrow _
  have o9 : w9.ownsRow B 2 1 v9 (xs ++ [a1]).length (ic (xs ++ [a1])) := by rw [List.length_append, ic, List.map_append]; exact hown
  obtain ⟨l1, z1, k1, d9, f9, p9⟩ := L3.out.lay Z3.out a1 hgrow o9
  obtain ⟨u9, c9, e9, _⟩ := xqM o9
  rw [show (xs ++ [a1]).length = xs.length + 1 by simp] at e9
  subst e9
  have L9 := iH l1; have Z9 := iH z1
  have K9 := iH ((K3.out.mono (cs := [q, r, bl] ++ (Value.slice ua xs.length uc).ownBlock.toList) (by intro x hx; simp at hx; rcases hx with rfl | rfl <;> simp)).trans k1 (by intro x hx; left; simp at hx ⊢; rcases hx with rfl | h; simp; simp [h]))
  clear hown hgrow o9 l1 z1 k1
  refine hK.out _ _ p9 (fun hJ => ?_)
  clear hK K
  refine wpAnyH_take (i := 7) (oi := _) (v := .pointer (some ⟨bl, 1, none⟩)) rfl (by kernel_rfl) (by kernel_rfl) (by kernel_rfl) (fun _ _ _ h => h) (Or.inl ⟨by rfl, fun V hV => by go_simp⟩) hJ ?_
  refine wpAnyH_take (i := 8) (oi := _) (v := .pointer (some ⟨bl, 2, none⟩)) rfl (by kernel_rfl) (by kernel_rfl) (by kernel_rfl) (fun _ _ _ h => h) (Or.inl ⟨by rfl, fun V hV => by go_simp⟩) hJ ?_
  refine wr1 9 rfl (fun K hK => ?_)
  go_simp
  have q9 := cell_of_row _ br 0 _ _ _ L9.out.bb
  simp at q9
  refine hK.out _ _ q9 (fun hJ => ?_)
  clear hK K
  refine wd ?_
  clear hJ d9 f9 p9 q9
  go_wp2
  go_end0
  exact ⟨rfl, a1, _, Z9.out, L9.out, K9.out, H1.out⟩
 ·go_simp
  go_at_call 56
  refine (xqH q r c 0 l _ ZW.out).mono ?_
  rintro en w2 ⟨a1, rfl, g, k, ha⟩
  have H1 := iH ha; have Z2 := iH g; have L2 := iH (LW.out.keep k); have K2 := iH (KW.out.trans k (fun x hx => .inl hx))
  clear g k ha
  have pc := cell_of_row w2 br 0 _ _ _ L2.out.bb
  have lc := cell_of_row w2 bl 2 _ _ _ L2.out.bo
  simp at pc lc
  refine hK.out _ _ pc (fun hJ => ?_)
  clear hK K
  refine wpAnyH_ready (rs := [2, 5]) (by kernel_rfl) (by simp) ?_
  refine AllReadyH.cons (o := _) rfl (fun K hK => ?_) (AllReadyH.cons (o := _) rfl (fun K hK => ?_) AllReadyH.nil)
  ·go_simp
   refine hK.out _ _ pc (fun hJ => ?_)
   clear hK K
   refine wr1 5 rfl (fun K hK => ?_)
   go_simp
   obtain ⟨W, hW⟩ : ∃ W, W = w2.alloc (.cells #[.int .i64 a1] 2) := ⟨_, rfl⟩
   rw [<- hW]
   have k3 : Kept w2 W [] := by rw [hW]; exact (Kept.refl w2 []).alloc _
   have L3 := iH (L2.out.keep (k3.mono (by simp)))
   have Z3 := iH (Z2.out.kept k3 (by simp) (by simp) (by simp))
   have K3 := iH (K2.out.trans k3 (by simp))
   have SRC : RowKit.Hid (Src Try.prog 1 23 (.slice (some ⟨w2.heap.size, 0, none⟩) 1 1) 1 [.int .i64 a1] W) := iH (by rw [hW]; exact xq9 Try.underlying23 w2 _ rfl _)
   clear hW k3
   have pc3 := cell_of_row W br 0 _ _ _ L3.out.bb
   simp at pc3
   refine hK.out _ _ pc3 (fun hJ => ?_)
   clear hK K pc lc
   clear pc3
   refine wr1 6 rfl (fun K hK => ?_)
   refine xqn _ rfl (.tmp 4) (.tmp 7) 23 23 rfl B 2 i0 (.int .i64 0) 1 8 Try.underlying23 hi hz0 hz1 hz2 rfl _ xs.length (ic xs) rfl L3.out.own _ 1 [.int .i64 a1] rfl SRC.out (by have := HN.out; unfold maxLen; omega) (by have := HN.out; omega) L3.out.sz ?_
   intro v9 w9 hown _ hgrow _
   have o9 : w9.ownsRow B 2 1 v9 (xs ++ [a1]).length (ic (xs ++ [a1])) := by rw [List.length_append, ic, List.map_append]; exact hown
   obtain ⟨l1, z1, k1, d9, f9, p9⟩ := L3.out.lay Z3.out a1 hgrow o9
   obtain ⟨u9, c9, e9, _⟩ := xqM o9
   rw [show (xs ++ [a1]).length = xs.length + 1 by simp] at e9
   subst e9
   have L9 := iH l1; have Z9 := iH z1
   have K9 := iH ((K3.out.mono (cs := [q, r, bl] ++ (Value.slice ua xs.length uc).ownBlock.toList) (by intro x hx; simp at hx; rcases hx with rfl | rfl <;> simp)).trans k1 (by intro x hx; left; simp at hx ⊢; rcases hx with rfl | h; simp; simp [h]))
   clear hown hgrow o9 l1 z1 k1
   refine hK.out _ _ p9 (fun hJ => ?_)
   clear hK K
   refine wpAnyH_take (i := 7) (oi := _) (v := .pointer (some ⟨bl, 1, none⟩)) rfl (by kernel_rfl) (by kernel_rfl) (by kernel_rfl) (fun _ _ _ h => h) (Or.inl ⟨by rfl, fun V hV => by go_simp⟩) hJ ?_
   refine wpAnyH_take (i := 8) (oi := _) (v := .pointer (some ⟨bl, 2, none⟩)) rfl (by kernel_rfl) (by kernel_rfl) (by kernel_rfl) (fun _ _ _ h => h) (Or.inl ⟨by rfl, fun V hV => by go_simp⟩) hJ ?_
   refine wr1 9 rfl (fun K hK => ?_)
   go_simp
   have q9 := cell_of_row _ br 0 _ _ _ L9.out.bb
   simp at q9
   refine hK.out _ _ q9 (fun hJ => ?_)
   clear hK K
   refine wd ?_
   clear hJ d9 f9 p9 q9
   go_wp2
   go_end0
   exact ⟨rfl, a1, _, Z9.out, L9.out, K9.out, H1.out⟩
  go_simp
  obtain ⟨W, hW⟩ : ∃ W, W = w2.alloc (.cells #[.int .i64 a1] 2) := ⟨_, rfl⟩
  rw [<- hW]
  have k3 : Kept w2 W [] := by rw [hW]; exact (Kept.refl w2 []).alloc _
  have L3 := iH (L2.out.keep (k3.mono (by simp)))
  have Z3 := iH (Z2.out.kept k3 (by simp) (by simp) (by simp))
  have K3 := iH (K2.out.trans k3 (by simp))
  have SRC : RowKit.Hid (Src Try.prog 1 23 (.slice (some ⟨w2.heap.size, 0, none⟩) 1 1) 1 [.int .i64 a1] W) := iH (by rw [hW]; exact xq9 Try.underlying23 w2 _ rfl _)
  clear hW k3
  have pc3 := cell_of_row W br 0 _ _ _ L3.out.bb
  simp at pc3
  refine hK.out _ _ pc3 (fun hJ => ?_)
  clear hK K pc lc
  have lc3 := cell_of_row W bl 2 _ _ _ L3.out.bo
  simp at lc3
  refine wr1 2 rfl (fun K hK => ?_)
  go_simp
  refine hK.out _ _ pc3 (fun hJ => ?_)
  clear hK K lc3
  clear pc3
  refine wr1 6 rfl (fun K hK => ?_)
  refine xqn _ rfl (.tmp 4) (.tmp 7) 23 23 rfl B 2 i0 (.int .i64 0) 1 8 Try.underlying23 hi hz0 hz1 hz2 rfl _ xs.length (ic xs) rfl L3.out.own _ 1 [.int .i64 a1] rfl SRC.out (by have := HN.out; unfold maxLen; omega) (by have := HN.out; omega) L3.out.sz ?_
  intro v9 w9 hown _ hgrow _
  have o9 : w9.ownsRow B 2 1 v9 (xs ++ [a1]).length (ic (xs ++ [a1])) := by rw [List.length_append, ic, List.map_append]; exact hown
  obtain ⟨l1, z1, k1, d9, f9, p9⟩ := L3.out.lay Z3.out a1 hgrow o9
  obtain ⟨u9, c9, e9, _⟩ := xqM o9
  rw [show (xs ++ [a1]).length = xs.length + 1 by simp] at e9
  subst e9
  have L9 := iH l1; have Z9 := iH z1
  have K9 := iH ((K3.out.mono (cs := [q, r, bl] ++ (Value.slice ua xs.length uc).ownBlock.toList) (by intro x hx; simp at hx; rcases hx with rfl | rfl <;> simp)).trans k1 (by intro x hx; left; simp at hx ⊢; rcases hx with rfl | h; simp; simp [h]))
  clear hown hgrow o9 l1 z1 k1
  refine hK.out _ _ p9 (fun hJ => ?_)
  clear hK K
  refine wpAnyH_take (i := 7) (oi := _) (v := .pointer (some ⟨bl, 1, none⟩)) rfl (by kernel_rfl) (by kernel_rfl) (by kernel_rfl) (fun _ _ _ h => h) (Or.inl ⟨by rfl, fun V hV => by go_simp⟩) hJ ?_
  refine wpAnyH_take (i := 8) (oi := _) (v := .pointer (some ⟨bl, 2, none⟩)) rfl (by kernel_rfl) (by kernel_rfl) (by kernel_rfl) (fun _ _ _ h => h) (Or.inl ⟨by rfl, fun V hV => by go_simp⟩) hJ ?_
  refine wr1 9 rfl (fun K hK => ?_)
  go_simp
  have q9 := cell_of_row _ br 0 _ _ _ L9.out.bb
  simp at q9
  refine hK.out _ _ q9 (fun hJ => ?_)
  clear hK K
  refine wd ?_
  clear hJ d9 f9 p9 q9
  go_wp2
  go_end0
  exact ⟨rfl, a1, _, Z9.out, L9.out, K9.out, H1.out⟩
end Go.Proofs.Ytjdbmlifekghfaa
