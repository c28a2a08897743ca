/-
 Kh, Kqa, Kql in one text.
-/
import Derived.Test.YticiofkiffgclaaGreatQu0
import Derived.Test.YticiofkiffgclaaGreatQu2
import Derived.Test.YticiofkiffgclaaGreatQu23
import Derived.Test.YticiofkiffgclaaGreatQu21
import Derived.Test.YticiofkiffgclaaGreatQu14
set_option linter.unusedVariables false
set_option maxHeartbeats 16000000
set_option maxRecDepth 100000
namespace Go.Proofs.YticiofkiffgclaaGreat
open Go.RowKit
variable {w w' : World} {base : Nat} {l : List Tk}
theorem ksetCells_at {g : Nat} {t : TypeId} {fz : Nat × Nat} : ∀ (vs : List Value) (o : Nat) (w : World) (cs : Array Value), w.heap[g]? = some (.cells cs t fz) ->
 ∃ cs', (w.setCells g o vs).heap[g]? = some (.cells cs' t fz) /\ cs'.size = cs.size /\ cs'.toList.take o = cs.toList.take o
 | [], o, w, cs, h => ⟨cs, h, rfl, rfl⟩
 | v :: vs, o, w, cs, h => by
  obtain ⟨cs', h1, h2, h3⟩ := ksetCells_at vs (o + 1) _ _ (xqb h o v)
  refine ⟨cs', h1, by rw [h2]; simp, ?_⟩
  have h4 : (cs'.toList.take (o + 1)).take o = cs'.toList.take o := by rw [List.take_take]; congr 1; omega
  rw [<- h4, h3, List.take_take, Array.toList_setIfInBounds, List.take_set]
  rw [List.set_eq_of_length_le (by simp; omega)]
  congr 1
  omega
theorem Fo.setCellsK_g7 {O : Nat -> Prop} {g : Nat} (hO : O g) : ∀ (vs : List Value) (o : Nat) (a w : World), Fo O a w -> Fo O a (w.setCells g o vs)
 | [], _, _, _, h => h
 | v :: vs, o, a, _, h => Fo.setCellsK_g7 hO vs (o + 1) a _ (h.setCell (p := ⟨g, o, none⟩) (.inl hO) v)
theorem krun_clear_cells {P : Program} (w : World) (t e : TypeId) (z : Value) (ht : P.underlying t = some (.slice e)) (hv : ∀ w, (zeroValue e).run P w = .ok z w) (h1 : ∀ v ∈ z.cells.toList, v.oneCell' = true) (hz : 0 < z.cells.size)
 {b o n c : Nat} {cs : Array Value} {te : TypeId} (hn : 0 < n) (hb : w.heap[b]? = some (.cells cs te (0, 0))) (ho : o + n * z.cells.size <= cs.size) :
 ∃ vs, ∀ ty, (Builtin.clear_ #[t] ty #[.slice (some ⟨b, o, none⟩) n c]).run P w = .ok (.tuple #[]) (w.setCells b o vs) := by
 have hl : (Builtin.zeroCells z.cells n).toList.length = n * z.cells.size := by simp [Builtin.zeroCells]
 have hc : ∀ j, j < (Builtin.zeroCells z.cells n).toList.length -> (w.cell? ⟨b, o + 0 + j, none⟩).isSome = true := by
  intro j hj
  rw [hl] at hj
  rw [cell_of_row w b (o + 0 + j) _ _ _ hb, Array.getElem?_eq_getElem (by omega)]
  rfl
 have hf : ∀ j, j < (Builtin.zeroCells z.cells n).toList.length -> w.frozen? ⟨b, o + 0 + j, none⟩ = false := by
  intro j hj
  simp [World.frozen?, hb]
 have hs := run_storeCells_cells (P := P) b o _ 0 w hc hf (by
  intro v hm
  simp only [Builtin.zeroCells, Array.toList_map, Array.toList_range, List.mem_map] at hm
  obtain ⟨i, _, rfl⟩ := hm
  have hi : i % z.cells.size < z.cells.size := Nat.mod_lt _ hz
  rw [getElem!_pos z.cells _ hi]
  exact h1 _ (by simp))
 refine ⟨(Builtin.zeroCells z.cells n).toList, fun ty => ?_⟩
 obtain ⟨m, rfl⟩ : ∃ m, n = m + 1 := ⟨n - 1, by omega⟩
 simp only [Nat.add_zero] at hs
 simp [Builtin.clear_, run_underlying ht, hv, hs]
def xq5 (P : Tk -> Bool) (l : List Tk) (j : Nat) : List Tk := (l.take j).filter fun r => !P r
theorem kkeptTo_hit {P : Tk -> Bool} {l : List Tk} {j : Nat} {r : Tk} (h : l[j]? = some r) (hp : P r = false) : xq5 P l (j + 1) = xq5 P l j ++ [r] := by
 simp [xq5, List.take_add_one, h, hp]
theorem kkeptTo_miss {P : Tk -> Bool} {l : List Tk} {j : Nat} {r : Tk} (h : l[j]? = some r) (hp : P r = true) : xq5 P l (j + 1) = xq5 P l j := by
 simp [xq5, List.take_add_one, h, hp]
theorem kkeptTo_all {P : Tk -> Bool} {l : List Tk} : xq5 P l l.length = l.filter fun r => !P r := by simp [xq5]
structure KMid (wr : World) (base g cap : Nat) (l : List Tk) (P : Tk -> Bool) (i j : Nat) : Prop where
 row : ∃ X, OwnT wr base 38 (.slice (some ⟨g, 0, none⟩) l.length cap) X /\ X.take i = xq5 P l j /\ X.drop j = l.drop j /\ X.length = l.length
 len : i = (xq5 P l j).length
 lt : i < j
 le : j <= l.length
variable {g cap i j : Nat} {P : Tk -> Bool} {wr : World} {r : Tk}
theorem KMid.cells (a : KMid wr base g cap l P i j) (hr : l[j]? = some r) : ∃ X, OwnT wr base 38 (.slice (some ⟨g, 0, none⟩) l.length cap) X /\ X[j]? = some r := by
 obtain ⟨X, h1, _, h3, _⟩ := a.row
 refine ⟨X, h1, ?_⟩
 have := congrArg (fun m => m[0]?) h3
 simp only [List.getElem?_drop, Nat.add_zero] at this
 rw [this, hr]
theorem KMid.spot (a : KMid wr base g cap l P i j) : ∃ X s, OwnT wr base 38 (.slice (some ⟨g, 0, none⟩) l.length cap) X /\ X[i]? = some s := by
 obtain ⟨X, h1, _, _, h4⟩ := a.row
 have := a.lt; have := a.le
 exact ⟨X, X[i]'(by omega), h1, List.getElem?_eq_getElem (by omega)⟩
theorem KMid.skip (a : KMid wr base g cap l P i j) (hr : l[j]? = some r) (hp : P r = true) (hk : Kept wr w' []) : KMid w' base g cap l P i (j + 1) := by
 obtain ⟨X, h1, h2, h3, h4⟩ := a.row
 have hj : j < l.length := (List.getElem?_eq_some_iff.1 hr).1
 exact ⟨⟨X, h1.kept hk (by simp), by rw [kkeptTo_miss hr hp]; exact h2, by rw [<- List.drop_drop, h3, List.drop_drop], h4⟩, by rw [kkeptTo_miss hr hp]; exact a.len, by have := a.lt; omega, hj⟩
theorem KMid.put (a : KMid wr base g cap l P i j) (hr : l[j]? = some r) (hp : P r = false) (hk : Kept wr w' []) :
 KMid ((((w'.setCell ⟨g, i * 4, none⟩ (.int .i64 r.n)).setCell ⟨g, i * 4 + 1, none⟩ (.int .i64 r.M)).setCell ⟨g, i * 4 + 2, none⟩ (.slice r.a r.l.length r.c)).setCell ⟨g, i * 4 + 3, none⟩ (.int .i64 r.t)) base g cap l P (i + 1) (j + 1) := by
 obtain ⟨X, h1, h2, h3, h4⟩ := a.row
 have hj : j < l.length := (List.getElem?_eq_some_iff.1 hr).1
 have hlt := a.lt
 refine ⟨⟨X.set i r, (h1.kept hk (by simp)).put i (by omega) r, ?_, ?_, by rw [List.length_set, h4]⟩, by rw [kkeptTo_hit hr hp, List.length_append, <- a.len]; rfl, by omega, hj⟩
 ·rw [kkeptTo_hit hr hp, <- h2, List.take_add_one, List.take_set_of_le (Nat.le_refl _), List.getElem?_set_self (by omega)]
  rfl
 ·rw [List.drop_set_of_lt (by omega), <- List.drop_drop, h3, List.drop_drop]
theorem KMid.done (a : KMid wr base g cap l P i l.length) (vs : List Value) :
 i = (l.filter fun r => !P r).length /\ OwnT (wr.setCells g (i * 4) vs) base 38 (.slice (some ⟨g, 0, none⟩) i cap) (l.filter fun r => !P r) := by
 obtain ⟨X, h1, h2, _, h4⟩ := a.row
 have hl := a.len
 have hlt := a.lt
 rw [kkeptTo_all] at h2 hl
 rcases h1.2 with ⟨h0, _⟩ | ⟨g', cap', cur, h0, hbg, hg, hnc, hcm, hcs, htk⟩
 ·cases h0
 simp only [Value.slice.injEq, Option.some.injEq, Addr.mk.injEq] at h0
 obtain ⟨⟨rfl, _⟩, hn, rfl⟩ := h0
 obtain ⟨cs', c1, c2, c3⟩ := ksetCells_at vs (i * 4) wr cur hg
 refine ⟨hl, by rw [yqm], .inr ⟨g, cap, cs', by rw [<- hl], hbg, c1, by omega, hcm, by rw [c2, hcs], ?_⟩⟩
 rw [<- hl, c3, <- h2]
 have e : (cur.toList.take (X.length * 4)).take (i * 4) = cur.toList.take (i * 4) := by rw [List.take_take]; congr 1; omega
 rw [<- e, htk]
 conv => lhs; rw [<- List.take_append_drop i X, tcs_append]
 exact List.take_left' (by rw [yqm, List.length_take]; omega)
theorem KMid.clear (a : KMid wr base g cap l P i l.length) :
 ∃ vs, ∀ ty, (Builtin.clear_ #[76] ty #[.slice (some ⟨g, i * 4, none⟩) (l.length - i) (cap - i)]).run Tryz.prog wr = .ok (.tuple #[]) (wr.setCells g (i * 4) vs) := by
 obtain ⟨X, h1, _, _, h4⟩ := a.row
 have hlt := a.lt
 rcases h1.2 with ⟨h0, _⟩ | ⟨g', cap', cur, h0, hbg, hg, hnc, hcm, hcs, htk⟩
 ·cases h0
 simp only [Value.slice.injEq, Option.some.injEq, Addr.mk.injEq] at h0
 obtain ⟨⟨rfl, _⟩, hn, rfl⟩ := h0
 exact krun_clear_cells wr _ 38 _ Tryz.underlying76 (fun w => Tryz.zeroValue38 w) (by
  intro v hv
  simp [Value.cells] at hv
  rcases hv with rfl | rfl | rfl | rfl <;> rfl) (by simp [Value.cells]) (by omega) hg (by simp [Value.cells]; omega)
theorem Fo.set4K {O : Nat -> Prop} {a w : World} {g : Nat} (h : Fo O a w) (hg : O g) (k : Nat) (u0 u1 u2 u3 : Value) :
 Fo O a ((((w.setCell ⟨g, k, none⟩ u0).setCell ⟨g, k + 1, none⟩ u1).setCell ⟨g, k + 2, none⟩ u2).setCell ⟨g, k + 3, none⟩ u3) :=
 (((h.setCell (p := ⟨g, k, none⟩) (.inl hg) u0).setCell (p := ⟨g, k + 1, none⟩) (.inl hg) u1).setCell (p := ⟨g, k + 2, none⟩) (.inl hg) u2).setCell (p := ⟨g, k + 3, none⟩) (.inl hg) u3
theorem kdeleteFunc_some {w : World} {base g cap : Nat} (l : List Tk) (ho : OwnT w base 38 (.slice (some ⟨g, 0, none⟩) l.length cap) l) (hlen : l.length < 1000000) (c : Nat) (lb : Array Value) (P : Tk -> Bool) (ec : ∀ args w, (callFunc c args).run Tryz.prog w = .ok (.enter c args) w) (hc : PaysK w (fun k => k = g) c lb P) :
 Calls Tryz.prog 147 #[.slice (some ⟨g, 0, none⟩) l.length cap, .func (.func c) #[] lb] w fun e w' => e = .returned (.slice (some ⟨g, 0, none⟩) (l.filter fun r => !P r).length cap) /\
  OwnT w' base 38 (.slice (some ⟨g, 0, none⟩) (l.filter fun r => !P r).length cap) (l.filter fun r => !P r) /\ Fo (fun k => k = g) w w' := by
 have HC := iH hc
 have HO := iH ho
 have ci := yqy _ ho hlen c lb P ec _ hc
 rcases ho.2 with ⟨h0, _⟩ | ⟨g', cap', cur, h0, hbg, hg, hnc, hcm, hcs, htk⟩
 ·cases h0
 simp only [Value.slice.injEq, Option.some.injEq, Addr.mk.injEq] at h0
 obtain ⟨⟨rfl, _⟩, _, rfl⟩ := h0
 cases hi : l.findIdx? P with
 | none =>
 have e1 : kidx P l = -1 := by rw [kidx, hi]
 rw [e1] at ci
 have e2 : (l.filter fun r => !P r) = l := by
  rw [List.filter_eq_self]
  intro r hr
  rw [List.findIdx?_eq_none_iff] at hi
  simp [hi r hr]
 rw [e2]
 clear hc ho hbg hg hnc hcm hcs htk e1 hi e2
 go_enter Tryz.func147, Tryz.ntmps147
 go_wp2_with (go_at_call 160; refine ci.mono ?_; rintro e w' ⟨rfl, k2⟩)
 go_ret
 exact ⟨rfl, HO.out.kept k2 (by simp), Fo.ofKept k2 _⟩
 | some k0 =>
  have e1 : kidx P l = k0 := by rw [kidx, hi]
  have hlt := kfind_lt hi
  rw [e1] at ci
  have hx1 : ((k0 : Int) == -1) = false := beq_eq_false_iff_ne.2 (by omega)
  have start : ∀ V, Kept w V [] -> KMid V base g cap l P k0 (k0 + 1) := by
   intro V hV
   rw [List.findIdx?_eq_some_iff_getElem] at hi
   obtain ⟨h1, h2, h3⟩ := hi
   have hk : xq5 P l k0 = l.take k0 := by
    rw [xq5, List.filter_eq_self]
    intro r hr
    obtain ⟨m, hm, e⟩ := List.mem_iff_getElem.1 hr
    rw [List.getElem_take] at e
    simp only [List.length_take] at hm
    have := h3 m (by omega)
    rw [e] at this
    simpa using this
   have hk1 : xq5 P l (k0 + 1) = l.take k0 := by rw [kkeptTo_miss (List.getElem?_eq_getElem h1) h2, hk]
   exact ⟨⟨l, ho.kept hV (by simp), by rw [hk1], rfl, rfl⟩, by rw [hk1]; simp; omega, by omega, by omega⟩
  have ST := iH start
  have HL : RowKit.Hid (l.length <= cap /\ cap <= maxLen /\ base <= g) := iH ⟨hnc, hcm, hbg⟩
  clear hc ho hbg hg hnc hcm hcs htk e1 hi start
  go_enter Tryz.func147, Tryz.ntmps147
  go_wp2_with (go_at_call 160; refine ci.mono ?_; rintro e w1 ⟨rfl, k1⟩)
  go_loopw [5, 6, 7] (fun s5 s6 _ wr => ∃ i j : Nat, s5 = .int .i64 i /\ s6 = .int .i64 j /\ KMid wr base g cap l P i j /\ Fo (fun k => k = g) w wr) (fun _ s6 _ _ => l.length - (intOf s6).toNat)
  case atStart => exact ⟨k0, k0 + 1, rfl, by go_num, ST.out _ k1, Fo.ofKept k1 _⟩
  case round =>
  obtain ⟨i, j, rfl, rfl, m, fo⟩ := hrel
  have M := iH m; have FO := iH fo
  have hle := m.le
  have hij := m.lt
  clear m fo
  by_cases hj : j < l.length
  ·obtain ⟨r, hr⟩ : ∃ r, l[j]? = some r := ⟨_, List.getElem?_eq_getElem hj⟩
   obtain ⟨X, hX, hXr⟩ := M.out.cells hr
   obtain ⟨c0, c1, c2, c3⟩ := hX.four hXr
   have HR := iH hr
   have x1 : (j : Int) < (l.length : Int) := by omega
   have x2 : (i : Int) < (l.length : Int) := by omega
   have call := HC.out r
   obtain ⟨q, hq⟩ : ∃ q, P r = q := ⟨_, rfl⟩
   rw [hq] at call
   have HQ := iH hq
   have CALL := iH call
   clear hr hq call hX hXr X
   obtain ⟨b0, b1, b2, b3, b4, b5⟩ := r
   simp only [Tk.cs, Tk.op] at c0 c1 c2 c3 CALL
   go_wp2_with fail
   refine (CALL.out _ (FO.out.alloc _)).mono ?_
   rintro e w2 ⟨rfl, k2⟩
   have bb := k2.heap (by simp) (heap_alloc_new wr (.cells #[.int .i64 b0, .int .i64 b1, .slice b2 b4.length b3, .int .i64 b5] 38))
   have K2 := iH (((Kept.refl wr []).alloc (.cells #[.int .i64 b0, .int .i64 b1, .slice b2 b4.length b3, .int .i64 b5] 38)).trans k2 (by simp))
   obtain ⟨y0, y1, y2, y3⟩ := xqc bb
   obtain ⟨X, s, hX, hXs⟩ := M.out.spot
   obtain ⟨z0, z1, z2, z3⟩ := (hX.kept K2.out (by simp)).four hXs
   obtain ⟨f0, f1, f2, f3⟩ := (hX.kept K2.out (by simp)).fourF hXs
   clear k2 bb c0 c1 c2 c3 hX hXs X
   cases q
   ·go_wp2
    go_roundw
    case rel =>
     have m2 := KMid.put (w' := w2) M.out HR.out HQ.out K2.out
     have f2 := (FO.out.oneK K2.out).set4K (g := g) rfl (i * 4) (.int .i64 b0) (.int .i64 b1) (.slice b2 b4.length b3) (.int .i64 b5)
     exact ⟨i + 1, j + 1, by go_num, by go_num, m2, f2⟩
    case measure => simp [intOf]; omega
   go_wp2
   go_roundw
   case rel => exact ⟨i, j + 1, rfl, by go_num, M.out.skip HR.out HQ.out K2.out, FO.out.oneK K2.out⟩
   case measure => simp [intOf]; omega
  obtain rfl : j = l.length := by omega
  have x1 : ¬ (l.length : Int) < (l.length : Int) := by omega
  have x2 : (i : Int) <= (l.length : Int) := by omega
  have x3 : (i : Int) <= (cap : Int) := by have := HL.out.1; omega
  have x4 : (l.length : Int) <= (cap : Int) := by have := HL.out.1; omega
  have x5 : i < cap := by have := HL.out.1; omega
  obtain ⟨vs, hcl⟩ := M.out.clear
  go_wp2
  go_ret
  obtain ⟨e1, e2⟩ := M.out.done vs
  rw [<- e1]
  exact ⟨rfl, e2, Fo.setCellsK_g7 (O := fun k => k = g) rfl vs (i * 4) _ _ FO.out⟩
theorem kdeleteFunc_any {w : World} {base : Nat} {v : Value} {l : List Tk} (ho : OwnT w base 38 v l) (hlen : l.length < 1000000) (c : Nat) (lb : Array Value) (P : Tk -> Bool) (ec : ∀ args w, (callFunc c args).run Tryz.prog w = .ok (.enter c args) w) (hc : PaysK w (fun k => v.ownBlock = some k) c lb P) :
 Calls Tryz.prog 147 #[v, .func (.func c) #[] lb] w fun e w' => ∃ v', e = .returned v' /\ OwnT w' base 38 v' (l.filter fun r => !P r) /\ (∀ k, v'.ownBlock = some k -> v.ownBlock = some k) /\ Fo (fun k => v.ownBlock = some k) w w' := by
 rcases ho.2 with ⟨rfl, h0⟩ | ⟨g, cap, cur, rfl, hbg, hg, hnc, hcm, hcs, htk⟩
 ·obtain rfl : l = [] := List.eq_nil_of_length_eq_zero h0
  have ci := yqy _ ho hlen c lb P ec _ hc
  have e1 : kidx P [] = -1 := rfl
  rw [e1] at ci
  have HO := iH ho
  clear ho hc
  go_enter Tryz.func147, Tryz.ntmps147
  go_wp2_with (go_at_call 160; refine ci.mono ?_; rintro e w' ⟨rfl, k2⟩)
  go_ret
  exact ⟨_, rfl, HO.out.kept k2 (by simp [Value.ownBlock]), fun k hk => hk, Fo.ofKept k2 _⟩
 ·have e : (fun k => (Value.slice (some ⟨g, 0, none⟩) l.length cap).ownBlock = some k) = (fun k => k = g) := by
   funext k
   simp only [Value.ownBlock, Option.some.injEq]
   exact propext ⟨fun h => h.symm, fun h => h.symm⟩
  rw [e] at hc ⊢
  refine (kdeleteFunc_some l ho hlen c lb P ec hc).mono ?_
  rintro r w' ⟨rfl, h1, h2⟩
  exact ⟨_, rfl, h1, fun k hk => hk, h2⟩
def belK (b : Int) (x : Tk) : Bool := decide (x.n < b)
theorem tktrim_fn (e : Tk) (b : Int) (xb : Nat) (W : World) (hx : W.cell? ⟨xb, 0, none⟩ = some (.int .i64 b)) :
 Calls Tryz.prog 148 #[.agg e.cs, .pointer (some ⟨xb, 0, none⟩)] W fun r w' => r = .returned (.bool (belK b e)) /\ Kept W w' [] := by
 have hy : (W.alloc (.cells e.cs 38)).cell? ⟨xb, 0, none⟩ = some (.int .i64 b) := ((Kept.refl W []).alloc _).cell (by simp) hx
 obtain ⟨b0, b1, b2, b3, b4, b5⟩ := e
 unfold belK
 simp only [Tk.cs] at *
 go_enter Tryz.func148, Tryz.ntmps148
 go_wp2
 go_ret
 exact ⟨rfl, (Kept.refl W []).alloc _⟩
variable {B h : Nat} {V : Value} {xs : List Tk}
theorem Tc.off {T : TypeId} {r : List Value} (a : Tc T r w B h V xs) {O : Nat -> Prop} (hf : Fo O w w') (hd : ∀ k, xqx h V k -> ¬ O k) (hn : ∀ x ∈ xs, ∀ b, x.op.ownBlock = some b -> ¬ O b) : Tc T r w' B h V xs :=
 ⟨hf.heap (hd h (.inl rfl)) a.hh, a.bh, a.hT, a.own.fo hf (fun g hg => hd g (.inr hg)), fun x hx => (a.rd x hx).off hf (hn x hx)⟩
theorem trimK (b : Int) : (xs.filter fun r => !belK (min b (xqk (xs.map Tk.pl))) r).map Tk.pl = xqM (xs.map Tk.pl) b := by
 unfold xqM
 rw [List.filter_map]
 rfl
theorem tktrim_any (a : Tc tkT [] w B h V xs) (hl : xs.length <= 1000) (b : Int) :
 Calls Tryz.prog 91 #[.pointer (some ⟨h, 0, none⟩), .int .i64 b] w fun e w' => e = .returned (.int .i64 ((xs.length : Int) - ((xqM (xs.map Tk.pl) b).length : Int))) /\
  ∃ V' xs', Tc tkT [] w' B h V' xs' /\ xs'.map Tk.pl = xqM (xs.map Tk.pl) b /\ Stp (xqx h V) (xqx h V') w w' := by
 obtain ⟨z, hz⟩ : ∃ z, z = w.heap.size := ⟨_, rfl⟩
 obtain ⟨W1, hW1⟩ : ∃ W1, W1 = w.alloc (.cells #[.int .i64 b] 2) := ⟨_, rfl⟩
 have k1 : Kept w W1 [] := by rw [hW1]; exact (Kept.refl w []).alloc _
 have g0 : W1.heap[z]? = some (.cells #[.int .i64 b] 2 (0, 0)) := by rw [hW1, hz]; exact heap_alloc_new w _
 have a1 := a.keep k1
 have HL := iH (yqc a1)
 have NF : RowKit.Hid (¬ xqx h V z) := iH (fun hk => by have := (a.lt _ hk).2; omega)
 have HLT : RowKit.Hid (∀ x ∈ xs, ∀ b, x.op.ownBlock = some b -> b < z) := iH (fun x hx b hb => by have := (a.rd x hx).lt hb; omega)
 have K1 := iH k1; have HW1 := iH hW1; have G0 := iH g0; have A1 := iH a1; have HZ := iH hz
 by_cases h0 : xs = []
 ·subst h0
  clear k1 hW1 g0 a1 a hz
  go_enter Tryz.func91, Tryz.ntmps91
  go_wp2_with fail
  rw [<- HW1.out]
  refine HL.out.mono ?_
  rintro e w2 ⟨rfl, rfl⟩
  go_wp2
  go_ret
  exact ⟨rfl, V, [], A1.out, rfl, Stp.ofKept K1.out⟩
 ·have hpos : 0 < xs.length := List.length_pos_iff.2 h0
  have x0 : ((xs.length : Int) == 0) = false := by rw [beq_eq_false_iff_ne]; omega
  obtain ⟨L, hL⟩ : ∃ L, L = xqk (xs.map Tk.pl) := ⟨_, rfl⟩
  obtain ⟨mn, hmn⟩ : ∃ mn, mn = min b L := ⟨_, rfl⟩
  have hmn2 : (if L < b then L else b) = mn := by rw [hmn]; by_cases h1 : L < b <;> simp [h1] <;> omega
  have LA : RowKit.Hid (∀ U, Kept W1 U [] -> Calls Tryz.prog 41 #[.pointer (some ⟨h, 0, none⟩)] U fun e w' => e = .returned (.int .i64 L) /\ Kept U w' []) := iH (fun U hU => by rw [hL]; exact xq2 (a1.keep hU) (by omega))
  have HL2 := iH hL; have HM := iH hmn; have HM2 := iH hmn2
  obtain ⟨u, cp, hV⟩ := a1.shape
  subst hV
  have S0 : RowKit.Hid (W1.drew.heap[z]? = some (.cells #[.int .i64 b] 2 (0, 0))) := iH g0
  clear k1 hW1 g0 a1 a h0 hL hmn hz
  go_enter Tryz.func91, Tryz.ntmps91
  go_wp2_with fail
  rw [<- HW1.out, <- HZ.out]
  refine HL.out.mono ?_
  rintro e w2 ⟨rfl, rfl⟩
  go_upto_region 4 with fail
  go_cut [] (fun wx => ∃ w3, wx = w3.setCell ⟨z, 0, none⟩ (.int .i64 mn) /\ RowKit.Hid (Kept w2 w3 []))
  case first =>
   refine wp_region_held_drew (S := fun U => True) (by kernel_rfl) trivial (fun hJ => ?_)
   refine wx 1 11 (.pointer (some ⟨h, 0, none⟩)) rfl hJ ?_
   refine wpAnyH_ready (rs := [0, 2]) (by kernel_rfl) (by simp) ?_
   refine AllReadyH.cons (o := _) rfl (fun K hK => ?wayA) (AllReadyH.cons (o := _) rfl (fun K hK => ?wayB) AllReadyH.nil)
   case wayA =>
    have c0 : w2.drew.cell? ⟨z, 0, none⟩ = some (.int .i64 b) := by rw [cell_of_row _ _ _ _ _ _ S0.out]; rfl
    go_simp
    clear c0
    refine hK.out _ _ trivial (fun hJ => ?_)
    clear hK K
    refine wr1 2 rfl (fun K hK => ?_)
    go_simp
    go_at_call 41
    refine (LA.out _ (Kept.refl w2 []).drew).mono ?_
    rintro e w3 ⟨rfl, k3⟩
    have K3 := iH ((Kept.refl w2 []).drew.trans k3 (by simp))
    have S3 := iH (k3.heap (by simp) S0.out)
    clear k3
    go_wp2_with fail
    refine hK.out _ _ trivial (fun hJ => ?_)
    clear hK K
    refine wr1 3 rfl (fun K hK => ?_)
    have m0 := HM2.out
    go_simp
    clear m0
    refine hK.out _ _ trivial (fun hJ => ?_)
    clear hK K
    refine wr1 4 rfl (fun K hK => ?_)
    have c0 : w3.cell? ⟨z, 0, none⟩ = some (.int .i64 b) := by rw [cell_of_row _ _ _ _ _ _ S3.out]; rfl
    have f0 : w3.frozen? ⟨z, 0, none⟩ = false := frozen_of_row _ _ _ _ _ S3.out
    go_simp
    clear c0 f0
    refine hK.out _ _ trivial (fun hJ => ?_)
    clear hK K
    refine wd ?_
    go_wp2_with fail
    go_meet
    exact ⟨w3, by first | rfl | rw [HM.out], K3.out⟩
   case wayB =>
   go_simp
   go_at_call 41
   refine (LA.out _ (Kept.refl w2 []).drew).mono ?_
   rintro e w3 ⟨rfl, k3⟩
   have K3 := iH ((Kept.refl w2 []).drew.trans k3 (by simp))
   have S3 := iH (k3.heap (by simp) S0.out)
   clear k3
   go_wp2_with fail
   refine hK.out _ _ trivial (fun hJ => ?_)
   clear hK K
   refine wr1 0 rfl (fun K hK => ?_)
   have c0 : w3.cell? ⟨z, 0, none⟩ = some (.int .i64 b) := by rw [cell_of_row _ _ _ _ _ _ S3.out]; rfl
   go_simp
   clear c0
   refine hK.out _ _ trivial (fun hJ => ?_)
   clear hK K
   refine wr1 3 rfl (fun K hK => ?_)
   have m0 := HM2.out
   go_simp
   clear m0
   refine hK.out _ _ trivial (fun hJ => ?_)
   clear hK K
   refine wr1 4 rfl (fun K hK => ?_)
   have c0 : w3.cell? ⟨z, 0, none⟩ = some (.int .i64 b) := by rw [cell_of_row _ _ _ _ _ _ S3.out]; rfl
   have f0 : w3.frozen? ⟨z, 0, none⟩ = false := frozen_of_row _ _ _ _ _ S3.out
   go_simp
   clear c0 f0
   refine hK.out _ _ trivial (fun hJ => ?_)
   clear hK K
   refine wd ?_
   go_wp2_with fail
   go_meet
   exact ⟨w3, by first | rfl | rw [HM.out], K3.out⟩
  case rest =>
  obtain ⟨w3, hwx, K3⟩ := hcut
  have k4 : Kept w wc [] := by rw [hwx]; exact (K1.out.trans K3.out (by simp)).setCell (p := ⟨z, 0, none⟩) (.inr (by have := HZ.out; show w.heap.size <= z; omega)) _
  have fz : Fo (fun k => k = z) w3 wc := by rw [hwx]; exact Fo.setCell (O := fun k => k = z) (Fo.refl _ w3) (p := ⟨z, 0, none⟩) (.inl rfl) _
  have g4 : wc.heap[z]? = some (.cells #[.int .i64 mn] 2 (0, 0)) := by rw [hwx, xqb (K3.out.heap (by simp) G0.out)]; rfl
  have a4 := (A1.out.keep K3.out).off fz (fun k hk e => NF.out (e ▸ hk)) (fun x hx b hb e => by have := HLT.out x hx b hb; omega)
  have n4 : NoI wc (fun k => (Value.slice u xs.length cp).ownBlock = some k) := fun k hk => a4.noI k (.inr hk)
  have hc : PaysK wc (fun k => (Value.slice u xs.length cp).ownBlock = some k) 148 #[.pointer (some ⟨z, 0, none⟩)] (belK mn) := fun r U hU => tktrim_fn r mn z U (by rw [cell_of_row _ _ _ _ _ _ (hU.heap (fun e => NF.out (.inr e)) g4)]; rfl)
  have DF := iH (kdeleteFunc_any a4.own (by omega) _ #[.pointer (some ⟨z, 0, none⟩)] (belK mn) (fun args w => by kernel_rfl) hc)
  have c4 := a4.cell.1
  obtain ⟨ys, hys⟩ : ∃ ys, ys = xs.filter fun r => !belK mn r := ⟨_, rfl⟩
  have HYS : RowKit.Hid (ys.map Tk.pl = xqM (xs.map Tk.pl) b) := iH (by rw [hys, HM.out, HL2.out, trimK])
  have hsub : ∀ x ∈ ys, x ∈ xs := fun x hx => by rw [hys] at hx; exact (List.mem_filter.1 hx).1
  have hlen : ys.length <= xs.length := by rw [hys]; exact List.length_filter_le _ _
  have hlt : (xqM (xs.map Tk.pl) b).length = ys.length := by rw [<- HYS.out, List.length_map]
  have HLN := iH hlt
  rw [<- hys] at DF
  have A4 := iH a4; have K4 := iH k4; have N4 := iH n4; have HS := iH hsub
  obtain ⟨wf, hwf⟩ : ∃ wf, wf = wc := ⟨_, rfl⟩
  subst hwf
  clear hwx k4 fz g4 a4 n4 hc hys hlt hsub
  go_wp2_with fail
  refine DF.out.mono ?_
  rintro e w5 ⟨v', rfl, ho, hv, hf⟩
  obtain ⟨⟨c5, f5⟩, a5, s5⟩ := A4.out.lay hf ho (fun x hx => (A4.out.rd x (HS.out x hx)).fo hf N4.out) (fun k hk => .inl (hv k hk))
  obtain ⟨u5, cp5, hv5⟩ := ho.shape
  subst hv5
  have A5 := iH a5; have S5 := iH s5
  have HL5 := iH (yqc a5)
  have m5 : wrap64 ((xs.length : Int) - (ys.length : Int)) = (xs.length : Int) - (ys.length : Int) := by simp only [wrap64]; omega
  clear ho hv hf a5 s5
  go_wp2_with fail
  obtain ⟨w6, hw6⟩ : ∃ w6, w6 = w5.setCell ⟨h, 0, none⟩ (.slice u5 ys.length cp5) := ⟨_, rfl⟩
  rw [<- hw6] at HL5 A5 S5 ⊢
  clear hw6 c5 f5
  refine HL5.out.mono ?_
  rintro e w7 ⟨rfl, rfl⟩
  go_wp2
  go_ret
  exact ⟨retn (by rw [HLN.out]), _, ys, A5.out, HYS.out, S5.out.after K4.out⟩
structure To (T : TypeId) (F : Nat -> Option Value) (u : Value) (w : World) (B h oo : Nat) (V : Value) (xs : List Tk) : Prop where
 hr : ∃ R : List Value, w.heap[h]? = some (.cells R.toArray T (0, 0)) /\ R[oo]? = some V /\ R[oo + 1]? = some u /\ ∀ j, j ≠ oo -> j ≠ oo + 1 -> R[j]? = F j
 bh : B <= h
 hT : T ≠ 38 /\ T ≠ 2
 own : OwnT w B 38 V xs
 rd : ∀ x ∈ xs, RdT w x.op x.l
variable {T : TypeId} {F : Nat -> Option Value} {u : Value} {w w' : World} {B h oo : Nat} {V : Value} {xs : List Tk}
theorem To.tagH (a : To T F u w B h oo V xs) : ∃ cs, w.heap[h]? = some (.cells cs T (0, 0)) := by
 obtain ⟨R, h1, _⟩ := a.hr
 exact ⟨_, h1⟩
theorem To.lth (a : To T F u w B h oo V xs) : h < w.heap.size := by
 obtain ⟨cs, h1⟩ := a.tagH
 exact xqh h1
theorem To.cell (a : To T F u w B h oo V xs) : w.cell? ⟨h, oo, none⟩ = some V /\ w.frozen? ⟨h, oo, none⟩ = false := by
 obtain ⟨R, h1, h2, _⟩ := a.hr
 exact ⟨by rw [cell_of_row _ _ _ _ _ _ h1]; simpa using h2, frozen_of_row _ _ _ _ _ h1⟩
theorem To.cell1 (a : To T F u w B h oo V xs) : w.cell? ⟨h, oo + 1, none⟩ = some u /\ w.frozen? ⟨h, oo + 1, none⟩ = false := by
 obtain ⟨R, h1, _, h2, _⟩ := a.hr
 exact ⟨by rw [cell_of_row _ _ _ _ _ _ h1]; simpa using h2, frozen_of_row _ _ _ _ _ h1⟩
theorem To.lt (a : To T F u w B h oo V xs) : ∀ k, xqx h V k -> B <= k /\ k < w.heap.size := by
 rintro k (rfl | hk)
 ·exact ⟨a.bh, a.lth⟩
 exact a.own.lt k hk
theorem To.size (a : To T F u w B h oo V xs) : B <= w.heap.size := by have := a.lth; have := a.bh; omega
theorem To.shape (a : To T F u w B h oo V xs) : ∃ u c, V = .slice u xs.length c := a.own.shape
theorem To.noI (a : To T F u w B h oo V xs) : NoI w (xqx h V) := by
 rintro k (rfl | hk) cs fz hg
 ·obtain ⟨cs2, h1⟩ := a.tagH
  rw [h1] at hg
  simp only [Option.some.injEq, Obj.cells.injEq] at hg
  exact a.hT.2 hg.2.1
 obtain ⟨cur, hc⟩ := a.own.tag hk
 rw [hc] at hg
 simp only [Option.some.injEq, Obj.cells.injEq] at hg
 exact absurd hg.2.1 (by decide)
theorem To.apart (a : To T F u w B h oo V xs) : V.ownBlock ≠ some h := by
 intro hk
 obtain ⟨cur, hc⟩ := a.own.tag hk
 obtain ⟨cs2, h1⟩ := a.tagH
 rw [h1] at hc
 simp only [Option.some.injEq, Obj.cells.injEq] at hc
 exact a.hT.1 hc.2.1
theorem To.fo (a : To T F u w B h oo V xs) {O : Nat -> Prop} (hf : Fo O w w') (hd : ∀ k, xqx h V k -> ¬ O k) (hn : NoI w O) : To T F u w' B h oo V xs := by
 obtain ⟨R, h1, h2⟩ := a.hr
 exact ⟨⟨R, hf.heap (hd h (.inl rfl)) h1, h2⟩, a.bh, a.hT, a.own.fo hf (fun g hg => hd g (.inr hg)), fun x hx => (a.rd x hx).fo hf hn⟩
theorem To.keep (a : To T F u w B h oo V xs) (hk : Kept w w' []) : To T F u w' B h oo V xs := a.fo (Fo.ofKept hk (fun _ => False)) (fun _ _ h => h) (NoI.none w)
theorem To.lay (a : To T F u w B h oo V xs) {w1 : World} (f : Fo (fun k => V.ownBlock = some k) w w1) {v : Value} {m : List Tk} (x : OwnT w1 B 38 v m) (rd : ∀ x ∈ m, RdT w1 x.op x.l)
 (hv : ∀ k, v.ownBlock = some k -> V.ownBlock = some k ∨ w.heap.size <= k) :
 (w1.cell? ⟨h, oo, none⟩ = some V /\ w1.frozen? ⟨h, oo, none⟩ = false) /\ To T F u (w1.setCell ⟨h, oo, none⟩ v) B h oo v m /\ Stp (xqx h V) (xqx h v) w (w1.setCell ⟨h, oo, none⟩ v) := by
 obtain ⟨R, r0, r1, r2, r3⟩ := a.hr
 have hh : w1.heap[h]? = _ := f.heap a.apart r0
 have f2 : Fo (xqx h V) w w1 := f.mono (fun k hk => .inr hk)
 have f3 : Fo (fun k => k = h) w1 (w1.setCell ⟨h, oo, none⟩ v) := Fo.setCell (O := fun k => k = h) (Fo.refl _ w1) (p := ⟨h, oo, none⟩) (.inl rfl) v
 have hvh : v.ownBlock ≠ some h := by
  intro hk
  rcases hv h hk with h1 | h1
  ·exact a.apart h1
  have := a.lth; omega
 have n3 : NoI w1 (fun k => k = h) := by
  rintro k rfl cs fz hg
  rw [hh] at hg
  simp only [Option.some.injEq, Obj.cells.injEq] at hg
  exact a.hT.2 hg.2.1
 refine ⟨⟨by rw [cell_of_row _ _ _ _ _ _ hh]; simpa using r1, frozen_of_row _ _ _ _ _ hh⟩, ⟨⟨R.set oo v, ?_, getElem?_set_here r1 v, by rw [List.getElem?_set_ne (by omega)]; exact r2, fun j j1 j2 => by rw [List.getElem?_set_ne (fun e => j1 e.symm)]; exact r3 j j1 j2⟩, a.bh, a.hT, x.fo f3 (fun g hg e => by subst e; exact hvh hg), fun y hy => (rd y hy).fo f3 n3⟩, f2.setCell (.inl (.inl rfl)) v, ?_⟩
 ·rw [xqb hh, List.setIfInBounds_toArray]
 ·rintro k (rfl | hk)
  ·exact .inl (.inl rfl)
  exact (hv k hk).imp (fun h => .inr h) id
theorem To.set1 (a : To T F u w B h oo V xs) (u' : Value) : To T F u' (w.setCell ⟨h, oo + 1, none⟩ u') B h oo V xs /\ Stp (xqx h V) (xqx h V) w (w.setCell ⟨h, oo + 1, none⟩ u') := by
 obtain ⟨R, r0, r1, r2, r3⟩ := a.hr
 have f3 : Fo (fun k => k = h) w (w.setCell ⟨h, oo + 1, none⟩ u') := Fo.setCell (O := fun k => k = h) (Fo.refl _ w) (p := ⟨h, oo + 1, none⟩) (.inl rfl) u'
 have n3 : NoI w (fun k => k = h) := fun k e => a.noI k (.inl e)
 refine ⟨⟨⟨R.set (oo + 1) u', ?_, by rw [List.getElem?_set_ne (by omega)]; exact r1, getElem?_set_here r2 u', fun j j1 j2 => by rw [List.getElem?_set_ne (fun e => j2 e.symm)]; exact r3 j j1 j2⟩, a.bh, a.hT, a.own.fo f3 (fun g hg e => by subst e; exact a.apart hg), fun y hy => (a.rd y hy).fo f3 n3⟩, (Fo.refl _ w).setCell (.inl (.inl rfl)) u', fun k hk => .inl hk⟩
 rw [xqb r0, List.setIfInBounds_toArray]
theorem To.last {ys : List Tk} {y : Tk} (a : To T F u w B h oo V (ys ++ [y])) : ∃ g c, V = .slice (some ⟨g, 0, none⟩) (ys.length + 1) c /\
 w.cell? ⟨g, ys.length * 4, none⟩ = some (.int .i64 y.n) /\ w.cell? ⟨g, ys.length * 4 + 1, none⟩ = some (.int .i64 y.M) /\ w.cell? ⟨g, ys.length * 4 + 2, none⟩ = some y.op /\ w.cell? ⟨g, ys.length * 4 + 3, none⟩ = some (.int .i64 y.t) /\ RdT w y.op y.l := by
 obtain ⟨q, c, e⟩ := a.shape
 have o := a.own
 rw [e] at o
 obtain ⟨g, rfl, hc⟩ := o.at ys.length (by simp)
 have hy : (ys ++ [y])[ys.length]'(by simp) = y := by simp
 rw [hy] at hc
 refine ⟨g, c, by rw [e]; simp, (hc 0 (by omega)).1, (hc 1 (by omega)).1, (hc 2 (by omega)).1, (hc 3 (by omega)).1, a.rd y (by simp)⟩
variable {T : TypeId} {F : Nat -> Option Value} {w w' : World} {B h oo : Nat} {V : Value} {xs : List Tk}
def RGetPost (w : World) (o : Option Pt) (e : Ending) (w' : World) : Prop :=
 ∃ (y : Tk), e = .returned (.tuple #[.agg y.cs, .bool o.isSome]) /\ y.pl = o.getD ⟨0, 0, [], 0⟩ /\ RdT w' y.op y.l /\ Kept w w' []
theorem find_at {Q : Pt -> Bool} {k : Nat} {x : Tk} (hx : xs[k]? = some x) (hq : Q x.pl = true) (hb : ∀ j s, j < k -> xs[j]? = some s -> Q s.pl = false) : (xs.map Tk.pl).find? Q = some x.pl := by
 rw [List.find?_map]
 have h1 : xs.findIdx? (Q ∘ Tk.pl) = some k := kidx_hit (P := Q ∘ Tk.pl) hx hq hb
 rw [find_idx.1 k h1, hx]
 rfl
theorem find_no {Q : Pt -> Bool} (hb : ∀ j s, j < xs.length -> xs[j]? = some s -> Q s.pl = false) : (xs.map Tk.pl).find? Q = none := by
 rw [List.find?_map]
 have h1 : xs.findIdx? (Q ∘ Tk.pl) = none := kidx_miss (P := Q ∘ Tk.pl) hb
 rw [find_idx.2 h1]
 rfl
theorem rkget_any {u : Value} (a : To T F u w B h oo V xs) (hl : xs.length <= 1000) (n : Int) :
 Calls Tryz.prog 33 #[.pointer (some ⟨h, oo, none⟩), .int .i64 n] w (RGetPost w (getS (xs.map Tk.pl) n)) := by
 obtain ⟨W1, hW1⟩ : ∃ W1, W1 = w.alloc zT4 := ⟨_, rfl⟩
 have k1 : Kept w W1 [] := by rw [hW1]; exact (Kept.refl w []).alloc _
 have g1 : W1.heap[w.heap.size]? = some zT4 := by rw [hW1]; exact heap_alloc_new _ _
 have a1 := a.keep k1
 obtain ⟨uu, cp, hV⟩ := a1.shape
 subst hV
 have cv := a1.cell.1
 obtain ⟨c0, c1, c2, c3⟩ := xqc g1
 obtain ⟨f0, f1, f2, f3⟩ := xqf g1
 have K1 := iH k1; have HW1 := iH hW1; have G1 := iH g1; have A1 := iH a1
 clear k1 hW1 g1 a1 a
 go_enter Tryz.func33, Tryz.ntmps33
 go_upto_region 1 with fail
 rw [<- HW1.out]
 go_wp2
 go_loop [6] (fun t => ∃ k : Nat, t = .int .i64 k /\ k <= xs.length /\ RowKit.Hid (∀ j s, j < k -> xs[j]? = some s -> (fun p : Pt => p.n == n) s.pl = false)) (fun t => xs.length - (intOf t).toNat)
 case atStart => exact ⟨0, rfl, Nat.zero_le _, fun j s hj => absurd hj (Nat.not_lt_zero _)⟩
 case round =>
  obtain ⟨k, rfl, hk, HX⟩ := hrel
  by_cases hlt : k < xs.length
  ·obtain ⟨x, hx⟩ : ∃ r, xs[k]? = some r := ⟨_, List.getElem?_eq_getElem hlt⟩
   have o := A1.out.own
   obtain ⟨g, hg, hh⟩ := o.at k hlt
   clear hh
   subst hg
   obtain ⟨q0, q1, q2, q3⟩ := o.four hx
   have hxr := A1.out.rd x (List.mem_of_getElem? hx)
   have HXX := iH hx; have HXR := iH hxr
   have x1 : (k : Int) < (xs.length : Int) := by omega
   obtain ⟨b, hb⟩ : ∃ b, (fun p : Pt => p.n == n) x.pl = b := ⟨_, rfl⟩
   have HQ := iH hb
   clear hx o hxr hb
   cases b with
   | true =>
   have HR : RowKit.Hid (getS (xs.map Tk.pl) n = some x.pl) := iH (find_at HXX.out HQ.out HX.out)
   obtain ⟨b0, b1, b2, b3, b4, b5⟩ := x
   simp only [Tk.op] at *
   have x2 : (b0 == n) = true := HQ.out
   rw [HR.out]
   go_wp2
   refine bodyPost_ret (v := .tuple #[.agg #[.int .i64 b0, .int .i64 b1, .slice b2 b4.length b3, .int .i64 b5], .bool true]) (by simp [results, Tryz.results33, go_sem, *]) rfl ?_
   have f7 : Fo (fun k => k = w.heap.size) W1 ((((W1.setCell ⟨w.heap.size, 0, none⟩ (.int .i64 b0)).setCell ⟨w.heap.size, 1, none⟩ (.int .i64 b1)).setCell ⟨w.heap.size, 2, none⟩ (.slice b2 b4.length b3)).setCell ⟨w.heap.size, 3, none⟩ (.int .i64 b5)) := Fo.four (O := fun k => k = w.heap.size) (Fo.refl _ W1) (g := w.heap.size) (.inl rfl) _ _ _ _
   have n7 : NoI W1 (fun k => k = w.heap.size) := by
    rintro k rfl cs fz hg
    rw [G1.out] at hg
    simp only [zT4, Option.some.injEq, Obj.cells.injEq] at hg
    exact absurd hg.2.1 (by decide)
   exact ⟨⟨b0, b1, b2, b3, b4, b5⟩, rfl, rfl, HXR.out.fo f7 n7, K1.out.four (g := w.heap.size) (.inr (by omega)) _ _ _ _⟩
   | false =>
   obtain ⟨b0, b1, b2, b3, b4, b5⟩ := x
   simp only [Tk.op] at *
   have x2 : (b0 == n) = false := HQ.out
   go_wp2
   go_round
   case rel =>
    refine ⟨k + 1, by go_num, by omega, iH fun j s hj hs => ?_⟩
    by_cases e : j = k
    ·subst e
     rw [HXX.out] at hs
     cases hs
     exact HQ.out
    exact HX.out j s (by omega) hs
   case measure => simp [intOf]; omega
  have HR : RowKit.Hid (getS (xs.map Tk.pl) n = none) := iH (find_no (fun j s hj => HX.out j s (by omega)))
  have x1 : ¬ (k : Int) < (xs.length : Int) := by omega
  rw [HR.out]
  go_wp2
  refine bodyPost_ret (v := .tuple #[.agg #[.int .i64 0, .int .i64 0, .slice none 0 0, .int .i64 0], .bool false]) (by simp [results, Tryz.results33, go_sem, *]) rfl ?_
  exact ⟨Tk.zero, by first | rfl | (rw [HR.out]; rfl), by first | rfl | (rw [HR.out]; rfl), RdT.nil _, K1.out.four (g := w.heap.size) (.inr (by omega)) _ _ _ _⟩
theorem rkaft_any {u : Value} (a : To T F u w B h oo V xs) (hl : xs.length <= 1000) (n : Int) :
 Calls Tryz.prog 168 #[.pointer (some ⟨h, oo, none⟩), .int .i64 n] w (RGetPost w (aftS (xs.map Tk.pl) n)) := by
 obtain ⟨W1, hW1⟩ : ∃ W1, W1 = w.alloc zT4 := ⟨_, rfl⟩
 have k1 : Kept w W1 [] := by rw [hW1]; exact (Kept.refl w []).alloc _
 have g1 : W1.heap[w.heap.size]? = some zT4 := by rw [hW1]; exact heap_alloc_new _ _
 have a1 := a.keep k1
 obtain ⟨uu, cp, hV⟩ := a1.shape
 subst hV
 have cv := a1.cell.1
 obtain ⟨c0, c1, c2, c3⟩ := xqc g1
 obtain ⟨f0, f1, f2, f3⟩ := xqf g1
 have K1 := iH k1; have HW1 := iH hW1; have G1 := iH g1; have A1 := iH a1
 clear k1 hW1 g1 a1 a
 go_enter Tryz.func168, Tryz.ntmps168
 go_upto_region 1 with fail
 rw [<- HW1.out]
 go_wp2
 go_loop [6] (fun t => ∃ k : Nat, t = .int .i64 k /\ k <= xs.length /\ RowKit.Hid (∀ j s, j < k -> xs[j]? = some s -> (fun p : Pt => decide (n < p.n)) s.pl = false)) (fun t => xs.length - (intOf t).toNat)
 case atStart => exact ⟨0, rfl, Nat.zero_le _, fun j s hj => absurd hj (Nat.not_lt_zero _)⟩
 case round =>
  obtain ⟨k, rfl, hk, HX⟩ := hrel
  by_cases hlt : k < xs.length
  ·obtain ⟨x, hx⟩ : ∃ r, xs[k]? = some r := ⟨_, List.getElem?_eq_getElem hlt⟩
   have o := A1.out.own
   obtain ⟨g, hg, hh⟩ := o.at k hlt
   clear hh
   subst hg
   obtain ⟨q0, q1, q2, q3⟩ := o.four hx
   have hxr := A1.out.rd x (List.mem_of_getElem? hx)
   have HXX := iH hx; have HXR := iH hxr
   have x1 : (k : Int) < (xs.length : Int) := by omega
   obtain ⟨b, hb⟩ : ∃ b, (fun p : Pt => decide (n < p.n)) x.pl = b := ⟨_, rfl⟩
   have HQ := iH hb
   clear hx o hxr hb
   cases b with
   | true =>
   have HR : RowKit.Hid (aftS (xs.map Tk.pl) n = some x.pl) := iH (find_at HXX.out HQ.out HX.out)
   obtain ⟨b0, b1, b2, b3, b4, b5⟩ := x
   simp only [Tk.op] at *
   have x2 : n < b0 := of_decide_eq_true HQ.out
   rw [HR.out]
   go_wp2
   refine bodyPost_ret (v := .tuple #[.agg #[.int .i64 b0, .int .i64 b1, .slice b2 b4.length b3, .int .i64 b5], .bool true]) (by simp [results, Tryz.results168, go_sem, *]) rfl ?_
   have f7 : Fo (fun k => k = w.heap.size) W1 ((((W1.setCell ⟨w.heap.size, 0, none⟩ (.int .i64 b0)).setCell ⟨w.heap.size, 1, none⟩ (.int .i64 b1)).setCell ⟨w.heap.size, 2, none⟩ (.slice b2 b4.length b3)).setCell ⟨w.heap.size, 3, none⟩ (.int .i64 b5)) := Fo.four (O := fun k => k = w.heap.size) (Fo.refl _ W1) (g := w.heap.size) (.inl rfl) _ _ _ _
   have n7 : NoI W1 (fun k => k = w.heap.size) := by
    rintro k rfl cs fz hg
    rw [G1.out] at hg
    simp only [zT4, Option.some.injEq, Obj.cells.injEq] at hg
    exact absurd hg.2.1 (by decide)
   exact ⟨⟨b0, b1, b2, b3, b4, b5⟩, rfl, rfl, HXR.out.fo f7 n7, K1.out.four (g := w.heap.size) (.inr (by omega)) _ _ _ _⟩
   | false =>
   obtain ⟨b0, b1, b2, b3, b4, b5⟩ := x
   simp only [Tk.op] at *
   have x2 : ¬ n < b0 := of_decide_eq_false HQ.out
   go_wp2
   go_round
   case rel =>
    refine ⟨k + 1, by go_num, by omega, iH fun j s hj hs => ?_⟩
    by_cases e : j = k
    ·subst e
     rw [HXX.out] at hs
     cases hs
     exact HQ.out
    exact HX.out j s (by omega) hs
   case measure => simp [intOf]; omega
  have HR : RowKit.Hid (aftS (xs.map Tk.pl) n = none) := iH (find_no (fun j s hj => HX.out j s (by omega)))
  have x1 : ¬ (k : Int) < (xs.length : Int) := by omega
  rw [HR.out]
  go_wp2
  refine bodyPost_ret (v := .tuple #[.agg #[.int .i64 0, .int .i64 0, .slice none 0 0, .int .i64 0], .bool false]) (by simp [results, Tryz.results168, go_sem, *]) rfl ?_
  exact ⟨Tk.zero, by first | rfl | (rw [HR.out]; rfl), by first | rfl | (rw [HR.out]; rfl), RdT.nil _, K1.out.four (g := w.heap.size) (.inr (by omega)) _ _ _ _⟩
theorem rsame_any (x y : Tk) (w : World) (hp : x.pl = y.pl) (rx : RdI w x.op x.l) (ry : RdI w y.op y.l) :
 Calls Tryz.prog 56 #[.agg x.cs, .agg y.cs] w fun e w' => e = .returned (.bool true) /\ Kept w w' [] := by
 obtain ⟨x0, x1, xa, xc, x4, x5⟩ := x
 obtain ⟨y0, y1, ya, yc, y4, y5⟩ := y
 simp only [Tk.pl, Pt.mk.injEq] at hp
 obtain ⟨p0, p1, p2, p3⟩ := hp
 subst y0 y1 y4 y5
 simp only [Tk.op, Tk.cs] at *
 obtain ⟨W1, hW1⟩ : ∃ W1, W1 = (w.alloc (.cells #[.int .i64 x0, .int .i64 x1, .slice xa x4.length xc, .int .i64 x5] 38)).alloc (.cells #[.int .i64 x0, .int .i64 x1, .slice ya x4.length yc, .int .i64 x5] 38) := ⟨_, rfl⟩
 have k1 : Kept w W1 [] := by rw [hW1]; exact ((Kept.refl w []).alloc _).alloc _
 have IN := iH (ints_any _ _ x4 x4 W1 (rx.keep k1) (ry.keep k1))
 have e1 : (w.alloc (.cells #[.int .i64 x0, .int .i64 x1, .slice xa x4.length xc, .int .i64 x5] 38)).heap.size = w.heap.size + 1 := by simp
 have g0 : W1.heap[w.heap.size]? = some (.cells #[.int .i64 x0, .int .i64 x1, .slice xa x4.length xc, .int .i64 x5] 38 (0, 0)) := by rw [hW1]; exact (Below.heap_alloc _ _ _ (by simp)).trans (heap_alloc_new w _)
 have g1 : W1.heap[w.heap.size + 1]? = some (.cells #[.int .i64 x0, .int .i64 x1, .slice ya x4.length yc, .int .i64 x5] 38 (0, 0)) := by rw [hW1, <- e1]; exact heap_alloc_new _ _
 obtain ⟨c0, c1, c2, c3⟩ := xqc g0
 obtain ⟨d0, d1, d2, d3⟩ := xqc g1
 have K1 := iH k1; have HW1 := iH hW1
 rw [show (x4 == x4) = true by simp] at IN
 clear rx ry k1 hW1 e1 g0 g1
 go_enter Tryz.func56, Tryz.ntmps56
 go_upto_region 1 with fail
 rw [<- HW1.out]
 go_wp2_with fail
 refine IN.out.mono ?_
 rintro e w2 ⟨rfl, k2⟩
 have K2 := iH k2
 clear k2 c0 c1 c2 c3 d0 d1 d2 d3
 go_wp2
 go_ret
 exact ⟨rfl, K1.out.trans K2.out (by simp)⟩
end Go.Proofs.YticiofkiffgclaaGreat
