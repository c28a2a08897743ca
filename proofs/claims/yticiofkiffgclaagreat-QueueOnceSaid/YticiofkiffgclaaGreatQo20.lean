/-
  Spf, Spg in one text.
-/
import Derived.Test.YticiofkiffgclaaGreatQo19
import Derived.Lib.SliceRun
import Derived.LoopTactic
namespace Go.Proofs.YticiofkiffgclaaGreat
set_option linter.unusedVariables false
open Go.RowKit

variable {w w' : World} {base : Nat} {l : List Ev}

def eidx (P : Ev → Bool) (l : List Ev) : Int := match l.findIdx? P with | some i => i | none => -1

theorem eidx_hit {P : Ev → Bool} {l : List Ev} {k : Nat} {r : Ev} (hr : l[k]? = some r) (hp : P r = true) (hb : ∀ j s, j < k → l[j]? = some s → P s = false) : l.findIdx? P = some k := by
  obtain ⟨hk, e⟩ := List.getElem?_eq_some_iff.1 hr
  rw [List.findIdx?_eq_some_iff_getElem]
  refine ⟨hk, by rw [e]; exact hp, fun j hj => ?_⟩
  rw [hb j l[j] hj (List.getElem?_eq_getElem _)]
  simp

theorem eidx_miss {P : Ev → Bool} {l : List Ev} (hb : ∀ j s, j < l.length → l[j]? = some s → P s = false) : l.findIdx? P = none := by
  rw [List.findIdx?_eq_none_iff]
  intro s hs
  obtain ⟨j, hj, e⟩ := List.mem_iff_getElem.1 hs
  exact hb j s hj (by rw [List.getElem?_eq_getElem hj, e])

theorem efind_lt {P : Ev → Bool} {l : List Ev} {k : Nat} (h : l.findIdx? P = some k) : k < l.length := (List.findIdx?_eq_some_iff_getElem.1 h).1

theorem OwnE.eight {e : TypeId} {g n c : Nat} (h : OwnE w base e (.slice (some ⟨g, 0, none⟩) n c) l) {k : Nat} {r : Ev} (hr : l[k]? = some r) :
    w.cell? ⟨g, k * 8, none⟩ = some (.int .i64 r.id) ∧ w.cell? ⟨g, k * 8 + 1, none⟩ = some (.int .i64 r.tx) ∧ w.cell? ⟨g, k * 8 + 2, none⟩ = some (.string r.ow) ∧ w.cell? ⟨g, k * 8 + 3, none⟩ = some (.int .i64 r.tr) ∧
    w.cell? ⟨g, k * 8 + 4, none⟩ = some (.int .i64 r.tb) ∧ w.cell? ⟨g, k * 8 + 5, none⟩ = some (.int .u8 r.kd) ∧ w.cell? ⟨g, k * 8 + 6, none⟩ = some (.int .i64 r.key) ∧ w.cell? ⟨g, k * 8 + 7, none⟩ = some (.string r.t) := by
  obtain ⟨hk, rfl⟩ := List.getElem?_eq_some_iff.1 hr
  obtain ⟨g', hg, hc⟩ := h.at k hk
  simp only [Option.some.injEq, Addr.mk.injEq] at hg
  obtain ⟨rfl, _⟩ := hg
  exact ⟨(hc 0 (by decide)).1, (hc 1 (by decide)).1, (hc 2 (by decide)).1, (hc 3 (by decide)).1, (hc 4 (by decide)).1, (hc 5 (by decide)).1, (hc 6 (by decide)).1, (hc 7 (by decide)).1⟩

theorem OwnE.eightF {e : TypeId} {g n c : Nat} (h : OwnE w base e (.slice (some ⟨g, 0, none⟩) n c) l) {k : Nat} {r : Ev} (hr : l[k]? = some r) :
    w.frozen? ⟨g, k * 8, none⟩ = false ∧ w.frozen? ⟨g, k * 8 + 1, none⟩ = false ∧ w.frozen? ⟨g, k * 8 + 2, none⟩ = false ∧ w.frozen? ⟨g, k * 8 + 3, none⟩ = false ∧
    w.frozen? ⟨g, k * 8 + 4, none⟩ = false ∧ w.frozen? ⟨g, k * 8 + 5, none⟩ = false ∧ w.frozen? ⟨g, k * 8 + 6, none⟩ = false ∧ w.frozen? ⟨g, k * 8 + 7, none⟩ = false := by
  obtain ⟨hk, rfl⟩ := List.getElem?_eq_some_iff.1 hr
  obtain ⟨g', hg, hc⟩ := h.at k hk
  simp only [Option.some.injEq, Addr.mk.injEq] at hg
  obtain ⟨rfl, _⟩ := hg
  exact ⟨(hc 0 (by decide)).2, (hc 1 (by decide)).2, (hc 2 (by decide)).2, (hc 3 (by decide)).2, (hc 4 (by decide)).2, (hc 5 (by decide)).2, (hc 6 (by decide)).2, (hc 7 (by decide)).2⟩

def PaysE (w : World) (O : Nat → Prop) (c : Nat) (lb : Array Value) (P : Ev → Bool) : Prop :=
  ∀ (r : Ev) (V : World), Fo O w V → Calls Tryz.prog c (#[.agg r.cs] ++ lb) V fun e w' => e = .returned (.bool (P r)) ∧ Kept V w' []

set_option maxHeartbeats 2000000 in
theorem eindexFunc_any (sv : Value) (ho : OwnE w base 50 sv l) (hlen : l.length < 1000000) (c : Nat) (lb : Array Value) (P : Ev → Bool) (ec : ∀ args w, (callFunc c args).run Tryz.prog w = .ok (.enter c args) w) (O : Nat → Prop) (hc : PaysE w O c lb P) :
    Calls Tryz.prog 99 #[sv, .func (.func c) #[] lb] w fun e w' => e = .returned (.int .i64 (eidx P l)) ∧ Kept w w' [] := by
  have HO := Lib.hid ho
  have HC := Lib.hid hc
  clear hc
  rcases ho.2 with ⟨rfl, h0⟩ | ⟨g, cap, cur, rfl, _, _, hnc, hcm, _, _⟩
  · obtain rfl : l = [] := List.eq_nil_of_length_eq_zero h0
    clear ho
    go_enter Tryz.func99, Tryz.ntmps99
    go_wp2
    go_loop [5, 8] (fun _ t => t = .int .i64 0) (fun _ _ => 0)
    case atStart => rfl
    case round =>
      subst hrel
      go_wp2
      go_ret
      exact ⟨rfl, Kept.refl w []⟩
  · clear ho hnc hcm
    go_enter Tryz.func99, Tryz.ntmps99
    go_wp2
    go_loopw [5, 8] (fun _ t wr => ∃ k : Nat, t = .int .i64 k ∧ k ≤ l.length ∧ Kept w wr [] ∧ (∀ j s, j < k → l[j]? = some s → P s = false)) (fun _ t _ => l.length - (intOf t).toNat)
    case atStart => exact ⟨0, rfl, Nat.zero_le _, Kept.refl w [], fun j s hj => absurd hj (Nat.not_lt_zero _)⟩
    case round =>
      obtain ⟨k, rfl, hk, hkw, hx⟩ := hrel
      have Hx := Lib.hid hx; have K := Lib.hid hkw
      clear hx hkw
      by_cases hlt : k < l.length
      · obtain ⟨r, hr⟩ : ∃ r, l[k]? = some r := ⟨_, List.getElem?_eq_getElem hlt⟩
        obtain ⟨c0, c1, c2, c3, c4, c5, c6, c7⟩ := (HO.out.kept K.out (by simp)).eight hr
        have HR := Lib.hid hr
        have x1 : (k : Int) < (l.length : Int) := by omega
        have call := HC.out r wr (Fo.ofKept K.out _)
        obtain ⟨q, hq⟩ : ∃ q, P r = q := ⟨_, rfl⟩
        rw [hq] at call
        have HQ := Lib.hid hq
        clear hr hq
        obtain ⟨b0, b1, b2, b3, b4, b5, b6, b7⟩ := r
        simp only [Ev.cs] at c0 c1 c2 c3 c4 c5 c6 c7 call
        cases q
        · go_wp2_with (go_at_fn c; refine call.mono ?_; rintro e w2 ⟨rfl, k2⟩)
          go_roundw
          case rel =>
            refine ⟨k + 1, by go_num, by omega, K.out.trans k2 (by simp), fun j s hj hs => ?_⟩
            by_cases e : j = k
            · subst e
              rw [HR.out] at hs
              cases hs
              exact HQ.out
            · exact Hx.out j s (by omega) hs
          case measure => simp [intOf]; omega
        · have R : RowKit.Hid (eidx P l = k) := Lib.hid (by rw [eidx, eidx_hit HR.out HQ.out Hx.out])
          go_wp2_with (go_at_fn c; refine call.mono ?_; rintro e w2 ⟨rfl, k2⟩)
          go_ret
          rw [R.out]
          exact ⟨rfl, K.out.trans k2 (by simp)⟩
      · have R : RowKit.Hid (eidx P l = -1) := Lib.hid (by rw [eidx, eidx_miss (fun j s hj => Hx.out j s (by omega))])
        have x1 : ¬ (k : Int) < (l.length : Int) := by omega
        go_wp2
        go_ret
        rw [R.out]
        exact ⟨rfl, K.out⟩

theorem esetCells_at {g : Nat} {t : TypeId} {fz : Nat × Nat} : ∀ (vs : List Value) (o : Nat) (w : World) (cs : Array Value), w.heap[g]? = some (.cells cs t fz) →
    ∃ cs', (w.setCells g o vs).heap[g]? = some (.cells cs' t fz) ∧ cs'.size = cs.size ∧ cs'.toList.take o = cs.toList.take o
  | [], o, w, cs, h => ⟨cs, h, rfl, rfl⟩
  | v :: vs, o, w, cs, h => by
    obtain ⟨cs', h1, h2, h3⟩ := esetCells_at vs (o + 1) _ _ (heap_setCell_at h o v)
    refine ⟨cs', h1, by rw [h2]; simp, ?_⟩
    have h4 : (cs'.toList.take (o + 1)).take o = cs'.toList.take o := by rw [List.take_take]; congr 1; omega
    rw [← h4, h3, List.take_take, Array.toList_setIfInBounds, List.take_set]
    rw [List.set_eq_of_length_le (by simp; omega)]
    congr 1
    omega

theorem Fo.setCells {O : Nat → Prop} {g : Nat} (hO : O g) : ∀ (vs : List Value) (o : Nat) (a w : World), Fo O a w → Fo O a (w.setCells g o vs)
  | [], _, _, _, h => h
  | v :: vs, o, a, _, h => Fo.setCells hO vs (o + 1) a _ (h.setCell (p := ⟨g, o, none⟩) (.inl hO) v)

theorem erun_clear_cells {P : Program} (w : World) (t e : TypeId) (z : Value) (ht : P.underlying t = some (.slice e)) (hv : ∀ w, (zeroValue e).run P w = .ok z w) (h1 : ∀ v ∈ z.cells.toList, v.oneCell' = true) (hz : 0 < z.cells.size)
    {b o n c : Nat} {cs : Array Value} {te : TypeId} (hn : 0 < n) (hb : w.heap[b]? = some (.cells cs te (0, 0))) (ho : o + n * z.cells.size ≤ cs.size) :
    ∃ vs, ∀ ty, (Builtin.clear_ #[t] ty #[.slice (some ⟨b, o, none⟩) n c]).run P w = .ok (.tuple #[]) (w.setCells b o vs) := by
  have hl : (Builtin.zeroCells z.cells n).toList.length = n * z.cells.size := by simp [Builtin.zeroCells]
  have hc : ∀ j, j < (Builtin.zeroCells z.cells n).toList.length → (w.cell? ⟨b, o + 0 + j, none⟩).isSome = true := by
    intro j hj
    rw [hl] at hj
    rw [cell_of_row w b (o + 0 + j) _ _ _ hb, Array.getElem?_eq_getElem (by omega)]
    rfl
  have hf : ∀ j, j < (Builtin.zeroCells z.cells n).toList.length → w.frozen? ⟨b, o + 0 + j, none⟩ = false := by
    intro j hj
    simp [World.frozen?, hb]
  have hs := run_storeCells_cells (P := P) b o _ 0 w hc hf (by
    intro v hm
    simp only [Builtin.zeroCells, Array.toList_map, Array.toList_range, List.mem_map] at hm
    obtain ⟨i, _, rfl⟩ := hm
    have hi : i % z.cells.size < z.cells.size := Nat.mod_lt _ hz
    rw [getElem!_pos z.cells _ hi]
    exact h1 _ (by simp))
  refine ⟨(Builtin.zeroCells z.cells n).toList, fun ty => ?_⟩
  obtain ⟨m, rfl⟩ : ∃ m, n = m + 1 := ⟨n - 1, by omega⟩
  simp only [Nat.add_zero] at hs
  simp [Builtin.clear_, run_underlying ht, hv, hs]

def ekeptTo (P : Ev → Bool) (l : List Ev) (j : Nat) : List Ev := (l.take j).filter fun r => !P r

theorem ekeptTo_hit {P : Ev → Bool} {l : List Ev} {j : Nat} {r : Ev} (h : l[j]? = some r) (hp : P r = false) : ekeptTo P l (j + 1) = ekeptTo P l j ++ [r] := by
  simp [ekeptTo, List.take_add_one, h, hp]
theorem ekeptTo_miss {P : Ev → Bool} {l : List Ev} {j : Nat} {r : Ev} (h : l[j]? = some r) (hp : P r = true) : ekeptTo P l (j + 1) = ekeptTo P l j := by
  simp [ekeptTo, List.take_add_one, h, hp]
theorem ekeptTo_all {P : Ev → Bool} {l : List Ev} : ekeptTo P l l.length = l.filter fun r => !P r := by simp [ekeptTo]

structure EMid (wr : World) (base g cap : Nat) (l : List Ev) (P : Ev → Bool) (i j : Nat) : Prop where
  row : ∃ X, OwnE wr base 50 (.slice (some ⟨g, 0, none⟩) l.length cap) X ∧ X.take i = ekeptTo P l j ∧ X.drop j = l.drop j ∧ X.length = l.length
  len : i = (ekeptTo P l j).length
  lt : i < j
  le : j ≤ l.length

variable {g cap i j : Nat} {P : Ev → Bool} {wr : World} {r : Ev}

theorem EMid.cells (a : EMid wr base g cap l P i j) (hr : l[j]? = some r) : ∃ X, OwnE wr base 50 (.slice (some ⟨g, 0, none⟩) l.length cap) X ∧ X[j]? = some r := by
  obtain ⟨X, h1, _, h3, _⟩ := a.row
  refine ⟨X, h1, ?_⟩
  have := congrArg (fun m => m[0]?) h3
  simp only [List.getElem?_drop, Nat.add_zero] at this
  rw [this, hr]

theorem EMid.spot (a : EMid wr base g cap l P i j) : ∃ X s, OwnE wr base 50 (.slice (some ⟨g, 0, none⟩) l.length cap) X ∧ X[i]? = some s := by
  obtain ⟨X, h1, _, _, h4⟩ := a.row
  have := a.lt; have := a.le
  exact ⟨X, X[i]'(by omega), h1, List.getElem?_eq_getElem (by omega)⟩

theorem EMid.skip (a : EMid wr base g cap l P i j) (hr : l[j]? = some r) (hp : P r = true) (hk : Kept wr w' []) : EMid w' base g cap l P i (j + 1) := by
  obtain ⟨X, h1, h2, h3, h4⟩ := a.row
  have hj : j < l.length := (List.getElem?_eq_some_iff.1 hr).1
  exact ⟨⟨X, h1.kept hk (by simp), by rw [ekeptTo_miss hr hp]; exact h2, by rw [← List.drop_drop, h3, List.drop_drop], h4⟩, by rw [ekeptTo_miss hr hp]; exact a.len, by have := a.lt; omega, hj⟩

theorem EMid.put (a : EMid wr base g cap l P i j) (hr : l[j]? = some r) (hp : P r = false) (hk : Kept wr w' []) :
    EMid ((((((((w'.setCell ⟨g, i * 8, none⟩ (.int .i64 r.id)).setCell ⟨g, i * 8 + 1, none⟩ (.int .i64 r.tx)).setCell ⟨g, i * 8 + 2, none⟩ (.string r.ow)).setCell ⟨g, i * 8 + 3, none⟩ (.int .i64 r.tr)).setCell ⟨g, i * 8 + 4, none⟩ (.int .i64 r.tb)).setCell ⟨g, i * 8 + 5, none⟩ (.int .u8 r.kd)).setCell ⟨g, i * 8 + 6, none⟩ (.int .i64 r.key)).setCell ⟨g, i * 8 + 7, none⟩ (.string r.t)) base g cap l P (i + 1) (j + 1) := by
  obtain ⟨X, h1, h2, h3, h4⟩ := a.row
  have hj : j < l.length := (List.getElem?_eq_some_iff.1 hr).1
  have hlt := a.lt
  refine ⟨⟨X.set i r, (h1.kept hk (by simp)).put i (by omega) r, ?_, ?_, by rw [List.length_set, h4]⟩, by rw [ekeptTo_hit hr hp, List.length_append, ← a.len]; rfl, by omega, hj⟩
  · rw [ekeptTo_hit hr hp, ← h2, List.take_add_one, List.take_set_of_le (Nat.le_refl _), List.getElem?_set_self (by omega)]
    rfl
  · rw [List.drop_set_of_lt (by omega), ← List.drop_drop, h3, List.drop_drop]

theorem EMid.done (a : EMid wr base g cap l P i l.length) (vs : List Value) :
    i = (l.filter fun r => !P r).length ∧ OwnE (wr.setCells g (i * 8) vs) base 50 (.slice (some ⟨g, 0, none⟩) i cap) (l.filter fun r => !P r) := by
  obtain ⟨X, h1, h2, _, h4⟩ := a.row
  have hl := a.len
  have hlt := a.lt
  rw [ekeptTo_all] at h2 hl
  rcases h1.2 with ⟨h0, _⟩ | ⟨g', cap', cur, h0, hbg, hg, hnc, hcm, hcs, htk⟩
  · cases h0
  simp only [Value.slice.injEq, Option.some.injEq, Addr.mk.injEq] at h0
  obtain ⟨⟨rfl, _⟩, hn, rfl⟩ := h0
  obtain ⟨cs', c1, c2, c3⟩ := esetCells_at vs (i * 8) wr cur hg
  refine ⟨hl, by rw [ecs_length], .inr ⟨g, cap, cs', by rw [← hl], hbg, c1, by omega, hcm, by rw [c2, hcs], ?_⟩⟩
  rw [← hl, c3, ← h2]
  have e : (cur.toList.take (X.length * 8)).take (i * 8) = cur.toList.take (i * 8) := by rw [List.take_take]; congr 1; omega
  rw [← e, htk]
  conv => lhs; rw [← List.take_append_drop i X, ecs_append]
  exact List.take_left' (by rw [ecs_length, List.length_take]; omega)

theorem EMid.clear (a : EMid wr base g cap l P i l.length) :
    ∃ vs, ∀ ty, (Builtin.clear_ #[57] ty #[.slice (some ⟨g, i * 8, none⟩) (l.length - i) (cap - i)]).run Tryz.prog wr = .ok (.tuple #[]) (wr.setCells g (i * 8) vs) := by
  obtain ⟨X, h1, _, _, h4⟩ := a.row
  have hlt := a.lt
  rcases h1.2 with ⟨h0, _⟩ | ⟨g', cap', cur, h0, hbg, hg, hnc, hcm, hcs, htk⟩
  · cases h0
  simp only [Value.slice.injEq, Option.some.injEq, Addr.mk.injEq] at h0
  obtain ⟨⟨rfl, _⟩, hn, rfl⟩ := h0
  exact erun_clear_cells wr _ 50 _ Tryz.underlying57 (fun w => Tryz.zeroValue50 w) (by
    intro v hv
    simp [Value.cells] at hv
    rcases hv with rfl | rfl | rfl | rfl | rfl | rfl | rfl | rfl <;> rfl) (by simp [Value.cells]) (by omega) hg (by simp [Value.cells]; omega)

end Go.Proofs.YticiofkiffgclaaGreat

namespace Go.Proofs.YticiofkiffgclaaGreat
set_option linter.unusedVariables false
open Go.RowKit

theorem Fo.one {O : Nat → Prop} {a b c : World} (h : Fo O a b) (k : Kept b c []) : Fo O a c := h.trans (Fo.ofKept k O)

theorem Fo.set8 {O : Nat → Prop} {a w : World} {g : Nat} (h : Fo O a w) (hg : O g) (k : Nat) (u0 u1 u2 u3 u4 u5 u6 u7 : Value) :
    Fo O a ((((((((w.setCell ⟨g, k, none⟩ u0).setCell ⟨g, k + 1, none⟩ u1).setCell ⟨g, k + 2, none⟩ u2).setCell ⟨g, k + 3, none⟩ u3).setCell ⟨g, k + 4, none⟩ u4).setCell ⟨g, k + 5, none⟩ u5).setCell ⟨g, k + 6, none⟩ u6).setCell ⟨g, k + 7, none⟩ u7) :=
  (((((((h.setCell (p := ⟨g, k, none⟩) (.inl hg) u0).setCell (p := ⟨g, k + 1, none⟩) (.inl hg) u1).setCell (p := ⟨g, k + 2, none⟩) (.inl hg) u2).setCell (p := ⟨g, k + 3, none⟩) (.inl hg) u3).setCell (p := ⟨g, k + 4, none⟩) (.inl hg) u4).setCell (p := ⟨g, k + 5, none⟩) (.inl hg) u5).setCell (p := ⟨g, k + 6, none⟩) (.inl hg) u6).setCell (p := ⟨g, k + 7, none⟩) (.inl hg) u7

set_option maxHeartbeats 4000000 in
set_option maxRecDepth 20000 in
theorem edeleteFunc_some {w : World} {base g cap : Nat} (l : List Ev) (ho : OwnE w base 50 (.slice (some ⟨g, 0, none⟩) l.length cap) l) (hlen : l.length < 1000000) (c : Nat) (lb : Array Value) (P : Ev → Bool) (ec : ∀ args w, (callFunc c args).run Tryz.prog w = .ok (.enter c args) w) (hc : PaysE w (fun k => k = g) c lb P) :
    Calls Tryz.prog 139 #[.slice (some ⟨g, 0, none⟩) l.length cap, .func (.func c) #[] lb] w fun e w' => e = .returned (.slice (some ⟨g, 0, none⟩) (l.filter fun r => !P r).length cap) ∧
      OwnE w' base 50 (.slice (some ⟨g, 0, none⟩) (l.filter fun r => !P r).length cap) (l.filter fun r => !P r) ∧ Fo (fun k => k = g) w w' := by
  have HC := Lib.hid hc
  have HO := Lib.hid ho
  have ci := eindexFunc_any _ ho hlen c lb P ec _ hc
  rcases ho.2 with ⟨h0, _⟩ | ⟨g', cap', cur, h0, hbg, hg, hnc, hcm, hcs, htk⟩
  · cases h0
  simp only [Value.slice.injEq, Option.some.injEq, Addr.mk.injEq] at h0
  obtain ⟨⟨rfl, _⟩, _, rfl⟩ := h0
  cases hi : l.findIdx? P with
  | none =>
    have e1 : eidx P l = -1 := by rw [eidx, hi]
    rw [e1] at ci
    have e2 : (l.filter fun r => !P r) = l := by
      rw [List.filter_eq_self]
      intro r hr
      rw [List.findIdx?_eq_none_iff] at hi
      simp [hi r hr]
    rw [e2]
    clear hc ho hbg hg hnc hcm hcs htk e1 hi e2
    go_enter Tryz.func139, Tryz.ntmps139
    go_wp2_with (go_at_call 99; refine ci.mono ?_; rintro e w' ⟨rfl, k2⟩)
    go_ret
    exact ⟨rfl, HO.out.kept k2 (by simp), Fo.ofKept k2 _⟩
  | some k0 =>
    have e1 : eidx P l = k0 := by rw [eidx, hi]
    have hlt := efind_lt hi
    rw [e1] at ci
    have hx1 : ((k0 : Int) == -1) = false := beq_eq_false_iff_ne.2 (by omega)
    have start : ∀ V, Kept w V [] → EMid V base g cap l P k0 (k0 + 1) := by
      intro V hV
      rw [List.findIdx?_eq_some_iff_getElem] at hi
      obtain ⟨h1, h2, h3⟩ := hi
      have hk : ekeptTo P l k0 = l.take k0 := by
        rw [ekeptTo, List.filter_eq_self]
        intro r hr
        obtain ⟨m, hm, e⟩ := List.mem_iff_getElem.1 hr
        rw [List.getElem_take] at e
        simp only [List.length_take] at hm
        have := h3 m (by omega)
        rw [e] at this
        simpa using this
      have hk1 : ekeptTo P l (k0 + 1) = l.take k0 := by rw [ekeptTo_miss (List.getElem?_eq_getElem h1) h2, hk]
      exact ⟨⟨l, ho.kept hV (by simp), by rw [hk1], rfl, rfl⟩, by rw [hk1]; simp; omega, by omega, by omega⟩
    have ST := Lib.hid start
    have HL : RowKit.Hid (l.length ≤ cap ∧ cap ≤ maxLen ∧ base ≤ g) := Lib.hid ⟨hnc, hcm, hbg⟩
    clear hc ho hbg hg hnc hcm hcs htk e1 hi start
    go_enter Tryz.func139, Tryz.ntmps139
    go_wp2_with (go_at_call 99; refine ci.mono ?_; rintro e w1 ⟨rfl, k1⟩)
    go_loopw [5, 6, 7] (fun s5 s6 _ wr => ∃ i j : Nat, s5 = .int .i64 i ∧ s6 = .int .i64 j ∧ EMid wr base g cap l P i j ∧ Fo (fun k => k = g) w wr) (fun _ s6 _ _ => l.length - (intOf s6).toNat)
    case atStart => exact ⟨k0, k0 + 1, rfl, by go_num, ST.out _ k1, Fo.ofKept k1 _⟩
    case round =>
      obtain ⟨i, j, rfl, rfl, m, fo⟩ := hrel
      have M := Lib.hid m; have FO := Lib.hid fo
      have hle := m.le
      have hij := m.lt
      clear m fo
      by_cases hj : j < l.length
      · obtain ⟨r, hr⟩ : ∃ r, l[j]? = some r := ⟨_, List.getElem?_eq_getElem hj⟩
        obtain ⟨X, hX, hXr⟩ := M.out.cells hr
        obtain ⟨c0, c1, c2, c3, c4, c5, c6, c7⟩ := hX.eight hXr
        have HR := Lib.hid hr
        have x1 : (j : Int) < (l.length : Int) := by omega
        have x2 : (i : Int) < (l.length : Int) := by omega
        have call := HC.out r
        obtain ⟨q, hq⟩ : ∃ q, P r = q := ⟨_, rfl⟩
        rw [hq] at call
        have HQ := Lib.hid hq
        have CALL := Lib.hid call
        clear hr hq call hX hXr X
        obtain ⟨b0, b1, b2, b3, b4, b5, b6, b7⟩ := r
        simp only [Ev.cs] at c0 c1 c2 c3 c4 c5 c6 c7 CALL
        go_wp2_with fail
        refine (CALL.out _ (FO.out.alloc _)).mono ?_
        rintro e w2 ⟨rfl, k2⟩
        have bb := k2.heap (by simp) (heap_alloc_new wr (.cells #[.int .i64 b0, .int .i64 b1, .string b2, .int .i64 b3, .int .i64 b4, .int .u8 b5, .int .i64 b6, .string b7] 50))
        have K2 := Lib.hid (((Kept.refl wr []).alloc (.cells #[.int .i64 b0, .int .i64 b1, .string b2, .int .i64 b3, .int .i64 b4, .int .u8 b5, .int .i64 b6, .string b7] 50)).trans k2 (by simp))
        obtain ⟨y0, y1, y2, y3, y4, y5, y6, y7⟩ := ev_cells bb
        obtain ⟨X, s, hX, hXs⟩ := M.out.spot
        obtain ⟨z0, z1, z2, z3, z4, z5, z6, z7⟩ := (hX.kept K2.out (by simp)).eight hXs
        obtain ⟨f0, f1, f2, f3, f4, f5, f6, f7⟩ := (hX.kept K2.out (by simp)).eightF hXs
        clear k2 bb c0 c1 c2 c3 c4 c5 c6 c7 hX hXs X
        cases q
        · go_wp2
          go_roundw
          case rel =>
            have m2 := EMid.put (w' := w2) M.out HR.out HQ.out K2.out
            have f2 := (FO.out.one K2.out).set8 (g := g) rfl (i * 8) (.int .i64 b0) (.int .i64 b1) (.string b2) (.int .i64 b3) (.int .i64 b4) (.int .u8 b5) (.int .i64 b6) (.string b7)
            exact ⟨i + 1, j + 1, by go_num, by go_num, m2, f2⟩
          case measure => simp [intOf]; omega
        · go_wp2
          go_roundw
          case rel => exact ⟨i, j + 1, rfl, by go_num, M.out.skip HR.out HQ.out K2.out, FO.out.one K2.out⟩
          case measure => simp [intOf]; omega
      · obtain rfl : j = l.length := by omega
        have x1 : ¬ (l.length : Int) < (l.length : Int) := by omega
        have x2 : (i : Int) ≤ (l.length : Int) := by omega
        have x3 : (i : Int) ≤ (cap : Int) := by have := HL.out.1; omega
        have x4 : (l.length : Int) ≤ (cap : Int) := by have := HL.out.1; omega
        have x5 : i < cap := by have := HL.out.1; omega
        obtain ⟨vs, hcl⟩ := M.out.clear
        go_wp2
        go_ret
        obtain ⟨e1, e2⟩ := M.out.done vs
        rw [← e1]
        exact ⟨rfl, e2, Fo.setCells (O := fun k => k = g) rfl vs (i * 8) _ _ FO.out⟩

theorem edeleteFunc_any {w : World} {base : Nat} {v : Value} {l : List Ev} (ho : OwnE w base 50 v l) (hlen : l.length < 1000000) (c : Nat) (lb : Array Value) (P : Ev → Bool) (ec : ∀ args w, (callFunc c args).run Tryz.prog w = .ok (.enter c args) w) (hc : PaysE w (fun k => v.ownBlock = some k) c lb P) :
    Calls Tryz.prog 139 #[v, .func (.func c) #[] lb] w fun e w' => ∃ v', e = .returned v' ∧ OwnE w' base 50 v' (l.filter fun r => !P r) ∧ (∀ k, v'.ownBlock = some k → v.ownBlock = some k) ∧ Fo (fun k => v.ownBlock = some k) w w' := by
  rcases ho.2 with ⟨rfl, h0⟩ | ⟨g, cap, cur, rfl, hbg, hg, hnc, hcm, hcs, htk⟩
  · obtain rfl : l = [] := List.eq_nil_of_length_eq_zero h0
    have ci := eindexFunc_any _ ho hlen c lb P ec _ hc
    have e1 : eidx P [] = -1 := rfl
    rw [e1] at ci
    have HO := Lib.hid ho
    clear ho hc
    go_enter Tryz.func139, Tryz.ntmps139
    go_wp2_with (go_at_call 99; refine ci.mono ?_; rintro e w' ⟨rfl, k2⟩)
    go_ret
    exact ⟨_, rfl, HO.out.kept k2 (by simp [Value.ownBlock]), fun k hk => hk, Fo.ofKept k2 _⟩
  · have e : (fun k => (Value.slice (some ⟨g, 0, none⟩) l.length cap).ownBlock = some k) = (fun k => k = g) := by
      funext k
      simp only [Value.ownBlock, Option.some.injEq]
      exact propext ⟨fun h => h.symm, fun h => h.symm⟩
    rw [e] at hc ⊢
    refine (edeleteFunc_some l ho hlen c lb P ec hc).mono ?_
    rintro r w' ⟨rfl, h1, h2⟩
    exact ⟨_, rfl, h1, fun k hk => hk, h2⟩

def ofX (x : Int) (e : Ev) : Bool := e.tx == x

set_option maxHeartbeats 1000000 in
theorem ofX_any (e : Ev) (x : Int) (xb : Nat) (W : World) (hx : W.cell? ⟨xb, 0, none⟩ = some (.int .i64 x)) (hxb : xb < W.heap.size) :
    Calls Tryz.prog 138 #[.agg e.cs, .pointer (some ⟨xb, 0, none⟩)] W fun r w' => r = .returned (.bool (ofX x e)) ∧ Kept W w' [] := by
  have hy : (W.alloc (.cells e.cs 50)).cell? ⟨xb, 0, none⟩ = some (.int .i64 x) := ((Kept.refl W []).alloc _).cell (by simp) hx
  obtain ⟨b0, b1, b2, b3, b4, b5, b6, b7⟩ := e
  unfold ofX
  simp only [Ev.cs] at *
  go_enter Tryz.func138, Tryz.ntmps138
  go_wp2
  go_ret
  exact ⟨rfl, (Kept.refl W []).alloc _⟩

end Go.Proofs.YticiofkiffgclaaGreat
