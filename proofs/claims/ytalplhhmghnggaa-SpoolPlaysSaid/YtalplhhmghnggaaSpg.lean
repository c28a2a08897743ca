/-
  slices.DeleteFunc on events: its contract; the code's spools: Forget.
-/
import Derived.Test.YtalplhhmghnggaaSpf
namespace Go.Proofs.Ytalplhhmghnggaa
set_option linter.unusedVariables false
open Go.RowKit

theorem Fo.one {O : Nat → Prop} {a b c : World} (h : Fo O a b) (k : Kept b c []) : Fo O a c := h.trans (Fo.ofKept k O)

theorem Fo.set8 {O : Nat → Prop} {a w : World} {g : Nat} (h : Fo O a w) (hg : O g) (k : Nat) (u0 u1 u2 u3 u4 u5 u6 u7 : Value) :
    Fo O a ((((((((w.setCell ⟨g, k, none⟩ u0).setCell ⟨g, k + 1, none⟩ u1).setCell ⟨g, k + 2, none⟩ u2).setCell ⟨g, k + 3, none⟩ u3).setCell ⟨g, k + 4, none⟩ u4).setCell ⟨g, k + 5, none⟩ u5).setCell ⟨g, k + 6, none⟩ u6).setCell ⟨g, k + 7, none⟩ u7) :=
  (((((((h.setCell (p := ⟨g, k, none⟩) (.inl hg) u0).setCell (p := ⟨g, k + 1, none⟩) (.inl hg) u1).setCell (p := ⟨g, k + 2, none⟩) (.inl hg) u2).setCell (p := ⟨g, k + 3, none⟩) (.inl hg) u3).setCell (p := ⟨g, k + 4, none⟩) (.inl hg) u4).setCell (p := ⟨g, k + 5, none⟩) (.inl hg) u5).setCell (p := ⟨g, k + 6, none⟩) (.inl hg) u6).setCell (p := ⟨g, k + 7, none⟩) (.inl hg) u7

set_option maxHeartbeats 4000000 in
set_option maxRecDepth 20000 in
theorem edeleteFunc_some {w : World} {base g cap : Nat} (l : List Ev) (ho : OwnE w base 36 (.slice (some ⟨g, 0, none⟩) l.length cap) l) (hlen : l.length < 1000000) (c : Nat) (lb : Array Value) (P : Ev → Bool) (ec : ∀ args w, (callFunc c args).run Try.prog w = .ok (.enter c args) w) (hc : PaysE w (fun k => k = g) c lb P) :
    Calls Try.prog 29 #[.slice (some ⟨g, 0, none⟩) l.length cap, .func (.func c) #[] lb] w fun e w' => e = .returned (.slice (some ⟨g, 0, none⟩) (l.filter fun r => !P r).length cap) ∧
      OwnE w' base 36 (.slice (some ⟨g, 0, none⟩) (l.filter fun r => !P r).length cap) (l.filter fun r => !P r) ∧ Fo (fun k => k = g) w w' := by
  have HC := Lib.hid hc
  have HO := Lib.hid ho
  have ci := eindexFunc_any _ ho hlen c lb P ec _ hc
  rcases ho.2 with ⟨h0, _⟩ | ⟨g', cap', cur, h0, hbg, hg, hnc, hcm, hcs, htk⟩
  · cases h0
  simp only [Value.slice.injEq, Option.some.injEq, Addr.mk.injEq] at h0
  obtain ⟨⟨rfl, _⟩, _, rfl⟩ := h0
  cases hi : l.findIdx? P with
  | none =>
    have e1 : eidx P l = -1 := by rw [eidx, hi]
    rw [e1] at ci
    have e2 : (l.filter fun r => !P r) = l := by
      rw [List.filter_eq_self]
      intro r hr
      rw [List.findIdx?_eq_none_iff] at hi
      simp [hi r hr]
    rw [e2]
    clear hc ho hbg hg hnc hcm hcs htk e1 hi e2
    go_enter Try.func29, Try.ntmps29
    go_wp2_with (go_at_call 38; refine ci.mono ?_; rintro e w' ⟨rfl, k2⟩)
    go_ret
    exact ⟨rfl, HO.out.kept k2 (by simp), Fo.ofKept k2 _⟩
  | some k0 =>
    have e1 : eidx P l = k0 := by rw [eidx, hi]
    have hlt := efind_lt hi
    rw [e1] at ci
    have hx1 : ((k0 : Int) == -1) = false := beq_eq_false_iff_ne.2 (by omega)
    have start : ∀ V, Kept w V [] → EMid V base g cap l P k0 (k0 + 1) := by
      intro V hV
      rw [List.findIdx?_eq_some_iff_getElem] at hi
      obtain ⟨h1, h2, h3⟩ := hi
      have hk : ekeptTo P l k0 = l.take k0 := by
        rw [ekeptTo, List.filter_eq_self]
        intro r hr
        obtain ⟨m, hm, e⟩ := List.mem_iff_getElem.1 hr
        rw [List.getElem_take] at e
        simp only [List.length_take] at hm
        have := h3 m (by omega)
        rw [e] at this
        simpa using this
      have hk1 : ekeptTo P l (k0 + 1) = l.take k0 := by rw [ekeptTo_miss (List.getElem?_eq_getElem h1) h2, hk]
      exact ⟨⟨l, ho.kept hV (by simp), by rw [hk1], rfl, rfl⟩, by rw [hk1]; simp; omega, by omega, by omega⟩
    have ST := Lib.hid start
    have HL : RowKit.Hid (l.length ≤ cap ∧ cap ≤ maxLen ∧ base ≤ g) := Lib.hid ⟨hnc, hcm, hbg⟩
    clear hc ho hbg hg hnc hcm hcs htk e1 hi start
    go_enter Try.func29, Try.ntmps29
    go_wp2_with (go_at_call 38; refine ci.mono ?_; rintro e w1 ⟨rfl, k1⟩)
    go_loopw [5, 6, 7] (fun s5 s6 _ wr => ∃ i j : Nat, s5 = .int .i64 i ∧ s6 = .int .i64 j ∧ EMid wr base g cap l P i j ∧ Fo (fun k => k = g) w wr) (fun _ s6 _ _ => l.length - (intOf s6).toNat)
    case atStart => exact ⟨k0, k0 + 1, rfl, by go_num, ST.out _ k1, Fo.ofKept k1 _⟩
    case round =>
      obtain ⟨i, j, rfl, rfl, m, fo⟩ := hrel
      have M := Lib.hid m; have FO := Lib.hid fo
      have hle := m.le
      have hij := m.lt
      clear m fo
      by_cases hj : j < l.length
      · obtain ⟨r, hr⟩ : ∃ r, l[j]? = some r := ⟨_, List.getElem?_eq_getElem hj⟩
        obtain ⟨X, hX, hXr⟩ := M.out.cells hr
        obtain ⟨c0, c1, c2, c3, c4, c5, c6, c7⟩ := hX.eight hXr
        have HR := Lib.hid hr
        have x1 : (j : Int) < (l.length : Int) := by omega
        have x2 : (i : Int) < (l.length : Int) := by omega
        have call := HC.out r
        obtain ⟨q, hq⟩ : ∃ q, P r = q := ⟨_, rfl⟩
        rw [hq] at call
        have HQ := Lib.hid hq
        have CALL := Lib.hid call
        clear hr hq call hX hXr X
        obtain ⟨b0, b1, b2, b3, b4, b5, b6, b7⟩ := r
        simp only [Ev.cs] at c0 c1 c2 c3 c4 c5 c6 c7 CALL
        go_wp2_with fail
        refine (CALL.out _ (FO.out.alloc _)).mono ?_
        rintro e w2 ⟨rfl, k2⟩
        have bb := k2.heap (by simp) (heap_alloc_new wr (.cells #[.int .i64 b0, .int .i64 b1, .string b2, .int .i64 b3, .int .i64 b4, .int .u8 b5, .int .i64 b6, .string b7] 36))
        have K2 := Lib.hid (((Kept.refl wr []).alloc (.cells #[.int .i64 b0, .int .i64 b1, .string b2, .int .i64 b3, .int .i64 b4, .int .u8 b5, .int .i64 b6, .string b7] 36)).trans k2 (by simp))
        obtain ⟨y0, y1, y2, y3, y4, y5, y6, y7⟩ := ev_cells bb
        obtain ⟨X, s, hX, hXs⟩ := M.out.spot
        obtain ⟨z0, z1, z2, z3, z4, z5, z6, z7⟩ := (hX.kept K2.out (by simp)).eight hXs
        obtain ⟨f0, f1, f2, f3, f4, f5, f6, f7⟩ := (hX.kept K2.out (by simp)).eightF hXs
        clear k2 bb c0 c1 c2 c3 c4 c5 c6 c7 hX hXs X
        cases q
        · go_wp2
          go_roundw
          case rel =>
            have m2 := EMid.put (w' := w2) M.out HR.out HQ.out K2.out
            have f2 := (FO.out.one K2.out).set8 (g := g) rfl (i * 8) (.int .i64 b0) (.int .i64 b1) (.string b2) (.int .i64 b3) (.int .i64 b4) (.int .u8 b5) (.int .i64 b6) (.string b7)
            exact ⟨i + 1, j + 1, by go_num, by go_num, m2, f2⟩
          case measure => simp [intOf]; omega
        · go_wp2
          go_roundw
          case rel => exact ⟨i, j + 1, rfl, by go_num, M.out.skip HR.out HQ.out K2.out, FO.out.one K2.out⟩
          case measure => simp [intOf]; omega
      · obtain rfl : j = l.length := by omega
        have x1 : ¬ (l.length : Int) < (l.length : Int) := by omega
        have x2 : (i : Int) ≤ (l.length : Int) := by omega
        have x3 : (i : Int) ≤ (cap : Int) := by have := HL.out.1; omega
        have x4 : (l.length : Int) ≤ (cap : Int) := by have := HL.out.1; omega
        have x5 : i < cap := by have := HL.out.1; omega
        obtain ⟨vs, hcl⟩ := M.out.clear
        go_wp2
        go_ret
        obtain ⟨e1, e2⟩ := M.out.done vs
        rw [← e1]
        exact ⟨rfl, e2, Fo.setCells (O := fun k => k = g) rfl vs (i * 8) _ _ FO.out⟩

theorem edeleteFunc_any {w : World} {base : Nat} {v : Value} {l : List Ev} (ho : OwnE w base 36 v l) (hlen : l.length < 1000000) (c : Nat) (lb : Array Value) (P : Ev → Bool) (ec : ∀ args w, (callFunc c args).run Try.prog w = .ok (.enter c args) w) (hc : PaysE w (fun k => v.ownBlock = some k) c lb P) :
    Calls Try.prog 29 #[v, .func (.func c) #[] lb] w fun e w' => ∃ v', e = .returned v' ∧ OwnE w' base 36 v' (l.filter fun r => !P r) ∧ (∀ k, v'.ownBlock = some k → v.ownBlock = some k) ∧ Fo (fun k => v.ownBlock = some k) w w' := by
  rcases ho.2 with ⟨rfl, h0⟩ | ⟨g, cap, cur, rfl, hbg, hg, hnc, hcm, hcs, htk⟩
  · obtain rfl : l = [] := List.eq_nil_of_length_eq_zero h0
    have ci := eindexFunc_any _ ho hlen c lb P ec _ hc
    have e1 : eidx P [] = -1 := rfl
    rw [e1] at ci
    have HO := Lib.hid ho
    clear ho hc
    go_enter Try.func29, Try.ntmps29
    go_wp2_with (go_at_call 38; refine ci.mono ?_; rintro e w' ⟨rfl, k2⟩)
    go_ret
    exact ⟨_, rfl, HO.out.kept k2 (by simp [Value.ownBlock]), fun k hk => hk, Fo.ofKept k2 _⟩
  · have e : (fun k => (Value.slice (some ⟨g, 0, none⟩) l.length cap).ownBlock = some k) = (fun k => k = g) := by
      funext k
      simp only [Value.ownBlock, Option.some.injEq]
      exact propext ⟨fun h => h.symm, fun h => h.symm⟩
    rw [e] at hc ⊢
    refine (edeleteFunc_some l ho hlen c lb P ec hc).mono ?_
    rintro r w' ⟨rfl, h1, h2⟩
    exact ⟨_, rfl, h1, fun k hk => hk, h2⟩

/-- A transaction's. -/
def ofX (x : Int) (e : Ev) : Bool := e.tx == x

set_option maxHeartbeats 1000000 in
theorem ofX_any (e : Ev) (x : Int) (xb : Nat) (W : World) (hx : W.cell? ⟨xb, 0, none⟩ = some (.int .i64 x)) (hxb : xb < W.heap.size) :
    Calls Try.prog 28 #[.agg e.cs, .pointer (some ⟨xb, 0, none⟩)] W fun r w' => r = .returned (.bool (ofX x e)) ∧ Kept W w' [] := by
  have hy : (W.alloc (.cells e.cs 36)).cell? ⟨xb, 0, none⟩ = some (.int .i64 x) := ((Kept.refl W []).alloc _).cell (by simp) hx
  obtain ⟨b0, b1, b2, b3, b4, b5, b6, b7⟩ := e
  unfold ofX
  simp only [Ev.cs] at *
  go_enter Try.func28, Try.ntmps28
  go_wp2
  go_ret
  exact ⟨rfl, (Kept.refl W []).alloc _⟩

end Go.Proofs.Ytalplhhmghnggaa
