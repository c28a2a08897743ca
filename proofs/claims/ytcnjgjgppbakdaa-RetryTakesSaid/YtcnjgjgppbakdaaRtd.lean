/-
  slices.IndexFunc, ContainsFunc, DeleteFunc on elements of some cells.
-/
import Derived.Test.YtcnjgjgppbakdaaRows
import Derived.Test.YtcnjgjgppbakdaaGke
import Derived.Test.YtcnjgjgppbakdaaIta
import Derived.LoopTactic
import Derived.Lib.SliceRun
import Derived.Shelf.Abstract
import Derived.Deep.QuietTactic
import Derived.BigQuiet
import Derived.RegionTactic
namespace Go.Proofs.Ytcnjgjgppbakdaa
set_option linter.unusedVariables false
open Go.RowKit

theorem cellsR_r {w : World} {b o n c : Nat} {l : List It} (h : RdK encIt w (.slice (some ⟨b, o, none⟩) n c) l) {k : Nat} {x : It} (hx : l[k]? = some x) :
    w.cell? ⟨b, o + k * 9, none⟩ = some (.int .i64 x.a) ∧ w.cell? ⟨b, o + k * 9 + 1, none⟩ = some (.int .i64 x.e.id) ∧ w.cell? ⟨b, o + k * 9 + 2, none⟩ = some (.int .i64 x.e.tx) ∧ w.cell? ⟨b, o + k * 9 + 3, none⟩ = some (.string x.e.ow) ∧ w.cell? ⟨b, o + k * 9 + 4, none⟩ = some (.int .i64 x.e.tr) ∧ w.cell? ⟨b, o + k * 9 + 5, none⟩ = some (.int .i64 x.e.tb) ∧ w.cell? ⟨b, o + k * 9 + 6, none⟩ = some (.int .u8 x.e.kd) ∧ w.cell? ⟨b, o + k * 9 + 7, none⟩ = some (.int .i64 x.e.key) ∧ w.cell? ⟨b, o + k * 9 + 8, none⟩ = some (.string x.e.t) :=
  ⟨h.here hx 0 (by decide), h.here hx 1 (by decide), h.here hx 2 (by decide), h.here hx 3 (by decide), h.here hx 4 (by decide), h.here hx 5 (by decide), h.here hx 6 (by decide), h.here hx 7 (by decide), h.here hx 8 (by decide)⟩
theorem cellsO_r {w : World} {base : Nat} {e : TypeId} {g n c : Nat} {l : List It} (h : OwnK encIt w base e (.slice (some ⟨g, 0, none⟩) n c) l) {k : Nat} {x : It} (hx : l[k]? = some x) :
    (w.cell? ⟨g, k * 9, none⟩ = some (.int .i64 x.a) ∧ w.cell? ⟨g, k * 9 + 1, none⟩ = some (.int .i64 x.e.id) ∧ w.cell? ⟨g, k * 9 + 2, none⟩ = some (.int .i64 x.e.tx) ∧ w.cell? ⟨g, k * 9 + 3, none⟩ = some (.string x.e.ow) ∧ w.cell? ⟨g, k * 9 + 4, none⟩ = some (.int .i64 x.e.tr) ∧ w.cell? ⟨g, k * 9 + 5, none⟩ = some (.int .i64 x.e.tb) ∧ w.cell? ⟨g, k * 9 + 6, none⟩ = some (.int .u8 x.e.kd) ∧ w.cell? ⟨g, k * 9 + 7, none⟩ = some (.int .i64 x.e.key) ∧ w.cell? ⟨g, k * 9 + 8, none⟩ = some (.string x.e.t)) ∧ (w.frozen? ⟨g, k * 9, none⟩ = false ∧ w.frozen? ⟨g, k * 9 + 1, none⟩ = false ∧ w.frozen? ⟨g, k * 9 + 2, none⟩ = false ∧ w.frozen? ⟨g, k * 9 + 3, none⟩ = false ∧ w.frozen? ⟨g, k * 9 + 4, none⟩ = false ∧ w.frozen? ⟨g, k * 9 + 5, none⟩ = false ∧ w.frozen? ⟨g, k * 9 + 6, none⟩ = false ∧ w.frozen? ⟨g, k * 9 + 7, none⟩ = false ∧ w.frozen? ⟨g, k * 9 + 8, none⟩ = false) := by
  obtain ⟨g', hg, hc⟩ := h.at hx
  simp only [Option.some.injEq, Addr.mk.injEq] at hg
  obtain ⟨rfl, _⟩ := hg
  exact ⟨⟨(hc 0 (by decide)).1, (hc 1 (by decide)).1, (hc 2 (by decide)).1, (hc 3 (by decide)).1, (hc 4 (by decide)).1, (hc 5 (by decide)).1, (hc 6 (by decide)).1, (hc 7 (by decide)).1, (hc 8 (by decide)).1⟩, ⟨(hc 0 (by decide)).2, (hc 1 (by decide)).2, (hc 2 (by decide)).2, (hc 3 (by decide)).2, (hc 4 (by decide)).2, (hc 5 (by decide)).2, (hc 6 (by decide)).2, (hc 7 (by decide)).2, (hc 8 (by decide)).2⟩⟩

/-- What a predicate is asked, while its own row turns. -/
def PaysP_r (w : World) (O : Nat → Prop) (c : Nat) (lb : Array Value) (P : It → Bool) : Prop :=
  ∀ (r : It) (V : World), Fo O w V → Calls Try.prog c (#[.agg (encIt.cs r)] ++ lb) V fun e w' => e = .returned (.bool (P r)) ∧ Kept V w' []
theorem PaysP_r.after {w W1 : World} {O : Nat → Prop} {c : Nat} {lb : Array Value} {P : It → Bool} (hc : PaysP_r w O c lb P) (k : Kept w W1 []) : PaysP_r W1 O c lb P := fun r V hV => hc r V ((Fo.ofKept k O).trans hV)

variable {w w' : World} {base : Nat} {l : List It}

set_option maxHeartbeats 2000000 in
theorem rindexFunc_any {sv : Value} (ho : RdK encIt w sv l) (hlen : l.length < 1000000) (c : Nat) (lb : Array Value) (P : It → Bool) (ec : ∀ args w, (callFunc c args).run Try.prog w = .ok (.enter c args) w) (O : Nat → Prop) (hc : PaysP_r w O c lb P) :
    Calls Try.prog 40 #[sv, .func (.func c) #[] lb] w fun e w' => e = .returned (.int .i64 (gidx P l)) ∧ Kept w w' [] := by
  have HO := Lib.hid ho
  have HC := Lib.hid hc
  clear hc
  obtain ⟨a, cap, rfl, hcap, ha, hcell⟩ := id ho
  by_cases h0 : l = []
  · subst h0
    clear ho hcell ha hcap
    simp only [List.length_nil] at *
    go_enter Try.func40, Try.ntmps40
    go_wp2
    go_loop [5, 8] (fun _ t => t = .int .i64 0) (fun _ _ => 0)
    case atStart => rfl
    case round =>
      subst hrel
      go_wp2
      go_ret
      exact ⟨rfl, Kept.refl w []⟩
  · obtain ⟨b, o, rfl, -⟩ := hcell h0
    clear ho hcell ha hcap h0
    go_enter Try.func40, Try.ntmps40
    go_wp2
    go_loopw [5, 8] (fun _ t wr => ∃ k : Nat, t = .int .i64 k ∧ k ≤ l.length ∧ Kept w wr [] ∧ (∀ j s, j < k → l[j]? = some s → P s = false)) (fun _ t _ => l.length - (intOf t).toNat)
    case atStart => exact ⟨0, rfl, Nat.zero_le _, Kept.refl w [], fun j s hj => absurd hj (Nat.not_lt_zero _)⟩
    case round =>
      obtain ⟨k, rfl, hk, hkw, hx⟩ := hrel
      have Hx := Lib.hid hx; have K := Lib.hid hkw
      clear hx hkw
      by_cases hlt : k < l.length
      · obtain ⟨r, hr⟩ : ∃ r, l[k]? = some r := ⟨_, List.getElem?_eq_getElem hlt⟩
        obtain ⟨c0, c1, c2, c3, c4, c5, c6, c7, c8⟩ := cellsR_r (HO.out.keep K.out) hr
        have HR := Lib.hid hr
        have x1 : (k : Int) < (l.length : Int) := by omega
        have call := HC.out r wr (Fo.ofKept K.out _)
        obtain ⟨q, hq⟩ : ∃ q, P r = q := ⟨_, rfl⟩
        rw [hq] at call
        have HQ := Lib.hid hq
        clear hr hq
        obtain ⟨b0, ⟨b1, b2, b3, b4, b5, b6, b7, b8⟩⟩ := r
        simp only [encIt, It.cs] at c0 c1 c2 c3 c4 c5 c6 c7 c8 call
        cases q
        · go_wp2_with (go_at_fn c; refine call.mono ?_; rintro e w2 ⟨rfl, k2⟩)
          go_roundw
          case rel =>
            refine ⟨k + 1, by go_num, by omega, K.out.trans k2 (by simp), fun j s hj hs => ?_⟩
            by_cases e : j = k
            · subst e
              rw [HR.out] at hs
              cases hs
              exact HQ.out
            · exact Hx.out j s (by omega) hs
          case measure => simp [intOf]; omega
        · have R : RowKit.Hid (gidx P l = k) := Lib.hid (by rw [gidx, gidx_hit HR.out HQ.out Hx.out])
          go_wp2_with (go_at_fn c; refine call.mono ?_; rintro e w2 ⟨rfl, k2⟩)
          go_ret
          rw [R.out]
          exact ⟨rfl, K.out.trans k2 (by simp)⟩
      · have R : RowKit.Hid (gidx P l = -1) := Lib.hid (by rw [gidx, gidx_miss (fun j s hj => Hx.out j s (by omega))])
        have x1 : ¬ (k : Int) < (l.length : Int) := by omega
        go_wp2
        go_ret
        rw [R.out]
        exact ⟨rfl, K.out⟩

set_option maxHeartbeats 1000000 in
theorem rcontains_any {sv : Value} (ho : RdK encIt w sv l) (hlen : l.length < 1000000) (c : Nat) (lb : Array Value) (P : It → Bool) (ec : ∀ args w, (callFunc c args).run Try.prog w = .ok (.enter c args) w) (O : Nat → Prop) (hc : PaysP_r w O c lb P) :
    Calls Try.prog 33 #[sv, .func (.func c) #[] lb] w fun e w' => e = .returned (.bool (l.any P)) ∧ Kept w w' [] := by
  have ci := rindexFunc_any ho hlen c lb P ec O hc
  have R := Lib.hid (gidx_any P l)
  obtain ⟨r, hr⟩ : ∃ r, r = gidx P l := ⟨_, rfl⟩
  rw [← hr] at ci R
  clear ho hc hr
  go_enter Try.func33, Try.ntmps33
  go_wp2_with (go_at_call 40; refine ci.mono ?_; rintro e w' ⟨rfl, k2⟩)
  go_ret
  rw [← R.out]
  exact ⟨rfl, k2⟩

set_option maxHeartbeats 4000000 in
set_option maxRecDepth 20000 in
theorem rdeleteFunc_some {g cap : Nat} (ho : OwnK encIt w base 49 (.slice (some ⟨g, 0, none⟩) l.length cap) l) (hlen : l.length < 1000000) (c : Nat) (lb : Array Value) (P : It → Bool) (ec : ∀ args w, (callFunc c args).run Try.prog w = .ok (.enter c args) w) (hc : PaysP_r w (fun k => k = g) c lb P) :
    Calls Try.prog 30 #[.slice (some ⟨g, 0, none⟩) l.length cap, .func (.func c) #[] lb] w fun e w' => e = .returned (.slice (some ⟨g, 0, none⟩) (l.filter fun r => !P r).length cap) ∧
      OwnK encIt w' base 49 (.slice (some ⟨g, 0, none⟩) (l.filter fun r => !P r).length cap) (l.filter fun r => !P r) ∧ Fo (fun k => k = g) w w' := by
  have HC := Lib.hid hc
  have HO := Lib.hid ho
  have ci := rindexFunc_any ho.rd hlen c lb P ec _ hc
  obtain ⟨R0, _, hbg, -, hnc, hcm, _, _⟩ := ho.row
  cases hi : l.findIdx? P with
  | none =>
    have e1 : gidx P l = -1 := by rw [gidx, hi]
    rw [e1] at ci
    have e2 : (l.filter fun r => !P r) = l := by
      rw [List.filter_eq_self]
      intro r hr
      rw [List.findIdx?_eq_none_iff] at hi
      simp [hi r hr]
    rw [e2]
    clear hc ho hbg hnc hcm e1 hi e2
    go_enter Try.func30, Try.ntmps30
    go_wp2_with (go_at_call 40; refine ci.mono ?_; rintro e w' ⟨rfl, k2⟩)
    go_ret
    exact ⟨rfl, HO.out.keep k2, Fo.ofKept k2 _⟩
  | some k0 =>
    have e1 : gidx P l = k0 := by rw [gidx, hi]
    have hlt := gfind_lt hi
    rw [e1] at ci
    have hx1 : ((k0 : Int) == -1) = false := beq_eq_false_iff_ne.2 (by omega)
    have ST := Lib.hid (fun (V : World) (hV : Kept w V []) => GMid.start (P := P) (ho.keep hV) hi)
    have HL : RowKit.Hid (l.length ≤ cap ∧ cap ≤ maxLen ∧ base ≤ g) := Lib.hid ⟨hnc, hcm, hbg⟩
    clear hc ho hbg hnc hcm e1 hi
    go_enter Try.func30, Try.ntmps30
    go_wp2_with (go_at_call 40; refine ci.mono ?_; rintro e w1 ⟨rfl, k1⟩)
    go_loopw [5, 6, 7] (fun s5 s6 _ wr => ∃ i j : Nat, s5 = .int .i64 i ∧ s6 = .int .i64 j ∧ GMid encIt wr base g cap 49 l P i j ∧ Fo (fun k => k = g) w wr) (fun _ s6 _ _ => l.length - (intOf s6).toNat)
    case atStart => exact ⟨k0, k0 + 1, rfl, by go_num, ST.out _ k1, Fo.ofKept k1 _⟩
    case round =>
      obtain ⟨i, j, rfl, rfl, m, fo⟩ := hrel
      have M := Lib.hid m; have FO := Lib.hid fo
      have hle := m.le
      have hij := m.lt
      clear m fo
      by_cases hj : j < l.length
      · obtain ⟨r, hr⟩ : ∃ r, l[j]? = some r := ⟨_, List.getElem?_eq_getElem hj⟩
        obtain ⟨X, hX, hXr⟩ := M.out.cells hr
        obtain ⟨⟨c0, c1, c2, c3, c4, c5, c6, c7, c8⟩, -⟩ := cellsO_r hX hXr
        have HR := Lib.hid hr
        have x1 : (j : Int) < (l.length : Int) := by omega
        have x2 : (i : Int) < (l.length : Int) := by omega
        have call := HC.out r
        obtain ⟨q, hq⟩ : ∃ q, P r = q := ⟨_, rfl⟩
        rw [hq] at call
        have HQ := Lib.hid hq
        have CALL := Lib.hid call
        clear hr hq call hX hXr X
        obtain ⟨b0, ⟨b1, b2, b3, b4, b5, b6, b7, b8⟩⟩ := r
        simp only [encIt, It.cs] at c0 c1 c2 c3 c4 c5 c6 c7 c8 CALL
        go_wp2_with fail
        refine (CALL.out _ (FO.out.alloc _)).mono ?_
        rintro e w2 ⟨rfl, k2⟩
        have bb := k2.heap (by simp) (heap_alloc_new wr (.cells #[.int .i64 b0, .int .i64 b1, .int .i64 b2, .string b3, .int .i64 b4, .int .i64 b5, .int .u8 b6, .int .i64 b7, .string b8] 49))
        have K2 := Lib.hid (((Kept.refl wr []).alloc (.cells #[.int .i64 b0, .int .i64 b1, .int .i64 b2, .string b3, .int .i64 b4, .int .i64 b5, .int .u8 b6, .int .i64 b7, .string b8] 49)).trans k2 (by simp))
        obtain ⟨y0, y1, y2, y3, y4, y5, y6, y7, y8⟩ : w2.cell? ⟨wr.heap.size, 0, none⟩ = some (.int .i64 b0) ∧ w2.cell? ⟨wr.heap.size, 1, none⟩ = some (.int .i64 b1) ∧ w2.cell? ⟨wr.heap.size, 2, none⟩ = some (.int .i64 b2) ∧ w2.cell? ⟨wr.heap.size, 3, none⟩ = some (.string b3) ∧ w2.cell? ⟨wr.heap.size, 4, none⟩ = some (.int .i64 b4) ∧ w2.cell? ⟨wr.heap.size, 5, none⟩ = some (.int .i64 b5) ∧ w2.cell? ⟨wr.heap.size, 6, none⟩ = some (.int .u8 b6) ∧ w2.cell? ⟨wr.heap.size, 7, none⟩ = some (.int .i64 b7) ∧ w2.cell? ⟨wr.heap.size, 8, none⟩ = some (.string b8) := ⟨by rw [cell_of_row _ _ _ _ _ _ bb]; rfl, by rw [cell_of_row _ _ _ _ _ _ bb]; rfl, by rw [cell_of_row _ _ _ _ _ _ bb]; rfl, by rw [cell_of_row _ _ _ _ _ _ bb]; rfl, by rw [cell_of_row _ _ _ _ _ _ bb]; rfl, by rw [cell_of_row _ _ _ _ _ _ bb]; rfl, by rw [cell_of_row _ _ _ _ _ _ bb]; rfl, by rw [cell_of_row _ _ _ _ _ _ bb]; rfl, by rw [cell_of_row _ _ _ _ _ _ bb]; rfl⟩
        obtain ⟨X, s, hX, hXs⟩ := M.out.spot
        obtain ⟨⟨z0, z1, z2, z3, z4, z5, z6, z7, z8⟩, ⟨f0, f1, f2, f3, f4, f5, f6, f7, f8⟩⟩ := cellsO_r (hX.keep K2.out) hXs
        clear k2 bb c0 c1 c2 c3 c4 c5 c6 c7 c8 hX hXs X
        cases q
        · go_wp2
          go_roundw
          case rel =>
            have m2 := GMid.put (w' := w2) M.out HR.out HQ.out K2.out
            have f2 := putAll_fo (g := g) (encIt.cs ⟨b0, ⟨b1, b2, b3, b4, b5, b6, b7, b8⟩⟩).toList w2 (i * encIt.k) (FO.out.oneK K2.out) (.inl rfl)
            exact ⟨i + 1, j + 1, by go_num, by go_num, m2, f2⟩
          case measure => simp [intOf]; omega
        · go_wp2
          go_roundw
          case rel => exact ⟨i, j + 1, rfl, by go_num, M.out.skip HR.out HQ.out K2.out, FO.out.oneK K2.out⟩
          case measure => simp [intOf]; omega
      · obtain rfl : j = l.length := by omega
        have x1 : ¬ (l.length : Int) < (l.length : Int) := by omega
        have x2 : (i : Int) ≤ (l.length : Int) := by omega
        have x3 : (i : Int) ≤ (cap : Int) := by have := HL.out.1; omega
        have x4 : (l.length : Int) ≤ (cap : Int) := by have := HL.out.1; omega
        have x5 : i < cap := by have := HL.out.1; omega
        have x6 : ¬ (cap = i) := by omega
        obtain ⟨w3, hcl, h3a, h3b, h3c⟩ := M.out.fin (Q := Try.prog) 45 _ Try.underlying45 (fun w => Try.zeroValue49 w) (by
          intro v hv
          simp [Value.cells] at hv
          (repeat' (rcases hv with rfl | hv)) <;> first | rfl | (subst hv; rfl)) (by rfl)
        have H3A := Lib.hid h3a; have H3B := Lib.hid h3b; have H3C := Lib.hid h3c
        have HCL : Hid (∀ ty, (Builtin.clear_ #[45] ty #[.slice (some ⟨g, i * 9, none⟩) (l.length - i) (cap - i)]).run Try.prog wr = .ok (.tuple #[]) w3) := Lib.hid hcl
        clear hcl h3a h3b h3c
        go_wp2_with (refine wpList_clear_run _ rfl (.tmp 38) 45 rfl _ rfl w3 (HCL.out _) ?_)
        go_ret
        rw [← H3A.out]
        exact ⟨rfl, H3B.out, FO.out.trans H3C.out⟩

theorem rdeleteFunc_any {v : Value} (ho : OwnK encIt w base 49 v l) (hlen : l.length < 1000000) (c : Nat) (lb : Array Value) (P : It → Bool) (ec : ∀ args w, (callFunc c args).run Try.prog w = .ok (.enter c args) w) (hc : PaysP_r w (fun k => v.ownBlock = some k) c lb P) :
    Calls Try.prog 30 #[v, .func (.func c) #[] lb] w fun e w' => ∃ v', e = .returned v' ∧ OwnK encIt w' base 49 v' (l.filter fun r => !P r) ∧ (∀ k, v'.ownBlock = some k → v.ownBlock = some k) ∧ Fo (fun k => v.ownBlock = some k) w w' := by
  rcases id ho.2 with ⟨rfl, h0⟩ | ⟨g, cap, cur, rfl, _⟩
  · obtain rfl : l = [] := List.eq_nil_of_length_eq_zero h0
    have ci := rindexFunc_any ho.rd hlen c lb P ec _ hc
    have e1 : gidx P [] = -1 := rfl
    rw [e1] at ci
    have HO := Lib.hid ho
    clear ho hc
    go_enter Try.func30, Try.ntmps30
    go_wp2_with (go_at_call 40; refine ci.mono ?_; rintro e w' ⟨rfl, k2⟩)
    go_ret
    exact ⟨_, rfl, HO.out.keep k2, fun k hk => hk, Fo.ofKept k2 _⟩
  · have e : (fun k => (Value.slice (some ⟨g, 0, none⟩) l.length cap).ownBlock = some k) = (fun k => k = g) := by
      funext k
      simp only [Value.ownBlock, Option.some.injEq]
      exact propext ⟨fun h => h.symm, fun h => h.symm⟩
    rw [e] at hc ⊢
    refine (rdeleteFunc_some ho hlen c lb P ec hc).mono ?_
    rintro r w' ⟨rfl, h1, h2⟩
    exact ⟨_, rfl, h1, fun k hk => hk, h2⟩

end Go.Proofs.Ytcnjgjgppbakdaa
