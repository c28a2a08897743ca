/-
 Rtd, Rts in one text.
-/
import Derived.Test.YticiofkiffgclaaGreatQu0
import Derived.Test.YticiofkiffgclaaGreatRows
import Derived.Test.YticiofkiffgclaaGreatQu2
import Derived.LoopTactic
import Derived.Lib.SliceRun
import Derived.Shelf.Abstract
import Derived.Deep.QuietTactic
import Derived.BigQuiet
import Derived.RegionTactic
import Derived.Test.YticiofkiffgclaaGreatQu1
import Derived.Deep.DeepCutAuto
import Derived.Deep.RegionHeld3
set_option linter.unusedVariables false
set_option maxHeartbeats 16000000
set_option maxRecDepth 100000
namespace Go.Proofs.YticiofkiffgclaaGreat
open Go.RowKit
theorem cellsR_r {w : World} {b o n c : Nat} {l : List It} (h : RdK encIt w (.slice (some ⟨b, o, none⟩) n c) l) {k : Nat} {x : It} (hx : l[k]? = some x) :
 w.cell? ⟨b, o + k * 9, none⟩ = some (.int .i64 x.a) /\ w.cell? ⟨b, o + k * 9 + 1, none⟩ = some (.int .i64 x.e.id) /\ w.cell? ⟨b, o + k * 9 + 2, none⟩ = some (.int .i64 x.e.tx) /\ w.cell? ⟨b, o + k * 9 + 3, none⟩ = some (.string x.e.ow) /\ w.cell? ⟨b, o + k * 9 + 4, none⟩ = some (.int .i64 x.e.tr) /\ w.cell? ⟨b, o + k * 9 + 5, none⟩ = some (.int .i64 x.e.tb) /\ w.cell? ⟨b, o + k * 9 + 6, none⟩ = some (.int .u8 x.e.kd) /\ w.cell? ⟨b, o + k * 9 + 7, none⟩ = some (.int .i64 x.e.key) /\ w.cell? ⟨b, o + k * 9 + 8, none⟩ = some (.string x.e.t) :=
 ⟨h.here hx 0 (by decide), h.here hx 1 (by decide), h.here hx 2 (by decide), h.here hx 3 (by decide), h.here hx 4 (by decide), h.here hx 5 (by decide), h.here hx 6 (by decide), h.here hx 7 (by decide), h.here hx 8 (by decide)⟩
theorem cellsO_r {w : World} {base : Nat} {e : TypeId} {g n c : Nat} {l : List It} (h : OwnK encIt w base e (.slice (some ⟨g, 0, none⟩) n c) l) {k : Nat} {x : It} (hx : l[k]? = some x) :
 (w.cell? ⟨g, k * 9, none⟩ = some (.int .i64 x.a) /\ w.cell? ⟨g, k * 9 + 1, none⟩ = some (.int .i64 x.e.id) /\ w.cell? ⟨g, k * 9 + 2, none⟩ = some (.int .i64 x.e.tx) /\ w.cell? ⟨g, k * 9 + 3, none⟩ = some (.string x.e.ow) /\ w.cell? ⟨g, k * 9 + 4, none⟩ = some (.int .i64 x.e.tr) /\ w.cell? ⟨g, k * 9 + 5, none⟩ = some (.int .i64 x.e.tb) /\ w.cell? ⟨g, k * 9 + 6, none⟩ = some (.int .u8 x.e.kd) /\ w.cell? ⟨g, k * 9 + 7, none⟩ = some (.int .i64 x.e.key) /\ w.cell? ⟨g, k * 9 + 8, none⟩ = some (.string x.e.t)) /\ (w.frozen? ⟨g, k * 9, none⟩ = false /\ w.frozen? ⟨g, k * 9 + 1, none⟩ = false /\ w.frozen? ⟨g, k * 9 + 2, none⟩ = false /\ w.frozen? ⟨g, k * 9 + 3, none⟩ = false /\ w.frozen? ⟨g, k * 9 + 4, none⟩ = false /\ w.frozen? ⟨g, k * 9 + 5, none⟩ = false /\ w.frozen? ⟨g, k * 9 + 6, none⟩ = false /\ w.frozen? ⟨g, k * 9 + 7, none⟩ = false /\ w.frozen? ⟨g, k * 9 + 8, none⟩ = false) := by
 obtain ⟨g', hg, hc⟩ := h.at hx
 simp only [Option.some.injEq, Addr.mk.injEq] at hg
 obtain ⟨rfl, _⟩ := hg
 exact ⟨⟨(hc 0 (by decide)).1, (hc 1 (by decide)).1, (hc 2 (by decide)).1, (hc 3 (by decide)).1, (hc 4 (by decide)).1, (hc 5 (by decide)).1, (hc 6 (by decide)).1, (hc 7 (by decide)).1, (hc 8 (by decide)).1⟩, ⟨(hc 0 (by decide)).2, (hc 1 (by decide)).2, (hc 2 (by decide)).2, (hc 3 (by decide)).2, (hc 4 (by decide)).2, (hc 5 (by decide)).2, (hc 6 (by decide)).2, (hc 7 (by decide)).2, (hc 8 (by decide)).2⟩⟩
def PaysP_r (w : World) (O : Nat -> Prop) (c : Nat) (lb : Array Value) (P : It -> Bool) : Prop :=
 ∀ (r : It) (V : World), Fo O w V -> Calls Tryz.prog c (#[.agg (encIt.cs r)] ++ lb) V fun e w' => e = .returned (.bool (P r)) /\ Kept V w' []
variable {w w' : World} {base : Nat} {l : List It}
theorem yqx {sv : Value} (ho : RdK encIt w sv l) (hlen : l.length < 1000000) (c : Nat) (lb : Array Value) (P : It -> Bool) (ec : ∀ args w, (callFunc c args).run Tryz.prog w = .ok (.enter c args) w) (O : Nat -> Prop) (hc : PaysP_r w O c lb P) :
 Calls Tryz.prog 194 #[sv, .func (.func c) #[] lb] w fun e w' => e = .returned (.int .i64 (gidx P l)) /\ Kept w w' [] := by
 have HO := iH ho
 have HC := iH hc
 clear hc
 obtain ⟨a, cap, rfl, hcap, ha, hcell⟩ := id ho
 by_cases h0 : l = []
 ·subst h0
  clear ho hcell ha hcap
  simp only [List.length_nil] at *
  go_enter Tryz.func194, Tryz.ntmps194
  go_wp2
  go_loop [5, 8] (fun _ t => t = .int .i64 0) (fun _ _ => 0)
  case atStart => rfl
  case round =>
  subst hrel
  go_wp2
  go_ret
  exact ⟨rfl, Kept.refl w []⟩
 ·obtain ⟨b, o, rfl, -⟩ := hcell h0
  clear ho hcell ha hcap h0
  go_enter Tryz.func194, Tryz.ntmps194
  go_wp2
  go_loopw [5, 8] (fun _ t wr => ∃ k : Nat, t = .int .i64 k /\ k <= l.length /\ Kept w wr [] /\ (∀ j s, j < k -> l[j]? = some s -> P s = false)) (fun _ t _ => l.length - (intOf t).toNat)
  case atStart => exact ⟨0, rfl, Nat.zero_le _, Kept.refl w [], fun j s hj => absurd hj (Nat.not_lt_zero _)⟩
  case round =>
  obtain ⟨k, rfl, hk, hkw, hx⟩ := hrel
  have Hx := iH hx; have K := iH hkw
  clear hx hkw
  by_cases hlt : k < l.length
  ·obtain ⟨r, hr⟩ : ∃ r, l[k]? = some r := ⟨_, List.getElem?_eq_getElem hlt⟩
   obtain ⟨c0, c1, c2, c3, c4, c5, c6, c7, c8⟩ := cellsR_r (HO.out.keep K.out) hr
   have HR := iH hr
   have x1 : (k : Int) < (l.length : Int) := by omega
   have call := HC.out r wr (Fo.ofKept K.out _)
   obtain ⟨q, hq⟩ : ∃ q, P r = q := ⟨_, rfl⟩
   rw [hq] at call
   have HQ := iH hq
   clear hr hq
   obtain ⟨b0, ⟨b1, b2, b3, b4, b5, b6, b7, b8⟩⟩ := r
   simp only [encIt, It.cs] at c0 c1 c2 c3 c4 c5 c6 c7 c8 call
   cases q
   ·go_wp2_with (go_at_fn c; refine call.mono ?_; rintro e w2 ⟨rfl, k2⟩)
    go_roundw
    case rel =>
     refine ⟨k + 1, by go_num, by omega, K.out.trans k2 (by simp), fun j s hj hs => ?_⟩
     by_cases e : j = k
     ·subst e
      rw [HR.out] at hs
      cases hs
      exact HQ.out
     exact Hx.out j s (by omega) hs
    case measure => simp [intOf]; omega
   have R : RowKit.Hid (gidx P l = k) := iH (by rw [gidx, gidx_hit HR.out HQ.out Hx.out])
   go_wp2_with (go_at_fn c; refine call.mono ?_; rintro e w2 ⟨rfl, k2⟩)
   go_ret
   rw [R.out]
   exact ⟨rfl, K.out.trans k2 (by simp)⟩
  have R : RowKit.Hid (gidx P l = -1) := iH (by rw [gidx, gidx_miss (fun j s hj => Hx.out j s (by omega))])
  have x1 : ¬ (k : Int) < (l.length : Int) := by omega
  go_wp2
  go_ret
  rw [R.out]
  exact ⟨rfl, K.out⟩
theorem rcontains_any {sv : Value} (ho : RdK encIt w sv l) (hlen : l.length < 1000000) (c : Nat) (lb : Array Value) (P : It -> Bool) (ec : ∀ args w, (callFunc c args).run Tryz.prog w = .ok (.enter c args) w) (O : Nat -> Prop) (hc : PaysP_r w O c lb P) :
 Calls Tryz.prog 188 #[sv, .func (.func c) #[] lb] w fun e w' => e = .returned (.bool (l.any P)) /\ Kept w w' [] := by
 have ci := yqx ho hlen c lb P ec O hc
 have R := iH (gidx_any P l)
 obtain ⟨r, hr⟩ : ∃ r, r = gidx P l := ⟨_, rfl⟩
 rw [<- hr] at ci R
 clear ho hc hr
 go_enter Tryz.func188, Tryz.ntmps188
 go_wp2_with (go_at_call 194; refine ci.mono ?_; rintro e w' ⟨rfl, k2⟩)
 go_ret
 rw [<- R.out]
 exact ⟨rfl, k2⟩
theorem rdeleteFunc_some {g cap : Nat} (ho : OwnK encIt w base 173 (.slice (some ⟨g, 0, none⟩) l.length cap) l) (hlen : l.length < 1000000) (c : Nat) (lb : Array Value) (P : It -> Bool) (ec : ∀ args w, (callFunc c args).run Tryz.prog w = .ok (.enter c args) w) (hc : PaysP_r w (fun k => k = g) c lb P) :
 Calls Tryz.prog 162 #[.slice (some ⟨g, 0, none⟩) l.length cap, .func (.func c) #[] lb] w fun e w' => e = .returned (.slice (some ⟨g, 0, none⟩) (l.filter fun r => !P r).length cap) /\
  OwnK encIt w' base 173 (.slice (some ⟨g, 0, none⟩) (l.filter fun r => !P r).length cap) (l.filter fun r => !P r) /\ Fo (fun k => k = g) w w' := by
 have HC := iH hc
 have HO := iH ho
 have ci := yqx ho.rd hlen c lb P ec _ hc
 obtain ⟨R0, _, hbg, -, hnc, hcm, _, _⟩ := ho.row
 cases hi : l.findIdx? P with
 | none =>
 have e1 : gidx P l = -1 := by rw [gidx, hi]
 rw [e1] at ci
 have e2 : (l.filter fun r => !P r) = l := by
  rw [List.filter_eq_self]
  intro r hr
  rw [List.findIdx?_eq_none_iff] at hi
  simp [hi r hr]
 rw [e2]
 clear hc ho hbg hnc hcm e1 hi e2
 go_enter Tryz.func162, Tryz.ntmps162
 go_wp2_with (go_at_call 194; refine ci.mono ?_; rintro e w' ⟨rfl, k2⟩)
 go_ret
 exact ⟨rfl, HO.out.keep k2, Fo.ofKept k2 _⟩
 | some k0 =>
  have e1 : gidx P l = k0 := by rw [gidx, hi]
  have hlt := gfind_lt hi
  rw [e1] at ci
  have hx1 : ((k0 : Int) == -1) = false := beq_eq_false_iff_ne.2 (by omega)
  have ST := iH (fun (V : World) (hV : Kept w V []) => GMid.start (P := P) (ho.keep hV) hi)
  have HL : RowKit.Hid (l.length <= cap /\ cap <= maxLen /\ base <= g) := iH ⟨hnc, hcm, hbg⟩
  clear hc ho hbg hnc hcm e1 hi
  go_enter Tryz.func162, Tryz.ntmps162
  go_wp2_with (go_at_call 194; refine ci.mono ?_; rintro e w1 ⟨rfl, k1⟩)
  go_loopw [5, 6, 7] (fun s5 s6 _ wr => ∃ i j : Nat, s5 = .int .i64 i /\ s6 = .int .i64 j /\ GMid encIt wr base g cap 173 l P i j /\ Fo (fun k => k = g) w wr) (fun _ s6 _ _ => l.length - (intOf s6).toNat)
  case atStart => exact ⟨k0, k0 + 1, rfl, by go_num, ST.out _ k1, Fo.ofKept k1 _⟩
  case round =>
  obtain ⟨i, j, rfl, rfl, m, fo⟩ := hrel
  have M := iH m; have FO := iH fo
  have hle := m.le
  have hij := m.lt
  clear m fo
  by_cases hj : j < l.length
  ·obtain ⟨r, hr⟩ : ∃ r, l[j]? = some r := ⟨_, List.getElem?_eq_getElem hj⟩
   obtain ⟨X, hX, hXr⟩ := M.out.cells hr
   obtain ⟨⟨c0, c1, c2, c3, c4, c5, c6, c7, c8⟩, -⟩ := cellsO_r hX hXr
   have HR := iH hr
   have x1 : (j : Int) < (l.length : Int) := by omega
   have x2 : (i : Int) < (l.length : Int) := by omega
   have call := HC.out r
   obtain ⟨q, hq⟩ : ∃ q, P r = q := ⟨_, rfl⟩
   rw [hq] at call
   have HQ := iH hq
   have CALL := iH call
   clear hr hq call hX hXr X
   obtain ⟨b0, ⟨b1, b2, b3, b4, b5, b6, b7, b8⟩⟩ := r
   simp only [encIt, It.cs] at c0 c1 c2 c3 c4 c5 c6 c7 c8 CALL
   go_wp2_with fail
   refine (CALL.out _ (FO.out.alloc _)).mono ?_
   rintro e w2 ⟨rfl, k2⟩
   have bb := k2.heap (by simp) (heap_alloc_new wr (.cells #[.int .i64 b0, .int .i64 b1, .int .i64 b2, .string b3, .int .i64 b4, .int .i64 b5, .int .u8 b6, .int .i64 b7, .string b8] 173))
   have K2 := iH (((Kept.refl wr []).alloc (.cells #[.int .i64 b0, .int .i64 b1, .int .i64 b2, .string b3, .int .i64 b4, .int .i64 b5, .int .u8 b6, .int .i64 b7, .string b8] 173)).trans k2 (by simp))
   obtain ⟨y0, y1, y2, y3, y4, y5, y6, y7, y8⟩ : w2.cell? ⟨wr.heap.size, 0, none⟩ = some (.int .i64 b0) /\ w2.cell? ⟨wr.heap.size, 1, none⟩ = some (.int .i64 b1) /\ w2.cell? ⟨wr.heap.size, 2, none⟩ = some (.int .i64 b2) /\ w2.cell? ⟨wr.heap.size, 3, none⟩ = some (.string b3) /\ w2.cell? ⟨wr.heap.size, 4, none⟩ = some (.int .i64 b4) /\ w2.cell? ⟨wr.heap.size, 5, none⟩ = some (.int .i64 b5) /\ w2.cell? ⟨wr.heap.size, 6, none⟩ = some (.int .u8 b6) /\ w2.cell? ⟨wr.heap.size, 7, none⟩ = some (.int .i64 b7) /\ w2.cell? ⟨wr.heap.size, 8, none⟩ = some (.string b8) := ⟨by rw [cell_of_row _ _ _ _ _ _ bb]; rfl, by rw [cell_of_row _ _ _ _ _ _ bb]; rfl, by rw [cell_of_row _ _ _ _ _ _ bb]; rfl, by rw [cell_of_row _ _ _ _ _ _ bb]; rfl, by rw [cell_of_row _ _ _ _ _ _ bb]; rfl, by rw [cell_of_row _ _ _ _ _ _ bb]; rfl, by rw [cell_of_row _ _ _ _ _ _ bb]; rfl, by rw [cell_of_row _ _ _ _ _ _ bb]; rfl, by rw [cell_of_row _ _ _ _ _ _ bb]; rfl⟩
   obtain ⟨X, s, hX, hXs⟩ := M.out.spot
   obtain ⟨⟨z0, z1, z2, z3, z4, z5, z6, z7, z8⟩, ⟨f0, f1, f2, f3, f4, f5, f6, f7, f8⟩⟩ := cellsO_r (hX.keep K2.out) hXs
   clear k2 bb c0 c1 c2 c3 c4 c5 c6 c7 c8 hX hXs X
   cases q
   ·go_wp2
    go_roundw
    case rel =>
     have m2 := GMid.put (w' := w2) M.out HR.out HQ.out K2.out
     have f2 := xqu (g := g) (encIt.cs ⟨b0, ⟨b1, b2, b3, b4, b5, b6, b7, b8⟩⟩).toList w2 (i * encIt.k) (FO.out.oneK K2.out) (.inl rfl)
     exact ⟨i + 1, j + 1, by go_num, by go_num, m2, f2⟩
    case measure => simp [intOf]; omega
   go_wp2
   go_roundw
   case rel => exact ⟨i, j + 1, rfl, by go_num, M.out.skip HR.out HQ.out K2.out, FO.out.oneK K2.out⟩
   case measure => simp [intOf]; omega
  obtain rfl : j = l.length := by omega
  have x1 : ¬ (l.length : Int) < (l.length : Int) := by omega
  have x2 : (i : Int) <= (l.length : Int) := by omega
  have x3 : (i : Int) <= (cap : Int) := by have := HL.out.1; omega
  have x4 : (l.length : Int) <= (cap : Int) := by have := HL.out.1; omega
  have x5 : i < cap := by have := HL.out.1; omega
  have x6 : ¬ (cap = i) := by omega
  obtain ⟨w3, hcl, h3a, h3b, h3c⟩ := M.out.fin (Q := Tryz.prog) 115 _ Tryz.underlying115 (fun w => Tryz.zeroValue173 w) (by
   intro v hv
   simp [Value.cells] at hv
   (repeat' (rcases hv with rfl | hv)) <;> first | rfl | (subst hv; rfl)) (by rfl)
  have H3A := iH h3a; have H3B := iH h3b; have H3C := iH h3c
  have HCL : Hid (∀ ty, (Builtin.clear_ #[115] ty #[.slice (some ⟨g, i * 9, none⟩) (l.length - i) (cap - i)]).run Tryz.prog wr = .ok (.tuple #[]) w3) := iH hcl
  clear hcl h3a h3b h3c
  go_wp2_with (refine xqN _ rfl (.tmp 38) 115 rfl _ rfl w3 (HCL.out _) ?_)
  go_ret
  rw [<- H3A.out]
  exact ⟨rfl, H3B.out, FO.out.trans H3C.out⟩
theorem rdeleteFunc_any {v : Value} (ho : OwnK encIt w base 173 v l) (hlen : l.length < 1000000) (c : Nat) (lb : Array Value) (P : It -> Bool) (ec : ∀ args w, (callFunc c args).run Tryz.prog w = .ok (.enter c args) w) (hc : PaysP_r w (fun k => v.ownBlock = some k) c lb P) :
 Calls Tryz.prog 162 #[v, .func (.func c) #[] lb] w fun e w' => ∃ v', e = .returned v' /\ OwnK encIt w' base 173 v' (l.filter fun r => !P r) /\ (∀ k, v'.ownBlock = some k -> v.ownBlock = some k) /\ Fo (fun k => v.ownBlock = some k) w w' := by
 rcases id ho.2 with ⟨rfl, h0⟩ | ⟨g, cap, cur, rfl, _⟩
 ·obtain rfl : l = [] := List.eq_nil_of_length_eq_zero h0
  have ci := yqx ho.rd hlen c lb P ec _ hc
  have e1 : gidx P [] = -1 := rfl
  rw [e1] at ci
  have HO := iH ho
  clear ho hc
  go_enter Tryz.func162, Tryz.ntmps162
  go_wp2_with (go_at_call 194; refine ci.mono ?_; rintro e w' ⟨rfl, k2⟩)
  go_ret
  exact ⟨_, rfl, HO.out.keep k2, fun k hk => hk, Fo.ofKept k2 _⟩
 ·have e : (fun k => (Value.slice (some ⟨g, 0, none⟩) l.length cap).ownBlock = some k) = (fun k => k = g) := by
   funext k
   simp only [Value.ownBlock, Option.some.injEq]
   exact propext ⟨fun h => h.symm, fun h => h.symm⟩
  rw [e] at hc ⊢
  refine (rdeleteFunc_some ho hlen c lb P ec hc).mono ?_
  rintro r w' ⟨rfl, h1, h2⟩
  exact ⟨_, rfl, h1, fun k hk => hk, h2⟩
theorem cellsK_r {w : World} {base : Nat} {e : TypeId} {g n c : Nat} {l : List It} (h : OwnK encIt w base e (.slice (some ⟨g, 0, none⟩) n c) l) {k : Nat} {x : It} (hx : l[k]? = some x) :
 w.cell? ⟨g, k * 9, none⟩ = some (.int .i64 x.a) /\ w.cell? ⟨g, k * 9 + 1, none⟩ = some (.int .i64 x.e.id) /\ w.cell? ⟨g, k * 9 + 2, none⟩ = some (.int .i64 x.e.tx) /\ w.cell? ⟨g, k * 9 + 3, none⟩ = some (.string x.e.ow) /\ w.cell? ⟨g, k * 9 + 4, none⟩ = some (.int .i64 x.e.tr) /\ w.cell? ⟨g, k * 9 + 5, none⟩ = some (.int .i64 x.e.tb) /\ w.cell? ⟨g, k * 9 + 6, none⟩ = some (.int .u8 x.e.kd) /\ w.cell? ⟨g, k * 9 + 7, none⟩ = some (.int .i64 x.e.key) /\ w.cell? ⟨g, k * 9 + 8, none⟩ = some (.string x.e.t) := by
 obtain ⟨g', hg, hc⟩ := h.at hx
 simp only [Option.some.injEq, Addr.mk.injEq] at hg
 obtain ⟨rfl, _⟩ := hg
 exact ⟨(hc 0 (by decide)).1, (hc 1 (by decide)).1, (hc 2 (by decide)).1, (hc 3 (by decide)).1, (hc 4 (by decide)).1, (hc 5 (by decide)).1, (hc 6 (by decide)).1, (hc 7 (by decide)).1, (hc 8 (by decide)).1⟩
def PaysC_r (w : World) (c : Nat) (lb : Array Value) (tv : Value) (cf : It -> Int) : Prop :=
 ∀ (x : It) (V : World), Kept w V [] -> Calls Tryz.prog c (#[.agg (encIt.cs x), tv] ++ lb) V fun e w' => e = .returned (.int .i64 (cf x)) /\ Kept V w' []
theorem retib_r {a : Int} {b c : Bool} (h : b = c) : Ending.returned (.tuple #[.int .i64 a, .bool b]) = .returned (.tuple #[.int .i64 a, .bool c]) := by rw [h]
def hitG_r (cf : It -> Int) (o : Option It) : Bool := match o with | some x => cf x == 0 | none => false
theorem rsearch_any (v : Value) (l : List It) (w : World) {base : Nat} {e : TypeId} (h : OwnK encIt w base e v l) (hlen : l.length <= 1000000) (T : It) (c : Nat) (lb : Array Value) (cf : It -> Int)
 (ec : ∀ args w, (callFunc c args).run Tryz.prog w = .ok (.enter c args) w) (hc : PaysC_r w c lb (.agg (encIt.cs T)) cf) (hcut : Cutp (fun x => decide (cf x < 0)) l) :
 Calls Tryz.prog 155 #[v, .agg (encIt.cs T), .func (.func c) #[] lb] w fun e w' =>
  e = .returned (.tuple #[.int .i64 (l.countP fun x => decide (cf x < 0) : Nat), .bool (hitG_r cf l[l.countP fun x => decide (cf x < 0)]?)]) /\ Kept w w' [] := by
 obtain ⟨W1, hW1⟩ : ∃ W1, W1 = w.alloc (.cells (encIt.cs T) 173) := ⟨_, rfl⟩
 have k1 : Kept w W1 [] := by rw [hW1]; exact (Kept.refl w []).alloc _
 have g1 : W1.heap[w.heap.size]? = some (.cells (encIt.cs T) 173 (0, 0)) := by rw [hW1]; exact heap_alloc_new w _
 have HC := iH (fun x V (hV : Kept W1 V []) => hc x V (k1.trans hV (by simp)))
 obtain ⟨s1, s2⟩ := cut_spec hcut
 have S1 := iH s1; have S2 := iH s2
 have H1 := iH (h.kept k1 (by simp))
 have K0 := iH k1; have HW1 := iH hW1
 have K1 := iH (Kept.refl W1 [])
 obtain ⟨z0, hz0⟩ : ∃ z0, z0 = w.heap.size := ⟨_, rfl⟩
 rw [<- hz0] at g1
 have HZ0 := iH hz0
 obtain ⟨t0, ⟨t1, t2, t3, t4, t5, t6, t7, t8⟩⟩ := T
 simp only [encIt, It.cs] at g1 HC HW1 ⊢
 have CT := iH (fun V (hV : Kept W1 V []) => (show V.cell? ⟨z0, 0, none⟩ = some (.int .i64 t0) /\ V.cell? ⟨z0, 1, none⟩ = some (.int .i64 t1) /\ V.cell? ⟨z0, 2, none⟩ = some (.int .i64 t2) /\ V.cell? ⟨z0, 3, none⟩ = some (.string t3) /\ V.cell? ⟨z0, 4, none⟩ = some (.int .i64 t4) /\ V.cell? ⟨z0, 5, none⟩ = some (.int .i64 t5) /\ V.cell? ⟨z0, 6, none⟩ = some (.int .u8 t6) /\ V.cell? ⟨z0, 7, none⟩ = some (.int .i64 t7) /\ V.cell? ⟨z0, 8, none⟩ = some (.string t8) from ⟨by rw [cell_of_row _ _ _ _ _ _ (hV.heap (by simp) g1)]; rfl, by rw [cell_of_row _ _ _ _ _ _ (hV.heap (by simp) g1)]; rfl, by rw [cell_of_row _ _ _ _ _ _ (hV.heap (by simp) g1)]; rfl, by rw [cell_of_row _ _ _ _ _ _ (hV.heap (by simp) g1)]; rfl, by rw [cell_of_row _ _ _ _ _ _ (hV.heap (by simp) g1)]; rfl, by rw [cell_of_row _ _ _ _ _ _ (hV.heap (by simp) g1)]; rfl, by rw [cell_of_row _ _ _ _ _ _ (hV.heap (by simp) g1)]; rfl, by rw [cell_of_row _ _ _ _ _ _ (hV.heap (by simp) g1)]; rfl, by rw [cell_of_row _ _ _ _ _ _ (hV.heap (by simp) g1)]; rfl⟩))
 rcases id h.2 with ⟨rfl, h0⟩ | ⟨g, cap, cur, rfl, _⟩
 ·obtain rfl : l = [] := List.eq_nil_of_length_eq_zero h0
  clear h H1 hc hcut s1 s2 k1 hW1 g1 hz0
  go_enter Tryz.func155, Tryz.ntmps155
  go_upto_region 1 with fail
  rw [<- HW1.out, <- HZ0.out]
  go_wp2
  go_loopw [9, 10] (fun t s wr => t = .int .i64 0 /\ s = .int .i64 0 /\ wr = W1) (fun _ _ _ => 0)
  case atStart => exact ⟨rfl, rfl, rfl⟩
  case round =>
  obtain ⟨rfl, rfl, hwr⟩ := hrel
  have hwr2 := hwr.symm
  clear hwr
  subst hwr2
  go_upto_region 8 with fail
  refine wp_region_held_drew (S := fun Z => Kept W1 Z []) (by kernel_rfl) K1.out.drew (fun hJ => ?_)
  refine wx 0 35 (.int .i64 0) rfl hJ ?_
  refine wx 1 36 (.int .i64 0) rfl hJ ?_
  refine wx 2 37 (.int .i64 0) rfl hJ ?_
  refine wx 3 38 (.bool false) rfl hJ ?_
  refine wx 4 39 (.bool false) rfl hJ ?_
  refine wn 5 40 rfl hJ ?_
  refine wn 6 41 rfl hJ ?_
  refine wn 7 42 rfl hJ ?_
  refine wn 8 43 rfl hJ ?_
  refine wn 9 44 rfl hJ ?_
  refine wn 10 45 rfl hJ ?_
  refine wn 11 46 rfl hJ ?_
  refine wn 12 47 rfl hJ ?_
  refine wx 13 48 (.bool false) rfl hJ ?_
  refine wx 14 6 (.int .i64 0) rfl hJ ?_
  refine wx 15 7 (.bool false) rfl hJ ?_
  refine wd ?_
  clear hJ
  go_wp2
  go_ret2
  exact ⟨rfl, K0.out.drew⟩
 ·obtain ⟨N, hN⟩ : ∃ N, N = l.countP fun x => decide (cf x < 0) := ⟨_, rfl⟩
  rw [<- hN] at S1 S2 ⊢
  have HN := iH (show N <= l.length by rw [hN]; exact List.countP_le_length)
  have H := H1
  clear h H1 hc hcut s1 s2 k1 hW1 g1 hz0 hN
  go_enter Tryz.func155, Tryz.ntmps155
  go_upto_region 1 with fail
  rw [<- HW1.out, <- HZ0.out]
  go_wp2
  go_loopw [9, 10] (fun t s wr => ∃ i j : Nat, t = .int .i64 i /\ s = .int .i64 j /\ i <= j /\ j <= l.length /\ Hid (i <= N /\ N <= j) /\ Hid (Kept W1 wr [])) (fun t s _ => (intOf s).toNat - (intOf t).toNat)
  case atStart => exact ⟨0, l.length, rfl, rfl, Nat.zero_le _, Nat.le_refl _, iH ⟨Nat.zero_le _, HN.out⟩, K1⟩
  case round =>
  obtain ⟨i, j, rfl, rfl, hij, hj, B, KR⟩ := hrel
  by_cases hlt : i < j
  ·have x1 : (i : Int) < (j : Int) := by omega
   obtain ⟨k, hk⟩ : ∃ k : Nat, k = (i + j) / 2 := ⟨_, rfl⟩
   have hk1 : i <= k := by omega
   have hk2 : k < j := by omega
   obtain ⟨x, hx⟩ : ∃ x, l[k]? = some x := ⟨_, List.getElem?_eq_getElem (by omega)⟩
   have CX := iH (fun V (hV : Kept W1 V []) => cellsK_r (H.out.kept hV (by simp)) hx)
   have X := iH hx
   have x2 : (k : Int) < (l.length : Int) := by omega
   have e3 : ((i : Int) + (j : Int)) / 2 = (k : Int) := by omega
   have e2 : ((i : Int) + (j : Int)) % 18446744073709551616 = (i : Int) + (j : Int) := by omega
   have CALL := iH (HC.out x)
   obtain ⟨z, hz⟩ : ∃ z, z = cf x := ⟨_, rfl⟩
   rw [<- hz] at CALL
   have Hz := iH hz
   obtain ⟨b0, ⟨b1, b2, b3, b4, b5, b6, b7, b8⟩⟩ := x
   simp only at CX CALL
   clear hz hk hx
   by_cases hzl : z < 0
   ·go_upto_region 5 with fail
    refine wp_region_held_drew (S := fun Z => Kept W1 Z []) (by kernel_rfl) KR.out.drew (fun hJ => ?_)
    refine wx 0 24 (.func (.func c) #[] lb) rfl hJ ?_
    refine wx 1 25 (.slice (some ⟨g, 0, none⟩) l.length cap) rfl hJ ?_
    refine wx 2 26 (.int .i64 k) rfl hJ ?_
    refine wx 3 27 (.pointer (some ⟨g, k * 9, none⟩)) rfl hJ ?_
    refine wx 4 28 (.agg #[.int .i64 b0, .int .i64 b1, .int .i64 b2, .string b3, .int .i64 b4, .int .i64 b5, .int .u8 b6, .int .i64 b7, .string b8]) rfl hJ ?_ (hy := fun V hV => by (obtain ⟨c0, c1, c2, c3, c4, c5, c6, c7, c8⟩ := CX.out V hV; clear hV; go_simp))
    refine wx 5 29 (.agg #[.int .i64 t0, .int .i64 t1, .int .i64 t2, .string t3, .int .i64 t4, .int .i64 t5, .int .u8 t6, .int .i64 t7, .string t8]) rfl hJ ?_ (hy := fun V hV => by (obtain ⟨d0, d1, d2, d3, d4, d5, d6, d7, d8⟩ := CT.out V hV; clear hV; go_simp))
    refine wr1 6 rfl (fun K hK => ?_)
    go_simp
    go_at_fn c
    refine (CALL.out _ KR.out.drew).mono ?_
    rintro e w2 ⟨rfl, k2⟩
    have k3 := KR.out.drew.trans k2 (by simp)
    clear k2
    go_wp2_with fail
    refine hK.out _ _ k3 (fun hJ => ?_)
    clear hK K
    refine wx 7 31 (.bool true) rfl hJ ?_
    refine wd ?_
    have K3 := iH k3
    clear k3 hJ
    go_wp2
    go_roundw
    case rel =>
     refine ⟨k + 1, j, by go_num, rfl, by omega, by omega, iH ⟨?_, B.out.2⟩, K3⟩
     rcases Nat.lt_or_ge k N with q | q
     ·exact q
     have := S2.out k _ q X.out
     rw [<- Hz.out] at this
     simp at this
     omega
    case measure => simp [intOf]; omega
   have hzf : decide (z < 0) = false := by simpa using hzl
   go_upto_region 5 with fail
   refine wp_region_held_drew (S := fun Z => Kept W1 Z []) (by kernel_rfl) KR.out.drew (fun hJ => ?_)
   refine wx 0 24 (.func (.func c) #[] lb) rfl hJ ?_
   refine wx 1 25 (.slice (some ⟨g, 0, none⟩) l.length cap) rfl hJ ?_
   refine wx 2 26 (.int .i64 k) rfl hJ ?_
   refine wx 3 27 (.pointer (some ⟨g, k * 9, none⟩)) rfl hJ ?_
   refine wx 4 28 (.agg #[.int .i64 b0, .int .i64 b1, .int .i64 b2, .string b3, .int .i64 b4, .int .i64 b5, .int .u8 b6, .int .i64 b7, .string b8]) rfl hJ ?_ (hy := fun V hV => by (obtain ⟨c0, c1, c2, c3, c4, c5, c6, c7, c8⟩ := CX.out V hV; clear hV; go_simp))
   refine wx 5 29 (.agg #[.int .i64 t0, .int .i64 t1, .int .i64 t2, .string t3, .int .i64 t4, .int .i64 t5, .int .u8 t6, .int .i64 t7, .string t8]) rfl hJ ?_ (hy := fun V hV => by (obtain ⟨d0, d1, d2, d3, d4, d5, d6, d7, d8⟩ := CT.out V hV; clear hV; go_simp))
   refine wr1 6 rfl (fun K hK => ?_)
   go_simp
   go_at_fn c
   refine (CALL.out _ KR.out.drew).mono ?_
   rintro e w2 ⟨rfl, k2⟩
   have k3 := KR.out.drew.trans k2 (by simp)
   clear k2
   go_wp2_with fail
   refine hK.out _ _ k3 (fun hJ => ?_)
   clear hK K
   refine wx 7 31 (.bool false) rfl hJ ?_
   refine wd ?_
   have K3 := iH k3
   clear k3 hJ
   go_wp2
   go_roundw
   case rel =>
    refine ⟨i, k, rfl, rfl, by omega, by omega, iH ⟨B.out.1, ?_⟩, K3⟩
    rcases Nat.lt_or_ge k N with q | q
    ·have := S1.out k _ q X.out
     rw [<- Hz.out] at this
     simp at this
     omega
    exact q
   case measure => simp [intOf]; omega
  have x1 : ¬ (i : Int) < (j : Int) := by omega
  obtain rfl : i = j := by omega
  have EN := iH (show N = i by have := B.out; omega)
  by_cases hil : i < l.length
  ·obtain ⟨x, hx⟩ : ∃ x, l[i]? = some x := ⟨_, List.getElem?_eq_getElem hil⟩
   have CX := iH (fun V (hV : Kept W1 V []) => cellsK_r (H.out.kept hV (by simp)) hx)
   have x2 : (i : Int) < (l.length : Int) := by omega
   have CALL := iH (HC.out x)
   have FIN := iH (show hitG_r cf l[i]? = (cf x == 0) by rw [hx]; rfl)
   obtain ⟨z, hz⟩ : ∃ z, z = cf x := ⟨_, rfl⟩
   rw [<- hz] at CALL FIN
   obtain ⟨b0, ⟨b1, b2, b3, b4, b5, b6, b7, b8⟩⟩ := x
   simp only at CX CALL
   clear hx hz
   go_upto_region 8 with fail
   refine wp_region_held_drew (S := fun Z => Kept W1 Z []) (by kernel_rfl) KR.out.drew (fun hJ => ?_)
   refine wx 0 35 (.int .i64 i) rfl hJ ?_
   refine wx 1 36 (.int .i64 i) rfl hJ ?_
   refine wx 2 37 (.int .i64 l.length) rfl hJ ?_
   refine wx 3 38 (.bool true) rfl hJ ?_
   refine wx 4 39 (.bool true) rfl hJ ?_
   refine wx 5 40 (.func (.func c) #[] lb) rfl hJ ?_
   refine wx 6 41 (.slice (some ⟨g, 0, none⟩) l.length cap) rfl hJ ?_
   refine wx 7 42 (.int .i64 i) rfl hJ ?_
   refine wx 8 43 (.pointer (some ⟨g, i * 9, none⟩)) rfl hJ ?_
   refine wx 9 44 (.agg #[.int .i64 b0, .int .i64 b1, .int .i64 b2, .string b3, .int .i64 b4, .int .i64 b5, .int .u8 b6, .int .i64 b7, .string b8]) rfl hJ ?_ (hy := fun V hV => by (obtain ⟨c0, c1, c2, c3, c4, c5, c6, c7, c8⟩ := CX.out V hV; clear hV; go_simp))
   refine wx 10 45 (.agg #[.int .i64 t0, .int .i64 t1, .int .i64 t2, .string t3, .int .i64 t4, .int .i64 t5, .int .u8 t6, .int .i64 t7, .string t8]) rfl hJ ?_ (hy := fun V hV => by (obtain ⟨d0, d1, d2, d3, d4, d5, d6, d7, d8⟩ := CT.out V hV; clear hV; go_simp))
   refine wr1 11 rfl (fun K hK => ?_)
   go_simp
   go_at_fn c
   refine (CALL.out _ KR.out.drew).mono ?_
   rintro e w2 ⟨rfl, k2⟩
   have k3 := KR.out.drew.trans k2 (by simp)
   clear k2
   go_wp2_with fail
   refine hK.out _ _ k3 (fun hJ => ?_)
   clear hK K
   refine wx 12 47 (.bool (z == 0)) rfl hJ ?_
   refine wx 13 48 (.bool (z == 0)) rfl hJ ?_
   refine wx 14 6 (.int .i64 i) rfl hJ ?_
   refine wx 15 7 (.bool (z == 0)) rfl hJ ?_
   refine wd ?_
   have K3 := iH k3
   clear k3 hJ
   go_wp2
   go_ret2
   rw [EN.out]
   exact ⟨retib_r FIN.out.symm, K0.out.trans K3.out (by simp)⟩
  have x2 : ¬ (i : Int) < (l.length : Int) := by omega
  have x2f : decide ((i : Int) < (l.length : Int)) = false := by simpa using hil
  have FIN := iH (show hitG_r cf l[i]? = false by rw [List.getElem?_eq_none (by omega)]; rfl)
  go_upto_region 8 with fail
  refine wp_region_held_drew (S := fun Z => Kept W1 Z []) (by kernel_rfl) KR.out.drew (fun hJ => ?_)
  refine wx 0 35 (.int .i64 i) rfl hJ ?_
  refine wx 1 36 (.int .i64 i) rfl hJ ?_
  refine wx 2 37 (.int .i64 l.length) rfl hJ ?_
  refine wx 3 38 (.bool false) rfl hJ ?_
  refine wx 4 39 (.bool false) rfl hJ ?_
  refine wn 5 40 rfl hJ ?_
  refine wn 6 41 rfl hJ ?_
  refine wn 7 42 rfl hJ ?_
  refine wn 8 43 rfl hJ ?_
  refine wn 9 44 rfl hJ ?_
  refine wn 10 45 rfl hJ ?_
  refine wn 11 46 rfl hJ ?_
  refine wn 12 47 rfl hJ ?_
  refine wx 13 48 (.bool false) rfl hJ ?_
  refine wx 14 6 (.int .i64 i) rfl hJ ?_
  refine wx 15 7 (.bool false) rfl hJ ?_
  refine wd ?_
  clear hJ
  go_wp2
  go_ret2
  rw [EN.out, FIN.out]
  exact ⟨rfl, K0.out.trans KR.out.drew (by simp)⟩
end Go.Proofs.YticiofkiffgclaaGreat
