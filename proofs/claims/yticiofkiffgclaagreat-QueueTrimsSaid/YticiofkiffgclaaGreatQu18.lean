/-
 Spe, Spf, Spg in one text.
-/
import Derived.Test.YticiofkiffgclaaGreatQu0
import Derived.Test.YticiofkiffgclaaGreatQu17
import Derived.Test.YticiofkiffgclaaGreatShelf2
import Derived.Lib.SliceRun
import Derived.LoopTactic
set_option linter.unusedVariables false
set_option maxHeartbeats 16000000
set_option maxRecDepth 100000
namespace Go.Proofs.YticiofkiffgclaaGreat
open Go.RowKit
variable {w w' : World} {B h c : Nat} {V : Nat -> Value} {l : Nat -> List Ev}
theorem grow_any (n : Nat) (hn : n <= 10000000) (w : World) : Calls Tryz.prog 144 #[.slice none 0 0, .int .i64 n] w fun e w' => ∃ v', e = .returned v' /\ OwnE w' w.heap.size 50 v' [] /\ Kept w w' [] := by
 by_cases h0 : n = 0
 ·subst h0
  exact (Any8.slices_Grow_room Tryz.growE none 0 0 0 w (by omega) (by omega) (by omega) (by omega)).mono (fun e w' ⟨h1, h2⟩ => ⟨_, h1, OwnE.nil _ _ _, by rw [h2]; exact Kept.refl _ _⟩)
 obtain ⟨i0, hi, hz0, hz1, hz2⟩ := info_parts Tryz.infoEv_g6
 refine (Any8.slices_Grow_grow Tryz.growE i0 _ hi hz0 (by omega) none 0 0 n [] w (by omega) (by omega) (by rw [hz2]; omega) (by omega) (by simp) (fun _ => rfl) (by simp)).mono ?_
 rintro e w' ⟨rfl, rfl⟩
 have hge := grownCap_ge w (0 + n) 0 50
 have hle := grownCap_le_maxLen w (0 + n) 0 50 (by unfold maxLen; omega)
 have hge : n <= grownCap w (0 + n) 0 50 := by omega
 refine ⟨_, rfl, ⟨by simp [ecs], .inr ⟨w.heap.size, _, _, rfl, Nat.le_refl _, heap_alloc_new w.drew _, Nat.zero_le _, hle, ?_, by simp [ecs]⟩⟩, ((Kept.refl w []).drew).alloc _⟩
 change _ = grownCap w (0 + n) 0 50 * 8
 have e1 : grownCap w (0 + n) 0 (Shelf.Ren.t Tryz.growE_ren 25) = grownCap w (0 + n) 0 50 := rfl
 rw [e1]
 generalize grownCap w (0 + n) 0 50 = G at *
 simp [size_zeroCells, Value.cells]
 omega
def pre (l : Nat -> List Ev) : Nat -> List Ev
 | 0 => []
 | k + 1 => pre l k ++ l k
theorem pre_length (l : Nat -> List Ev) (hl : ∀ i, i < 3 -> (l i).length < 1000000) (k : Nat) (hk : k <= 3) : (pre l k).length <= k * 1000000 := by
 induction k with
 | zero => simp [pre]
 | succ k ih =>
 have := hl k (by omega)
 have := ih (by omega)
 rw [pre, List.length_append]
 omega
theorem concat_any (a : Sp spT w B h V l c) (hl : ∀ i, i < 3 -> (l i).length < 1000000) :
 Calls Tryz.prog 86 #[.slice (some ⟨h, 0, none⟩) 3 3] w fun e w' => ∃ v', e = .returned v' /\ OwnE w' w.heap.size 50 v' (pre l 3) /\ Kept w w' [] := by
 have c0 := (a.cell 0 (by omega)).1
 have c1 := (a.cell 1 (by omega)).1
 have c2 := (a.cell 2 (by omega)).1
 obtain ⟨u0, n0, e0⟩ := a.shape 0 (by omega)
 obtain ⟨u1, n1, e1⟩ := a.shape 1 (by omega)
 obtain ⟨u2, n2, e2⟩ := a.shape 2 (by omega)
 rw [e0] at c0
 rw [e1] at c1
 rw [e2] at c2
 have h0 := hl 0 (by omega); have h1 := hl 1 (by omega); have h2 := hl 2 (by omega)
 obtain ⟨i0, hi, hz0, hz1, hz2⟩ := info_parts Tryz.infoEv_g6
 have I := iH (And.intro hi (And.intro hz0 (And.intro hz1 hz2)))
 have A := iH a
 have HL := iH (pre_length l hl)
 have R0 := iH (fun W (hk : Kept w W []) => (show RdE W (.slice u0 (l 0).length n0) (l 0) from by have := ((A.out.keep hk).own 0 (by omega)).rd; rwa [e0] at this))
 have R1 := iH (fun W (hk : Kept w W []) => (show RdE W (.slice u1 (l 1).length n1) (l 1) from by have := ((A.out.keep hk).own 1 (by omega)).rd; rwa [e1] at this))
 have R2 := iH (fun W (hk : Kept w W []) => (show RdE W (.slice u2 (l 2).length n2) (l 2) from by have := ((A.out.keep hk).own 2 (by omega)).rd; rwa [e2] at this))
 have C0 := iH (fun W (hk : Kept w W []) => (show W.cell? ⟨h, 0, none⟩ = some (.slice u0 (l 0).length n0) from by have := ((A.out.keep hk).cell 0 (by omega)).1; rwa [e0] at this))
 have C1 := iH (fun W (hk : Kept w W []) => (show W.cell? ⟨h, 1, none⟩ = some (.slice u1 (l 1).length n1) from by have := ((A.out.keep hk).cell 1 (by omega)).1; rwa [e1] at this))
 have C2 := iH (fun W (hk : Kept w W []) => (show W.cell? ⟨h, 2, none⟩ = some (.slice u2 (l 2).length n2) from by have := ((A.out.keep hk).cell 2 (by omega)).1; rwa [e2] at this))
 clear a hl e0 e1 e2 hi hz0 hz1 hz2
 obtain ⟨m0, hm0⟩ : ∃ m, m = (l 0).length := ⟨_, rfl⟩
 obtain ⟨m1, hm1⟩ : ∃ m, m = (l 1).length := ⟨_, rfl⟩
 obtain ⟨m2, hm2⟩ : ∃ m, m = (l 2).length := ⟨_, rfl⟩
 rw [<- hm0] at h0 c0 R0 C0
 rw [<- hm1] at h1 c1 R1 C1
 rw [<- hm2] at h2 c2 R2 C2
 have HM := iH (And.intro hm0 (And.intro hm1 hm2))
 clear hm0 hm1 hm2
 go_enter Tryz.func86, Tryz.ntmps86
 go_wp2
 go_loopg [11, 3, 5] 3 (fun kx s11 s3 _ wr => ∃ k n : Nat, s11 = .int .i64 k /\ s3 = .int .i64 n /\ 3 - k <= kx /\ w = wr /\ (k = 0 /\ n = 0 ∨ k = 1 /\ n = m0 ∨ k = 2 /\ n = m0 + m1 ∨ k = 3 /\ n = m0 + m1 + m2))
 case atStart => exact ⟨0, 0, rfl, rfl, by omega, rfl, by omega⟩
 case round =>
  obtain ⟨k, n, rfl, rfl, hk, rfl, ⟨rfl, rfl⟩ | ⟨rfl, rfl⟩ | ⟨rfl, rfl⟩ | ⟨rfl, rfl⟩⟩ := hrel
  ·go_wp2
   go_roundg 2
   case measure => omega
   case rel => exact ⟨1, m0, by go_num, by go_num, by omega, rfl, by omega⟩
  ·go_wp2
   go_roundg 1
   case measure => omega
   case rel => exact ⟨2, n + m1, by go_num, by go_num, by omega, rfl, by omega⟩
  ·go_wp2
   go_roundg 0
   case measure => omega
   case rel => exact ⟨3, m0 + m1 + m2, by go_num, by go_num, by omega, rfl, by omega⟩
  clear c0 c1 c2
  obtain ⟨N, hN⟩ : ∃ N, N = m0 + m1 + m2 := ⟨_, rfl⟩
  have HG := iH (grow_any N (by omega) w)
  rw [<- hN]
  clear hN
  go_wp2_with (go_at_call 144; refine HG.out.mono ?_; rintro e w1 ⟨v1, rfl, o1, k1⟩)
  have O1 := iH o1; have K1 := iH k1
  clear o1 k1 HG
  go_wp2
  go_loopg [27, 6, 8] 3 (fun kx s27 s6 _ wr => ∃ (k : Nat) (v : Value), s27 = .int .i64 k /\ s6 = v /\ k <= 3 /\ 3 - k <= kx /\ RowKit.Hid (OwnE wr w.heap.size 50 v (pre l k) /\ Kept w wr []))
  case atStart => exact ⟨0, v1, rfl, rfl, by omega, by omega, O1.out, K1.out⟩
  case round =>
  clear O1 K1
  obtain ⟨k, v, rfl, rfl, hk3, hkx, HO⟩ := hrel
  have hk4 : k = 0 ∨ k = 1 ∨ k = 2 ∨ k = 3 := by omega
  obtain ⟨n, hn⟩ : ∃ n, n = (pre l k).length := ⟨_, rfl⟩
  have hn3 : n <= 3000000 := by have := HL.out k hk3; omega
  have HN := iH hn
  clear hn
  have hbr : w.heap.size <= wr.heap.size := HO.out.2.size
  rcases hk4 with rfl | rfl | rfl | rfl
  ·have cc := C0.out _ HO.out.2
   go_wp2_with (at_builtin; refine xqe _ rfl (.tmp 31) (.tmp 32) 57 57 rfl w.heap.size 50 i0 _ 8 80 Tryz.underlying57 I.out.1 I.out.2.1 I.out.2.2.1 I.out.2.2.2 rfl _ n (ecs (pre l 0)) rfl ?hown _ m0 (ecs (l 0)) rfl ?src ?b1 ?b2 ?base ?next)
   case hown => have := HO.out.1; unfold OwnE at this; rw [<- HN.out] at this; exact this
   case src => have := (R0.out _ HO.out.2).src (P := Tryz.prog) Tryz.underlying57; rw [<- HM.out.1] at this; exact this
   case b1 => unfold maxLen; omega
   case b2 => omega
   case base => exact hbr
   case next =>
   intro v2 w3 hown hgrow _ _
   have ho : OwnE w3 w.heap.size 50 v2 (pre l (0 + 1)) := by unfold OwnE; rw [pre, xqB, List.length_append, <- HN.out, <- HM.out.1]; exact hown
   have hk : Kept w w3 [] := HO.out.2.grown hgrow (fun k hk => .inr (HO.out.1.lt k hk).1)
   have Ho := iH (And.intro ho hk)
   clear ho hk hown hgrow cc HO
   go_wp2
   go_roundg 2
   case measure => omega
   case rel => exact ⟨0 + 1, v2, by go_num, rfl, by omega, by omega, Ho⟩
  ·have cc := C1.out _ HO.out.2
   go_wp2_with (at_builtin; refine xqe _ rfl (.tmp 31) (.tmp 32) 57 57 rfl w.heap.size 50 i0 _ 8 80 Tryz.underlying57 I.out.1 I.out.2.1 I.out.2.2.1 I.out.2.2.2 rfl _ n (ecs (pre l 1)) rfl ?hown _ m1 (ecs (l 1)) rfl ?src ?b1 ?b2 ?base ?next)
   case hown => have := HO.out.1; unfold OwnE at this; rw [<- HN.out] at this; exact this
   case src => have := (R1.out _ HO.out.2).src (P := Tryz.prog) Tryz.underlying57; rw [<- HM.out.2.1] at this; exact this
   case b1 => unfold maxLen; omega
   case b2 => omega
   case base => exact hbr
   case next =>
   intro v2 w3 hown hgrow _ _
   have ho : OwnE w3 w.heap.size 50 v2 (pre l (1 + 1)) := by unfold OwnE; rw [pre, xqB, List.length_append, <- HN.out, <- HM.out.2.1]; exact hown
   have hk : Kept w w3 [] := HO.out.2.grown hgrow (fun k hk => .inr (HO.out.1.lt k hk).1)
   have Ho := iH (And.intro ho hk)
   clear ho hk hown hgrow cc HO
   go_wp2
   go_roundg 1
   case measure => omega
   case rel => exact ⟨1 + 1, v2, by go_num, rfl, by omega, by omega, Ho⟩
  ·have cc := C2.out _ HO.out.2
   go_wp2_with (at_builtin; refine xqe _ rfl (.tmp 31) (.tmp 32) 57 57 rfl w.heap.size 50 i0 _ 8 80 Tryz.underlying57 I.out.1 I.out.2.1 I.out.2.2.1 I.out.2.2.2 rfl _ n (ecs (pre l 2)) rfl ?hown _ m2 (ecs (l 2)) rfl ?src ?b1 ?b2 ?base ?next)
   case hown => have := HO.out.1; unfold OwnE at this; rw [<- HN.out] at this; exact this
   case src => have := (R2.out _ HO.out.2).src (P := Tryz.prog) Tryz.underlying57; rw [<- HM.out.2.2] at this; exact this
   case b1 => unfold maxLen; omega
   case b2 => omega
   case base => exact hbr
   case next =>
   intro v2 w3 hown hgrow _ _
   have ho : OwnE w3 w.heap.size 50 v2 (pre l (2 + 1)) := by unfold OwnE; rw [pre, xqB, List.length_append, <- HN.out, <- HM.out.2.2]; exact hown
   have hk : Kept w w3 [] := HO.out.2.grown hgrow (fun k hk => .inr (HO.out.1.lt k hk).1)
   have Ho := iH (And.intro ho hk)
   clear ho hk hown hgrow cc HO
   go_wp2
   go_roundg 0
   case measure => omega
   case rel => exact ⟨2 + 1, v2, by go_num, rfl, by omega, by omega, Ho⟩
  obtain ⟨ho, hk⟩ := HO.out
  have Ho := iH ho; have Hk := iH hk
  clear ho hk HO hn3
  go_wp2
  go_ret
  exact ⟨_, rfl, Ho.out, Hk.out⟩
theorem all_any (a : Sp spT w B h V l c) (hl : ∀ i, i < 3 -> (l i).length < 1000000) :
 Calls Tryz.prog 27 #[.pointer (some ⟨h, 0, none⟩)] w fun e w' => ∃ v', e = .returned v' /\ OwnE w' w.heap.size 50 v' (srt byId (pre l 3)) /\ Kept w w' [] := by
 have HC := iH (concat_any a hl)
 have HL : RowKit.Hid ((pre l 3).length < 1152921504606846976) := iH (by have := pre_length l hl 3 (by omega); omega)
 clear a hl
 go_enter Tryz.func27, Tryz.ntmps27
 go_wp2_with fail
 refine HC.out.mono ?_
 rintro e w1 ⟨v1, rfl, o1, k1⟩
 have HS := iH (sort_any o1 HL.out)
 have O1 := iH o1; have K1 := iH k1
 clear o1 k1
 go_wp2_with fail
 refine HS.out.mono ?_
 rintro e w2 ⟨rfl, o2, f2⟩
 have O2 := iH o2; have F2 := iH f2
 clear o2 f2
 go_wp2
 go_ret
 refine ⟨_, rfl, O2.out, ?_⟩
 have f := F2.out
 have k := K1.out
 exact ⟨f.os.trans k.os, f.tape.trans k.tape, f.output.trans k.output, Nat.le_trans k.size f.size, fun i hi hn => (f.block i (Nat.lt_of_lt_of_le hi k.size) (fun e => by have := (O1.out.lt i e).1; omega)).trans (k.block i hi hn)⟩
variable {w w' : World} {base : Nat} {l : List Ev}
def eidx (P : Ev -> Bool) (l : List Ev) : Int := match l.findIdx? P with | some i => i | none => -1
theorem eidx_hit {P : Ev -> Bool} {l : List Ev} {k : Nat} {r : Ev} (hr : l[k]? = some r) (hp : P r = true) (hb : ∀ j s, j < k -> l[j]? = some s -> P s = false) : l.findIdx? P = some k := by
 obtain ⟨hk, e⟩ := List.getElem?_eq_some_iff.1 hr
 rw [List.findIdx?_eq_some_iff_getElem]
 refine ⟨hk, by rw [e]; exact hp, fun j hj => ?_⟩
 rw [hb j l[j] hj (List.getElem?_eq_getElem _)]
 simp
theorem eidx_miss {P : Ev -> Bool} {l : List Ev} (hb : ∀ j s, j < l.length -> l[j]? = some s -> P s = false) : l.findIdx? P = none := by
 rw [List.findIdx?_eq_none_iff]
 intro s hs
 obtain ⟨j, hj, e⟩ := List.mem_iff_getElem.1 hs
 exact hb j s hj (by rw [List.getElem?_eq_getElem hj, e])
theorem efind_lt {P : Ev -> Bool} {l : List Ev} {k : Nat} (h : l.findIdx? P = some k) : k < l.length := (List.findIdx?_eq_some_iff_getElem.1 h).1
theorem OwnE.eight {e : TypeId} {g n c : Nat} (h : OwnE w base e (.slice (some ⟨g, 0, none⟩) n c) l) {k : Nat} {r : Ev} (hr : l[k]? = some r) :
 w.cell? ⟨g, k * 8, none⟩ = some (.int .i64 r.id) /\ w.cell? ⟨g, k * 8 + 1, none⟩ = some (.int .i64 r.tx) /\ w.cell? ⟨g, k * 8 + 2, none⟩ = some (.string r.ow) /\ w.cell? ⟨g, k * 8 + 3, none⟩ = some (.int .i64 r.tr) /\
 w.cell? ⟨g, k * 8 + 4, none⟩ = some (.int .i64 r.tb) /\ w.cell? ⟨g, k * 8 + 5, none⟩ = some (.int .u8 r.kd) /\ w.cell? ⟨g, k * 8 + 6, none⟩ = some (.int .i64 r.key) /\ w.cell? ⟨g, k * 8 + 7, none⟩ = some (.string r.t) := by
 obtain ⟨hk, rfl⟩ := List.getElem?_eq_some_iff.1 hr
 obtain ⟨g', hg, hc⟩ := h.at k hk
 simp only [Option.some.injEq, Addr.mk.injEq] at hg
 obtain ⟨rfl, _⟩ := hg
 exact ⟨(hc 0 (by decide)).1, (hc 1 (by decide)).1, (hc 2 (by decide)).1, (hc 3 (by decide)).1, (hc 4 (by decide)).1, (hc 5 (by decide)).1, (hc 6 (by decide)).1, (hc 7 (by decide)).1⟩
theorem OwnE.eightF {e : TypeId} {g n c : Nat} (h : OwnE w base e (.slice (some ⟨g, 0, none⟩) n c) l) {k : Nat} {r : Ev} (hr : l[k]? = some r) :
 w.frozen? ⟨g, k * 8, none⟩ = false /\ w.frozen? ⟨g, k * 8 + 1, none⟩ = false /\ w.frozen? ⟨g, k * 8 + 2, none⟩ = false /\ w.frozen? ⟨g, k * 8 + 3, none⟩ = false /\
 w.frozen? ⟨g, k * 8 + 4, none⟩ = false /\ w.frozen? ⟨g, k * 8 + 5, none⟩ = false /\ w.frozen? ⟨g, k * 8 + 6, none⟩ = false /\ w.frozen? ⟨g, k * 8 + 7, none⟩ = false := by
 obtain ⟨hk, rfl⟩ := List.getElem?_eq_some_iff.1 hr
 obtain ⟨g', hg, hc⟩ := h.at k hk
 simp only [Option.some.injEq, Addr.mk.injEq] at hg
 obtain ⟨rfl, _⟩ := hg
 exact ⟨(hc 0 (by decide)).2, (hc 1 (by decide)).2, (hc 2 (by decide)).2, (hc 3 (by decide)).2, (hc 4 (by decide)).2, (hc 5 (by decide)).2, (hc 6 (by decide)).2, (hc 7 (by decide)).2⟩
def PaysE (w : World) (O : Nat -> Prop) (c : Nat) (lb : Array Value) (P : Ev -> Bool) : Prop :=
 ∀ (r : Ev) (V : World), Fo O w V -> Calls Tryz.prog c (#[.agg r.cs] ++ lb) V fun e w' => e = .returned (.bool (P r)) /\ Kept V w' []
theorem eindexFunc_any (sv : Value) (ho : OwnE w base 50 sv l) (hlen : l.length < 1000000) (c : Nat) (lb : Array Value) (P : Ev -> Bool) (ec : ∀ args w, (callFunc c args).run Tryz.prog w = .ok (.enter c args) w) (O : Nat -> Prop) (hc : PaysE w O c lb P) :
 Calls Tryz.prog 99 #[sv, .func (.func c) #[] lb] w fun e w' => e = .returned (.int .i64 (eidx P l)) /\ Kept w w' [] := by
 have HO := iH ho
 have HC := iH hc
 clear hc
 rcases ho.2 with ⟨rfl, h0⟩ | ⟨g, cap, cur, rfl, _, _, hnc, hcm, _, _⟩
 ·obtain rfl : l = [] := List.eq_nil_of_length_eq_zero h0
  clear ho
  go_enter Tryz.func99, Tryz.ntmps99
  go_wp2
  go_loop [5, 8] (fun _ t => t = .int .i64 0) (fun _ _ => 0)
  case atStart => rfl
  case round =>
  subst hrel
  go_wp2
  go_ret
  exact ⟨rfl, Kept.refl w []⟩
 ·clear ho hnc hcm
  go_enter Tryz.func99, Tryz.ntmps99
  go_wp2
  go_loopw [5, 8] (fun _ t wr => ∃ k : Nat, t = .int .i64 k /\ k <= l.length /\ Kept w wr [] /\ (∀ j s, j < k -> l[j]? = some s -> P s = false)) (fun _ t _ => l.length - (intOf t).toNat)
  case atStart => exact ⟨0, rfl, Nat.zero_le _, Kept.refl w [], fun j s hj => absurd hj (Nat.not_lt_zero _)⟩
  case round =>
  obtain ⟨k, rfl, hk, hkw, hx⟩ := hrel
  have Hx := iH hx; have K := iH hkw
  clear hx hkw
  by_cases hlt : k < l.length
  ·obtain ⟨r, hr⟩ : ∃ r, l[k]? = some r := ⟨_, List.getElem?_eq_getElem hlt⟩
   obtain ⟨c0, c1, c2, c3, c4, c5, c6, c7⟩ := (HO.out.kept K.out (by simp)).eight hr
   have HR := iH hr
   have x1 : (k : Int) < (l.length : Int) := by omega
   have call := HC.out r wr (Fo.ofKept K.out _)
   obtain ⟨q, hq⟩ : ∃ q, P r = q := ⟨_, rfl⟩
   rw [hq] at call
   have HQ := iH hq
   clear hr hq
   obtain ⟨b0, b1, b2, b3, b4, b5, b6, b7⟩ := r
   simp only [Ev.cs] at c0 c1 c2 c3 c4 c5 c6 c7 call
   cases q
   ·go_wp2_with (go_at_fn c; refine call.mono ?_; rintro e w2 ⟨rfl, k2⟩)
    go_roundw
    case rel =>
     refine ⟨k + 1, by go_num, by omega, K.out.trans k2 (by simp), fun j s hj hs => ?_⟩
     by_cases e : j = k
     ·subst e
      rw [HR.out] at hs
      cases hs
      exact HQ.out
     exact Hx.out j s (by omega) hs
    case measure => simp [intOf]; omega
   have R : RowKit.Hid (eidx P l = k) := iH (by rw [eidx, eidx_hit HR.out HQ.out Hx.out])
   go_wp2_with (go_at_fn c; refine call.mono ?_; rintro e w2 ⟨rfl, k2⟩)
   go_ret
   rw [R.out]
   exact ⟨rfl, K.out.trans k2 (by simp)⟩
  have R : RowKit.Hid (eidx P l = -1) := iH (by rw [eidx, eidx_miss (fun j s hj => Hx.out j s (by omega))])
  have x1 : ¬ (k : Int) < (l.length : Int) := by omega
  go_wp2
  go_ret
  rw [R.out]
  exact ⟨rfl, K.out⟩
theorem esetCells_at {g : Nat} {t : TypeId} {fz : Nat × Nat} : ∀ (vs : List Value) (o : Nat) (w : World) (cs : Array Value), w.heap[g]? = some (.cells cs t fz) ->
 ∃ cs', (w.setCells g o vs).heap[g]? = some (.cells cs' t fz) /\ cs'.size = cs.size /\ cs'.toList.take o = cs.toList.take o
 | [], o, w, cs, h => ⟨cs, h, rfl, rfl⟩
 | v :: vs, o, w, cs, h => by
  obtain ⟨cs', h1, h2, h3⟩ := esetCells_at vs (o + 1) _ _ (xqb h o v)
  refine ⟨cs', h1, by rw [h2]; simp, ?_⟩
  have h4 : (cs'.toList.take (o + 1)).take o = cs'.toList.take o := by rw [List.take_take]; congr 1; omega
  rw [<- h4, h3, List.take_take, Array.toList_setIfInBounds, List.take_set]
  rw [List.set_eq_of_length_le (by simp; omega)]
  congr 1
  omega
theorem Fo.setCells {O : Nat -> Prop} {g : Nat} (hO : O g) : ∀ (vs : List Value) (o : Nat) (a w : World), Fo O a w -> Fo O a (w.setCells g o vs)
 | [], _, _, _, h => h
 | v :: vs, o, a, _, h => Fo.setCells hO vs (o + 1) a _ (h.setCell (p := ⟨g, o, none⟩) (.inl hO) v)
theorem erun_clear_cells {P : Program} (w : World) (t e : TypeId) (z : Value) (ht : P.underlying t = some (.slice e)) (hv : ∀ w, (zeroValue e).run P w = .ok z w) (h1 : ∀ v ∈ z.cells.toList, v.oneCell' = true) (hz : 0 < z.cells.size)
 {b o n c : Nat} {cs : Array Value} {te : TypeId} (hn : 0 < n) (hb : w.heap[b]? = some (.cells cs te (0, 0))) (ho : o + n * z.cells.size <= cs.size) :
 ∃ vs, ∀ ty, (Builtin.clear_ #[t] ty #[.slice (some ⟨b, o, none⟩) n c]).run P w = .ok (.tuple #[]) (w.setCells b o vs) := by
 have hl : (Builtin.zeroCells z.cells n).toList.length = n * z.cells.size := by simp [Builtin.zeroCells]
 have hc : ∀ j, j < (Builtin.zeroCells z.cells n).toList.length -> (w.cell? ⟨b, o + 0 + j, none⟩).isSome = true := by
  intro j hj
  rw [hl] at hj
  rw [cell_of_row w b (o + 0 + j) _ _ _ hb, Array.getElem?_eq_getElem (by omega)]
  rfl
 have hf : ∀ j, j < (Builtin.zeroCells z.cells n).toList.length -> w.frozen? ⟨b, o + 0 + j, none⟩ = false := by
  intro j hj
  simp [World.frozen?, hb]
 have hs := run_storeCells_cells (P := P) b o _ 0 w hc hf (by
  intro v hm
  simp only [Builtin.zeroCells, Array.toList_map, Array.toList_range, List.mem_map] at hm
  obtain ⟨i, _, rfl⟩ := hm
  have hi : i % z.cells.size < z.cells.size := Nat.mod_lt _ hz
  rw [getElem!_pos z.cells _ hi]
  exact h1 _ (by simp))
 refine ⟨(Builtin.zeroCells z.cells n).toList, fun ty => ?_⟩
 obtain ⟨m, rfl⟩ : ∃ m, n = m + 1 := ⟨n - 1, by omega⟩
 simp only [Nat.add_zero] at hs
 simp [Builtin.clear_, run_underlying ht, hv, hs]
def xq7 (P : Ev -> Bool) (l : List Ev) (j : Nat) : List Ev := (l.take j).filter fun r => !P r
theorem ekeptTo_hit {P : Ev -> Bool} {l : List Ev} {j : Nat} {r : Ev} (h : l[j]? = some r) (hp : P r = false) : xq7 P l (j + 1) = xq7 P l j ++ [r] := by
 simp [xq7, List.take_add_one, h, hp]
theorem ekeptTo_miss {P : Ev -> Bool} {l : List Ev} {j : Nat} {r : Ev} (h : l[j]? = some r) (hp : P r = true) : xq7 P l (j + 1) = xq7 P l j := by
 simp [xq7, List.take_add_one, h, hp]
theorem ekeptTo_all {P : Ev -> Bool} {l : List Ev} : xq7 P l l.length = l.filter fun r => !P r := by simp [xq7]
structure EMid (wr : World) (base g cap : Nat) (l : List Ev) (P : Ev -> Bool) (i j : Nat) : Prop where
 row : ∃ X, OwnE wr base 50 (.slice (some ⟨g, 0, none⟩) l.length cap) X /\ X.take i = xq7 P l j /\ X.drop j = l.drop j /\ X.length = l.length
 len : i = (xq7 P l j).length
 lt : i < j
 le : j <= l.length
variable {g cap i j : Nat} {P : Ev -> Bool} {wr : World} {r : Ev}
theorem EMid.cells (a : EMid wr base g cap l P i j) (hr : l[j]? = some r) : ∃ X, OwnE wr base 50 (.slice (some ⟨g, 0, none⟩) l.length cap) X /\ X[j]? = some r := by
 obtain ⟨X, h1, _, h3, _⟩ := a.row
 refine ⟨X, h1, ?_⟩
 have := congrArg (fun m => m[0]?) h3
 simp only [List.getElem?_drop, Nat.add_zero] at this
 rw [this, hr]
theorem EMid.spot (a : EMid wr base g cap l P i j) : ∃ X s, OwnE wr base 50 (.slice (some ⟨g, 0, none⟩) l.length cap) X /\ X[i]? = some s := by
 obtain ⟨X, h1, _, _, h4⟩ := a.row
 have := a.lt; have := a.le
 exact ⟨X, X[i]'(by omega), h1, List.getElem?_eq_getElem (by omega)⟩
theorem EMid.skip (a : EMid wr base g cap l P i j) (hr : l[j]? = some r) (hp : P r = true) (hk : Kept wr w' []) : EMid w' base g cap l P i (j + 1) := by
 obtain ⟨X, h1, h2, h3, h4⟩ := a.row
 have hj : j < l.length := (List.getElem?_eq_some_iff.1 hr).1
 exact ⟨⟨X, h1.kept hk (by simp), by rw [ekeptTo_miss hr hp]; exact h2, by rw [<- List.drop_drop, h3, List.drop_drop], h4⟩, by rw [ekeptTo_miss hr hp]; exact a.len, by have := a.lt; omega, hj⟩
theorem EMid.put (a : EMid wr base g cap l P i j) (hr : l[j]? = some r) (hp : P r = false) (hk : Kept wr w' []) :
 EMid ((((((((w'.setCell ⟨g, i * 8, none⟩ (.int .i64 r.id)).setCell ⟨g, i * 8 + 1, none⟩ (.int .i64 r.tx)).setCell ⟨g, i * 8 + 2, none⟩ (.string r.ow)).setCell ⟨g, i * 8 + 3, none⟩ (.int .i64 r.tr)).setCell ⟨g, i * 8 + 4, none⟩ (.int .i64 r.tb)).setCell ⟨g, i * 8 + 5, none⟩ (.int .u8 r.kd)).setCell ⟨g, i * 8 + 6, none⟩ (.int .i64 r.key)).setCell ⟨g, i * 8 + 7, none⟩ (.string r.t)) base g cap l P (i + 1) (j + 1) := by
 obtain ⟨X, h1, h2, h3, h4⟩ := a.row
 have hj : j < l.length := (List.getElem?_eq_some_iff.1 hr).1
 have hlt := a.lt
 refine ⟨⟨X.set i r, (h1.kept hk (by simp)).put i (by omega) r, ?_, ?_, by rw [List.length_set, h4]⟩, by rw [ekeptTo_hit hr hp, List.length_append, <- a.len]; rfl, by omega, hj⟩
 ·rw [ekeptTo_hit hr hp, <- h2, List.take_add_one, List.take_set_of_le (Nat.le_refl _), List.getElem?_set_self (by omega)]
  rfl
 ·rw [List.drop_set_of_lt (by omega), <- List.drop_drop, h3, List.drop_drop]
theorem EMid.done (a : EMid wr base g cap l P i l.length) (vs : List Value) :
 i = (l.filter fun r => !P r).length /\ OwnE (wr.setCells g (i * 8) vs) base 50 (.slice (some ⟨g, 0, none⟩) i cap) (l.filter fun r => !P r) := by
 obtain ⟨X, h1, h2, _, h4⟩ := a.row
 have hl := a.len
 have hlt := a.lt
 rw [ekeptTo_all] at h2 hl
 rcases h1.2 with ⟨h0, _⟩ | ⟨g', cap', cur, h0, hbg, hg, hnc, hcm, hcs, htk⟩
 ·cases h0
 simp only [Value.slice.injEq, Option.some.injEq, Addr.mk.injEq] at h0
 obtain ⟨⟨rfl, _⟩, hn, rfl⟩ := h0
 obtain ⟨cs', c1, c2, c3⟩ := esetCells_at vs (i * 8) wr cur hg
 refine ⟨hl, by rw [xqE], .inr ⟨g, cap, cs', by rw [<- hl], hbg, c1, by omega, hcm, by rw [c2, hcs], ?_⟩⟩
 rw [<- hl, c3, <- h2]
 have e : (cur.toList.take (X.length * 8)).take (i * 8) = cur.toList.take (i * 8) := by rw [List.take_take]; congr 1; omega
 rw [<- e, htk]
 conv => lhs; rw [<- List.take_append_drop i X, xqB]
 exact List.take_left' (by rw [xqE, List.length_take]; omega)
theorem EMid.clear (a : EMid wr base g cap l P i l.length) :
 ∃ vs, ∀ ty, (Builtin.clear_ #[57] ty #[.slice (some ⟨g, i * 8, none⟩) (l.length - i) (cap - i)]).run Tryz.prog wr = .ok (.tuple #[]) (wr.setCells g (i * 8) vs) := by
 obtain ⟨X, h1, _, _, h4⟩ := a.row
 have hlt := a.lt
 rcases h1.2 with ⟨h0, _⟩ | ⟨g', cap', cur, h0, hbg, hg, hnc, hcm, hcs, htk⟩
 ·cases h0
 simp only [Value.slice.injEq, Option.some.injEq, Addr.mk.injEq] at h0
 obtain ⟨⟨rfl, _⟩, hn, rfl⟩ := h0
 exact erun_clear_cells wr _ 50 _ Tryz.underlying57 (fun w => Tryz.zeroValue50 w) (by
  intro v hv
  simp [Value.cells] at hv
  rcases hv with rfl | rfl | rfl | rfl | rfl | rfl | rfl | rfl <;> rfl) (by simp [Value.cells]) (by omega) hg (by simp [Value.cells]; omega)
theorem Fo.one {O : Nat -> Prop} {a b c : World} (h : Fo O a b) (k : Kept b c []) : Fo O a c := h.trans (Fo.ofKept k O)
theorem Fo.set8 {O : Nat -> Prop} {a w : World} {g : Nat} (h : Fo O a w) (hg : O g) (k : Nat) (u0 u1 u2 u3 u4 u5 u6 u7 : Value) :
 Fo O a ((((((((w.setCell ⟨g, k, none⟩ u0).setCell ⟨g, k + 1, none⟩ u1).setCell ⟨g, k + 2, none⟩ u2).setCell ⟨g, k + 3, none⟩ u3).setCell ⟨g, k + 4, none⟩ u4).setCell ⟨g, k + 5, none⟩ u5).setCell ⟨g, k + 6, none⟩ u6).setCell ⟨g, k + 7, none⟩ u7) :=
 (((((((h.setCell (p := ⟨g, k, none⟩) (.inl hg) u0).setCell (p := ⟨g, k + 1, none⟩) (.inl hg) u1).setCell (p := ⟨g, k + 2, none⟩) (.inl hg) u2).setCell (p := ⟨g, k + 3, none⟩) (.inl hg) u3).setCell (p := ⟨g, k + 4, none⟩) (.inl hg) u4).setCell (p := ⟨g, k + 5, none⟩) (.inl hg) u5).setCell (p := ⟨g, k + 6, none⟩) (.inl hg) u6).setCell (p := ⟨g, k + 7, none⟩) (.inl hg) u7
theorem edeleteFunc_some {w : World} {base g cap : Nat} (l : List Ev) (ho : OwnE w base 50 (.slice (some ⟨g, 0, none⟩) l.length cap) l) (hlen : l.length < 1000000) (c : Nat) (lb : Array Value) (P : Ev -> Bool) (ec : ∀ args w, (callFunc c args).run Tryz.prog w = .ok (.enter c args) w) (hc : PaysE w (fun k => k = g) c lb P) :
 Calls Tryz.prog 139 #[.slice (some ⟨g, 0, none⟩) l.length cap, .func (.func c) #[] lb] w fun e w' => e = .returned (.slice (some ⟨g, 0, none⟩) (l.filter fun r => !P r).length cap) /\
  OwnE w' base 50 (.slice (some ⟨g, 0, none⟩) (l.filter fun r => !P r).length cap) (l.filter fun r => !P r) /\ Fo (fun k => k = g) w w' := by
 have HC := iH hc
 have HO := iH ho
 have ci := eindexFunc_any _ ho hlen c lb P ec _ hc
 rcases ho.2 with ⟨h0, _⟩ | ⟨g', cap', cur, h0, hbg, hg, hnc, hcm, hcs, htk⟩
 ·cases h0
 simp only [Value.slice.injEq, Option.some.injEq, Addr.mk.injEq] at h0
 obtain ⟨⟨rfl, _⟩, _, rfl⟩ := h0
 cases hi : l.findIdx? P with
 | none =>
 have e1 : eidx P l = -1 := by rw [eidx, hi]
 rw [e1] at ci
 have e2 : (l.filter fun r => !P r) = l := by
  rw [List.filter_eq_self]
  intro r hr
  rw [List.findIdx?_eq_none_iff] at hi
  simp [hi r hr]
 rw [e2]
 clear hc ho hbg hg hnc hcm hcs htk e1 hi e2
 go_enter Tryz.func139, Tryz.ntmps139
 go_wp2_with (go_at_call 99; refine ci.mono ?_; rintro e w' ⟨rfl, k2⟩)
 go_ret
 exact ⟨rfl, HO.out.kept k2 (by simp), Fo.ofKept k2 _⟩
 | some k0 =>
  have e1 : eidx P l = k0 := by rw [eidx, hi]
  have hlt := efind_lt hi
  rw [e1] at ci
  have hx1 : ((k0 : Int) == -1) = false := beq_eq_false_iff_ne.2 (by omega)
  have start : ∀ V, Kept w V [] -> EMid V base g cap l P k0 (k0 + 1) := by
   intro V hV
   rw [List.findIdx?_eq_some_iff_getElem] at hi
   obtain ⟨h1, h2, h3⟩ := hi
   have hk : xq7 P l k0 = l.take k0 := by
    rw [xq7, List.filter_eq_self]
    intro r hr
    obtain ⟨m, hm, e⟩ := List.mem_iff_getElem.1 hr
    rw [List.getElem_take] at e
    simp only [List.length_take] at hm
    have := h3 m (by omega)
    rw [e] at this
    simpa using this
   have hk1 : xq7 P l (k0 + 1) = l.take k0 := by rw [ekeptTo_miss (List.getElem?_eq_getElem h1) h2, hk]
   exact ⟨⟨l, ho.kept hV (by simp), by rw [hk1], rfl, rfl⟩, by rw [hk1]; simp; omega, by omega, by omega⟩
  have ST := iH start
  have HL : RowKit.Hid (l.length <= cap /\ cap <= maxLen /\ base <= g) := iH ⟨hnc, hcm, hbg⟩
  clear hc ho hbg hg hnc hcm hcs htk e1 hi start
  go_enter Tryz.func139, Tryz.ntmps139
  go_wp2_with (go_at_call 99; refine ci.mono ?_; rintro e w1 ⟨rfl, k1⟩)
  go_loopw [5, 6, 7] (fun s5 s6 _ wr => ∃ i j : Nat, s5 = .int .i64 i /\ s6 = .int .i64 j /\ EMid wr base g cap l P i j /\ Fo (fun k => k = g) w wr) (fun _ s6 _ _ => l.length - (intOf s6).toNat)
  case atStart => exact ⟨k0, k0 + 1, rfl, by go_num, ST.out _ k1, Fo.ofKept k1 _⟩
  case round =>
  obtain ⟨i, j, rfl, rfl, m, fo⟩ := hrel
  have M := iH m; have FO := iH fo
  have hle := m.le
  have hij := m.lt
  clear m fo
  by_cases hj : j < l.length
  ·obtain ⟨r, hr⟩ : ∃ r, l[j]? = some r := ⟨_, List.getElem?_eq_getElem hj⟩
   obtain ⟨X, hX, hXr⟩ := M.out.cells hr
   obtain ⟨c0, c1, c2, c3, c4, c5, c6, c7⟩ := hX.eight hXr
   have HR := iH hr
   have x1 : (j : Int) < (l.length : Int) := by omega
   have x2 : (i : Int) < (l.length : Int) := by omega
   have call := HC.out r
   obtain ⟨q, hq⟩ : ∃ q, P r = q := ⟨_, rfl⟩
   rw [hq] at call
   have HQ := iH hq
   have CALL := iH call
   clear hr hq call hX hXr X
   obtain ⟨b0, b1, b2, b3, b4, b5, b6, b7⟩ := r
   simp only [Ev.cs] at c0 c1 c2 c3 c4 c5 c6 c7 CALL
   go_wp2_with fail
   refine (CALL.out _ (FO.out.alloc _)).mono ?_
   rintro e w2 ⟨rfl, k2⟩
   have bb := k2.heap (by simp) (heap_alloc_new wr (.cells #[.int .i64 b0, .int .i64 b1, .string b2, .int .i64 b3, .int .i64 b4, .int .u8 b5, .int .i64 b6, .string b7] 50))
   have K2 := iH (((Kept.refl wr []).alloc (.cells #[.int .i64 b0, .int .i64 b1, .string b2, .int .i64 b3, .int .i64 b4, .int .u8 b5, .int .i64 b6, .string b7] 50)).trans k2 (by simp))
   obtain ⟨y0, y1, y2, y3, y4, y5, y6, y7⟩ := xqm bb
   obtain ⟨X, s, hX, hXs⟩ := M.out.spot
   obtain ⟨z0, z1, z2, z3, z4, z5, z6, z7⟩ := (hX.kept K2.out (by simp)).eight hXs
   obtain ⟨f0, f1, f2, f3, f4, f5, f6, f7⟩ := (hX.kept K2.out (by simp)).eightF hXs
   clear k2 bb c0 c1 c2 c3 c4 c5 c6 c7 hX hXs X
   cases q
   ·go_wp2
    go_roundw
    case rel =>
     have m2 := EMid.put (w' := w2) M.out HR.out HQ.out K2.out
     have f2 := (FO.out.one K2.out).set8 (g := g) rfl (i * 8) (.int .i64 b0) (.int .i64 b1) (.string b2) (.int .i64 b3) (.int .i64 b4) (.int .u8 b5) (.int .i64 b6) (.string b7)
     exact ⟨i + 1, j + 1, by go_num, by go_num, m2, f2⟩
    case measure => simp [intOf]; omega
   go_wp2
   go_roundw
   case rel => exact ⟨i, j + 1, rfl, by go_num, M.out.skip HR.out HQ.out K2.out, FO.out.one K2.out⟩
   case measure => simp [intOf]; omega
  obtain rfl : j = l.length := by omega
  have x1 : ¬ (l.length : Int) < (l.length : Int) := by omega
  have x2 : (i : Int) <= (l.length : Int) := by omega
  have x3 : (i : Int) <= (cap : Int) := by have := HL.out.1; omega
  have x4 : (l.length : Int) <= (cap : Int) := by have := HL.out.1; omega
  have x5 : i < cap := by have := HL.out.1; omega
  obtain ⟨vs, hcl⟩ := M.out.clear
  go_wp2
  go_ret
  obtain ⟨e1, e2⟩ := M.out.done vs
  rw [<- e1]
  exact ⟨rfl, e2, Fo.setCells (O := fun k => k = g) rfl vs (i * 8) _ _ FO.out⟩
theorem edeleteFunc_any {w : World} {base : Nat} {v : Value} {l : List Ev} (ho : OwnE w base 50 v l) (hlen : l.length < 1000000) (c : Nat) (lb : Array Value) (P : Ev -> Bool) (ec : ∀ args w, (callFunc c args).run Tryz.prog w = .ok (.enter c args) w) (hc : PaysE w (fun k => v.ownBlock = some k) c lb P) :
 Calls Tryz.prog 139 #[v, .func (.func c) #[] lb] w fun e w' => ∃ v', e = .returned v' /\ OwnE w' base 50 v' (l.filter fun r => !P r) /\ (∀ k, v'.ownBlock = some k -> v.ownBlock = some k) /\ Fo (fun k => v.ownBlock = some k) w w' := by
 rcases ho.2 with ⟨rfl, h0⟩ | ⟨g, cap, cur, rfl, hbg, hg, hnc, hcm, hcs, htk⟩
 ·obtain rfl : l = [] := List.eq_nil_of_length_eq_zero h0
  have ci := eindexFunc_any _ ho hlen c lb P ec _ hc
  have e1 : eidx P [] = -1 := rfl
  rw [e1] at ci
  have HO := iH ho
  clear ho hc
  go_enter Tryz.func139, Tryz.ntmps139
  go_wp2_with (go_at_call 99; refine ci.mono ?_; rintro e w' ⟨rfl, k2⟩)
  go_ret
  exact ⟨_, rfl, HO.out.kept k2 (by simp [Value.ownBlock]), fun k hk => hk, Fo.ofKept k2 _⟩
 ·have e : (fun k => (Value.slice (some ⟨g, 0, none⟩) l.length cap).ownBlock = some k) = (fun k => k = g) := by
   funext k
   simp only [Value.ownBlock, Option.some.injEq]
   exact propext ⟨fun h => h.symm, fun h => h.symm⟩
  rw [e] at hc ⊢
  refine (edeleteFunc_some l ho hlen c lb P ec hc).mono ?_
  rintro r w' ⟨rfl, h1, h2⟩
  exact ⟨_, rfl, h1, fun k hk => hk, h2⟩
def ofX (x : Int) (e : Ev) : Bool := e.tx == x
theorem ofX_any (e : Ev) (x : Int) (xb : Nat) (W : World) (hx : W.cell? ⟨xb, 0, none⟩ = some (.int .i64 x)) (hxb : xb < W.heap.size) :
 Calls Tryz.prog 138 #[.agg e.cs, .pointer (some ⟨xb, 0, none⟩)] W fun r w' => r = .returned (.bool (ofX x e)) /\ Kept W w' [] := by
 have hy : (W.alloc (.cells e.cs 50)).cell? ⟨xb, 0, none⟩ = some (.int .i64 x) := ((Kept.refl W []).alloc _).cell (by simp) hx
 obtain ⟨b0, b1, b2, b3, b4, b5, b6, b7⟩ := e
 unfold ofX
 simp only [Ev.cs] at *
 go_enter Tryz.func138, Tryz.ntmps138
 go_wp2
 go_ret
 exact ⟨rfl, (Kept.refl W []).alloc _⟩
end Go.Proofs.YticiofkiffgclaaGreat
