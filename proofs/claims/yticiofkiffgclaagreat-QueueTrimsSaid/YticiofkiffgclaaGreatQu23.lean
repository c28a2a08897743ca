/-
 Kf, Kg in one text.
-/
import Derived.Test.YticiofkiffgclaaGreatQu0
import Derived.Test.YticiofkiffgclaaGreatQu22
import Derived.Lib.SliceRun
import Derived.LoopTactic
import Derived.Shelf.Abstract
set_option linter.unusedVariables false
set_option maxHeartbeats 16000000
set_option maxRecDepth 100000
namespace Go.Proofs.YticiofkiffgclaaGreat
open Go.RowKit
variable {w w' : World} {base : Nat} {l : List Tk}
def kidx (P : Tk -> Bool) (l : List Tk) : Int := match l.findIdx? P with | some i => i | none => -1
theorem kidx_hit {P : Tk -> Bool} {l : List Tk} {k : Nat} {r : Tk} (hr : l[k]? = some r) (hp : P r = true) (hb : ∀ j s, j < k -> l[j]? = some s -> P s = false) : l.findIdx? P = some k := by
 obtain ⟨hk, e⟩ := List.getElem?_eq_some_iff.1 hr
 rw [List.findIdx?_eq_some_iff_getElem]
 refine ⟨hk, by rw [e]; exact hp, fun j hj => ?_⟩
 rw [hb j l[j] hj (List.getElem?_eq_getElem _)]
 simp
theorem kidx_miss {P : Tk -> Bool} {l : List Tk} (hb : ∀ j s, j < l.length -> l[j]? = some s -> P s = false) : l.findIdx? P = none := by
 rw [List.findIdx?_eq_none_iff]
 intro s hs
 obtain ⟨j, hj, e⟩ := List.mem_iff_getElem.1 hs
 exact hb j s hj (by rw [List.getElem?_eq_getElem hj, e])
theorem kfind_lt {P : Tk -> Bool} {l : List Tk} {k : Nat} (h : l.findIdx? P = some k) : k < l.length := (List.findIdx?_eq_some_iff_getElem.1 h).1
theorem OwnT.four {e : TypeId} {g n c : Nat} (h : OwnT w base e (.slice (some ⟨g, 0, none⟩) n c) l) {k : Nat} {r : Tk} (hr : l[k]? = some r) :
 w.cell? ⟨g, k * 4, none⟩ = some (.int .i64 r.n) /\ w.cell? ⟨g, k * 4 + 1, none⟩ = some (.int .i64 r.M) /\ w.cell? ⟨g, k * 4 + 2, none⟩ = some r.op /\ w.cell? ⟨g, k * 4 + 3, none⟩ = some (.int .i64 r.t) := by
 obtain ⟨hk, rfl⟩ := List.getElem?_eq_some_iff.1 hr
 obtain ⟨g', hg, hc⟩ := h.at k hk
 simp only [Option.some.injEq, Addr.mk.injEq] at hg
 obtain ⟨rfl, _⟩ := hg
 exact ⟨(hc 0 (by decide)).1, (hc 1 (by decide)).1, (hc 2 (by decide)).1, (hc 3 (by decide)).1⟩
theorem OwnT.fourF {e : TypeId} {g n c : Nat} (h : OwnT w base e (.slice (some ⟨g, 0, none⟩) n c) l) {k : Nat} {r : Tk} (hr : l[k]? = some r) :
 w.frozen? ⟨g, k * 4, none⟩ = false /\ w.frozen? ⟨g, k * 4 + 1, none⟩ = false /\ w.frozen? ⟨g, k * 4 + 2, none⟩ = false /\ w.frozen? ⟨g, k * 4 + 3, none⟩ = false := by
 obtain ⟨hk, rfl⟩ := List.getElem?_eq_some_iff.1 hr
 obtain ⟨g', hg, hc⟩ := h.at k hk
 simp only [Option.some.injEq, Addr.mk.injEq] at hg
 obtain ⟨rfl, _⟩ := hg
 exact ⟨(hc 0 (by decide)).2, (hc 1 (by decide)).2, (hc 2 (by decide)).2, (hc 3 (by decide)).2⟩
def PaysK (w : World) (O : Nat -> Prop) (c : Nat) (lb : Array Value) (P : Tk -> Bool) : Prop :=
 ∀ (r : Tk) (V : World), Fo O w V -> Calls Tryz.prog c (#[.agg r.cs] ++ lb) V fun e w' => e = .returned (.bool (P r)) /\ Kept V w' []
theorem yqy (sv : Value) (ho : OwnT w base 38 sv l) (hlen : l.length < 1000000) (c : Nat) (lb : Array Value) (P : Tk -> Bool) (ec : ∀ args w, (callFunc c args).run Tryz.prog w = .ok (.enter c args) w) (O : Nat -> Prop) (hc : PaysK w O c lb P) :
 Calls Tryz.prog 160 #[sv, .func (.func c) #[] lb] w fun e w' => e = .returned (.int .i64 (kidx P l)) /\ Kept w w' [] := by
 have HO := iH ho
 have HC := iH hc
 clear hc
 rcases ho.2 with ⟨rfl, h0⟩ | ⟨g, cap, cur, rfl, _, _, hnc, hcm, _, _⟩
 ·obtain rfl : l = [] := List.eq_nil_of_length_eq_zero h0
  clear ho
  go_enter Tryz.func160, Tryz.ntmps160
  go_wp2
  go_loop [5, 8] (fun _ t => t = .int .i64 0) (fun _ _ => 0)
  case atStart => rfl
  case round =>
  subst hrel
  go_wp2
  go_ret
  exact ⟨rfl, Kept.refl w []⟩
 ·clear ho hnc hcm
  go_enter Tryz.func160, Tryz.ntmps160
  go_wp2
  go_loopw [5, 8] (fun _ t wr => ∃ k : Nat, t = .int .i64 k /\ k <= l.length /\ Kept w wr [] /\ (∀ j s, j < k -> l[j]? = some s -> P s = false)) (fun _ t _ => l.length - (intOf t).toNat)
  case atStart => exact ⟨0, rfl, Nat.zero_le _, Kept.refl w [], fun j s hj => absurd hj (Nat.not_lt_zero _)⟩
  case round =>
  obtain ⟨k, rfl, hk, hkw, hx⟩ := hrel
  have Hx := iH hx; have K := iH hkw
  clear hx hkw
  by_cases hlt : k < l.length
  ·obtain ⟨r, hr⟩ : ∃ r, l[k]? = some r := ⟨_, List.getElem?_eq_getElem hlt⟩
   obtain ⟨c0, c1, c2, c3⟩ := (HO.out.kept K.out (by simp)).four hr
   have HR := iH hr
   have x1 : (k : Int) < (l.length : Int) := by omega
   have call := HC.out r wr (Fo.ofKept K.out _)
   obtain ⟨q, hq⟩ : ∃ q, P r = q := ⟨_, rfl⟩
   rw [hq] at call
   have HQ := iH hq
   clear hr hq
   obtain ⟨b0, b1, b2, b3, b4, b5⟩ := r
   simp only [Tk.cs, Tk.op] at c0 c1 c2 c3 call
   cases q
   ·go_wp2_with (go_at_fn c; refine call.mono ?_; rintro e w2 ⟨rfl, k2⟩)
    go_roundw
    case rel =>
     refine ⟨k + 1, by go_num, by omega, K.out.trans k2 (by simp), fun j s hj hs => ?_⟩
     by_cases e : j = k
     ·subst e
      rw [HR.out] at hs
      cases hs
      exact HQ.out
     exact Hx.out j s (by omega) hs
    case measure => simp [intOf]; omega
   have R : RowKit.Hid (kidx P l = k) := iH (by rw [kidx, kidx_hit HR.out HQ.out Hx.out])
   go_wp2_with (go_at_fn c; refine call.mono ?_; rintro e w2 ⟨rfl, k2⟩)
   go_ret
   rw [R.out]
   exact ⟨rfl, K.out.trans k2 (by simp)⟩
  have R : RowKit.Hid (kidx P l = -1) := iH (by rw [kidx, kidx_miss (fun j s hj => Hx.out j s (by omega))])
  have x1 : ¬ (k : Int) < (l.length : Int) := by omega
  go_wp2
  go_ret
  rw [R.out]
  exact ⟨rfl, K.out⟩
theorem PaysK.after {O : Nat -> Prop} {c : Nat} {lb : Array Value} {P : Tk -> Bool} {W1 : World} (hc : PaysK w O c lb P) (k : Kept w W1 []) : PaysK W1 O c lb P := fun r V hV => hc r V ((Fo.ofKept k O).trans hV)
theorem find_idx {P : Tk -> Bool} : ∀ {l : List Tk}, (∀ k, l.findIdx? P = some k -> l.find? P = l[k]?) /\ (l.findIdx? P = none -> l.find? P = none) := by
 intro l
 induction l with
 | nil => exact ⟨fun k h => by simp at h, fun _ => rfl⟩
 | cons x r ih =>
 rw [List.findIdx?_cons, List.find?_cons]
 cases hx : P x with
 | true => exact ⟨fun k h => by simp at h; subst h; rfl, fun h => by simp at h⟩
 | false =>
 refine ⟨fun k h => ?_, fun h => ?_⟩
 ·simp at h
  obtain ⟨j, hj, rfl⟩ := h
  have := ih.1 j hj
  rw [List.getElem?_cons_succ]
  exact this
 simp at h
 exact ih.2 (by simpa using h)
def FirstPost (w : World) (o : Option Pt) (e : Ending) (w' : World) : Prop :=
 ∃ (y : Tk), e = .returned (.tuple #[.agg y.cs, .bool o.isSome]) /\ y.pl = o.getD ⟨0, 0, [], 0⟩ /\ RdT w' y.op y.l /\ (∀ b, y.op.ownBlock = some b -> w.heap.size <= b) /\ Kept w w' []
theorem first_nil (f : Value) (w : World) : Calls Tryz.prog 104 #[.pointer none, f] w fun e w' => e = .returned (.tuple #[.agg #[.int .i64 0, .int .i64 0, .slice none 0 0, .int .i64 0], .bool false]) /\ Kept w w' [] := by
 go_enter Tryz.func104, Tryz.ntmps104
 go_wp2
 refine bodyPost_ret (v := .tuple #[.agg #[.int .i64 0, .int .i64 0, .slice none 0 0, .int .i64 0], .bool false]) (by simp [results, Tryz.results104, go_sem]) rfl ?_
 exact ⟨rfl, (Kept.refl w []).alloc _⟩
variable {w w' : World} {base : Nat} {l : List Tk}
variable {B h : Nat} {V : Value} {xs : List Tk}
theorem first_any (a : Tc tkT [] w B h V xs) (hl : xs.length <= 1000) (hll : ∀ x ∈ xs, x.l.length <= 1000) (c : Nat) (lb : Array Value) (P : Tk -> Bool) (Q : Pt -> Bool) (hPQ : ∀ x : Tk, P x = Q x.pl) (ec : ∀ args w, (callFunc c args).run Tryz.prog w = .ok (.enter c args) w) (O : Nat -> Prop) (hc : PaysK w O c lb P) :
 Calls Tryz.prog 104 #[.pointer (some ⟨h, 0, none⟩), .func (.func c) #[] lb] w (FirstPost w ((xs.map Tk.pl).find? Q)) := by
 have hfind : (xs.map Tk.pl).find? Q = (xs.find? P).map Tk.pl := by
  rw [List.find?_map]
  have : Q ∘ Tk.pl = P := by funext x; exact (hPQ x).symm
  rw [this]
 rw [hfind]
 obtain ⟨W1, hW1⟩ : ∃ W1, W1 = w.alloc zT4 := ⟨_, rfl⟩
 have k1 : Kept w W1 [] := by rw [hW1]; exact (Kept.refl w []).alloc _
 have g1 : W1.heap[w.heap.size]? = some zT4 := by rw [hW1]; exact heap_alloc_new _ _
 have a1 := a.keep k1
 obtain ⟨u, cp, hV⟩ := a1.shape
 have ci := yqy V a1.own (by omega) c lb P ec O (hc.after k1)
 have cv := a1.cell.1
 rw [hV] at cv ci
 have HI := iH ci
 have K1 := iH k1; have HW1 := iH hW1; have G1 := iH g1; have A1 := iH a1
 have HLL := iH hll
 have NF : RowKit.Hid (¬ xqx h V w.heap.size) := iH (fun hk => by have := (a.lt _ hk).2; omega)
 clear ci hc k1 hW1 g1 a a1 hPQ hfind hll
 cases hi : xs.findIdx? P with
 | none =>
 have e1 : kidx P xs = -1 := by rw [kidx, hi]
 have e2 := find_idx.2 hi
 rw [e1] at HI
 rw [e2]
 clear hi e1 e2
 go_enter Tryz.func104, Tryz.ntmps104
 go_upto_region 1 with fail
 rw [<- HW1.out]
 go_wp2_with fail
 refine HI.out.mono ?_
 rintro e w2 ⟨rfl, k2⟩
 have K2 := iH k2
 have g2 := k2.heap (by simp) G1.out
 obtain ⟨c0, c1, c2, c3⟩ := xqc g2
 obtain ⟨f0, f1, f2, f3⟩ := xqf g2
 clear g2 k2
 go_wp2
 refine bodyPost_ret (v := .tuple #[.agg #[.int .i64 0, .int .i64 0, .slice none 0 0, .int .i64 0], .bool false]) (by simp [results, Tryz.results104, go_sem, *]) rfl ?_
 exact ⟨Tk.zero, rfl, rfl, RdT.nil _, by intro b hb; simp [Tk.zero, Tk.op, Value.ownBlock] at hb, (K1.out.trans K2.out (by simp)).four (g := w.heap.size) (.inr (by omega)) _ _ _ _⟩
 | some k =>
  have e1 : kidx P xs = k := by rw [kidx, hi]
  have e2 := find_idx.1 k hi
  have hlt := kfind_lt hi
  obtain ⟨x, hx⟩ : ∃ r, xs[k]? = some r := ⟨_, List.getElem?_eq_getElem hlt⟩
  rw [hx] at e2
  rw [e1] at HI
  rw [e2]
  have hmem : x ∈ xs := List.mem_of_getElem? hx
  have hxl := HLL.out x hmem
  have hxr := A1.out.rd x hmem
  have o := A1.out.own
  rw [hV] at o
  obtain ⟨g, hg, _⟩ := o.at k hlt
  subst hg
  have CX := iH (fun U (hU : Kept W1 U []) => (o.kept hU (by simp)).four hx)
  obtain ⟨n', M', a', c', l', t'⟩ := x
  simp only [Tk.op] at *
  have HXR := iH hxr
  have CV := iH cv
  have OW := iH (fun U (hU : Kept W1 U []) => own_any ⟨n', M', a', c', l', t'⟩ U (hxr.keep hU).1 (by show l'.length <= 10000000; omega))
  simp only [Tk.cs] at OW
  have x1 : (k : Int) < (xs.length : Int) := by omega
  clear hi e1 e2 o hx hmem hxl hxr hV
  go_enter Tryz.func104, Tryz.ntmps104
  go_upto_region 1 with fail
  rw [<- HW1.out]
  go_wp2_with fail
  refine HI.out.mono ?_
  rintro e w2 ⟨rfl, k2⟩
  have K2 := iH k2
  obtain ⟨c0, c1, c2, c3⟩ := CX.out _ k2
  have cv2 := k2.cell (p := ⟨h, 0, none⟩) (by simp) CV.out
  clear cv k2
  go_wp2_with fail
  refine (OW.out _ K2.out).mono ?_
  rintro e w3 ⟨y, rfl, hpl, hry, hfy, k3⟩
  obtain ⟨y0, y1, y2, y3, y4, y5⟩ := y
  simp only [Tk.pl, Pt.mk.injEq] at hpl
  obtain ⟨e0, e1, e2, e3⟩ := hpl
  subst y0 y1 y4 y5
  simp only [Tk.op] at *
  have K3 := iH (K2.out.trans k3 (by simp))
  have HRY := iH hry; have HFY := iH hfy
  have g3 := K3.out.heap (by simp) G1.out
  have G3 := iH g3
  clear c0 c1 c2 c3 cv2 k3 hry hfy
  obtain ⟨c0, c1, c2, c3⟩ := xqc g3
  obtain ⟨f0, f1, f2, f3⟩ := xqf g3
  clear g3
  go_wp2
  refine bodyPost_ret (v := .tuple #[.agg #[.int .i64 n', .int .i64 M', .slice y2 l'.length y3, .int .i64 t'], .bool true]) (by simp [results, Tryz.results104, go_sem, *]) rfl ?_
  have f7 : Fo (fun k => k = w.heap.size) w3 ((((w3.setCell ⟨w.heap.size, 0, none⟩ (.int .i64 n')).setCell ⟨w.heap.size, 1, none⟩ (.int .i64 M')).setCell ⟨w.heap.size, 2, none⟩ (.slice y2 l'.length y3)).setCell ⟨w.heap.size, 3, none⟩ (.int .i64 t')) := Fo.four (O := fun k => k = w.heap.size) (Fo.refl _ w3) (g := w.heap.size) (.inl rfl) _ _ _ _
  have n7 : NoI w3 (fun k => k = w.heap.size) := by
   rintro k rfl cs fz hg
   rw [G3.out] at hg
   simp only [zT4, Option.some.injEq, Obj.cells.injEq] at hg
   exact absurd hg.2.1 (by decide)
  exact ⟨⟨n', M', y2, y3, l', t'⟩, rfl, rfl, HRY.out.fo f7 n7, fun b hb => by have := HFY.out b hb; have := (K1.out.trans K2.out (by simp)).size; omega, (K1.out.trans K3.out (by simp)).four (g := w.heap.size) (.inr (by omega)) _ _ _ _⟩
theorem tkget_fn (e : Tk) (n : Int) (xb : Nat) (W : World) (hx : W.cell? ⟨xb, 0, none⟩ = some (.int .i64 n)) :
 Calls Tryz.prog 105 #[.agg e.cs, .pointer (some ⟨xb, 0, none⟩)] W fun r w' => r = .returned (.bool (e.n == n)) /\ Kept W w' [] := by
 have hy : (W.alloc (.cells e.cs 38)).cell? ⟨xb, 0, none⟩ = some (.int .i64 n) := ((Kept.refl W []).alloc _).cell (by simp) hx
 obtain ⟨b0, b1, b2, b3, b4, b5⟩ := e
 simp only [Tk.cs] at *
 go_enter Tryz.func105, Tryz.ntmps105
 go_wp2
 go_ret
 exact ⟨rfl, (Kept.refl W []).alloc _⟩
theorem tkget_nil (n : Int) (w : World) : Calls Tryz.prog 40 #[.pointer none, .int .i64 n] w fun e w' => e = .returned (.tuple #[.agg #[.int .i64 0, .int .i64 0, .slice none 0 0, .int .i64 0], .bool false]) /\ Kept w w' [] := by
 obtain ⟨W1, hW1⟩ : ∃ W1, W1 = (w.alloc (.cells #[.int .i64 n] 2)).alloc zT4 := ⟨_, rfl⟩
 have k1 : Kept w W1 [] := by rw [hW1]; exact ((Kept.refl w []).alloc _).alloc _
 have e1 : (w.alloc (.cells #[.int .i64 n] 2)).heap.size = w.heap.size + 1 := by simp
 have g1 : W1.heap[w.heap.size + 1]? = some zT4 := by rw [hW1, <- e1]; exact heap_alloc_new _ _
 have K1 := iH k1; have HW1 := iH hW1; have G1 := iH g1
 clear k1 g1 hW1 e1
 go_enter Tryz.func40, Tryz.ntmps40
 go_wp2_with fail
 rw [<- HW1.out]
 refine (first_nil _ _).mono ?_
 rintro e w2 ⟨rfl, k2⟩
 have K2 := iH k2
 have g2 := k2.heap (by simp) G1.out
 obtain ⟨c0, c1, c2, c3⟩ := xqc g2
 obtain ⟨f0, f1, f2, f3⟩ := xqf g2
 clear g2 k2
 go_wp2
 refine bodyPost_ret (v := .tuple #[.agg #[.int .i64 0, .int .i64 0, .slice none 0 0, .int .i64 0], .bool false]) (by simp [results, Tryz.results40, go_sem, *]) rfl ?_
 exact ⟨rfl, (K1.out.trans K2.out (by simp)).four (g := w.heap.size + 1) (.inr (by omega)) _ _ _ _⟩
theorem tkget_any (a : Tc tkT [] w B h V xs) (ok : Okp (xs.map Tk.pl)) (n : Int) :
 Calls Tryz.prog 40 #[.pointer (some ⟨h, 0, none⟩), .int .i64 n] w (FirstPost w (getS (xs.map Tk.pl) n)) := by
 obtain ⟨W1, hW1⟩ : ∃ W1, W1 = (w.alloc (.cells #[.int .i64 n] 2)).alloc zT4 := ⟨_, rfl⟩
 have k1 : Kept w W1 [] := by rw [hW1]; exact ((Kept.refl w []).alloc _).alloc _
 have e1 : (w.alloc (.cells #[.int .i64 n] 2)).heap.size = w.heap.size + 1 := by simp
 have g0 : W1.heap[w.heap.size]? = some (.cells #[.int .i64 n] 2 (0, 0)) := by rw [hW1]; exact (Below.heap_alloc _ _ _ (by simp)).trans (heap_alloc_new w _)
 have g1 : W1.heap[w.heap.size + 1]? = some zT4 := by rw [hW1, <- e1]; exact heap_alloc_new _ _
 have s1 : W1.heap.size = w.heap.size + 2 := by rw [hW1]; simp
 have hc : PaysK W1 (fun _ => False) 105 #[.pointer (some ⟨w.heap.size, 0, none⟩)] (fun x => x.n == n) := fun r U hU => tkget_fn r n w.heap.size U (by rw [cell_of_row _ _ _ _ _ _ (hU.heap (by simp) g0)]; rfl)
 have FI := iH (first_any (a.keep k1) (by have := ok.size; simp at this; omega) (fun x hx => ok.len x.pl (List.mem_map_of_mem hx)) _ _ _ (fun p => p.n == n) (fun x => rfl) (fun args w => by kernel_rfl) _ hc)
 have K1 := iH k1; have HW1 := iH hW1; have G1 := iH g1; have SW := iH s1
 have HS : RowKit.Hid ((xs.map Tk.pl).find? (fun p => p.n == n) = getS (xs.map Tk.pl) n) := iH rfl
 rw [HS.out] at FI
 clear k1 g1 g0 hW1 e1 hc a ok s1
 go_enter Tryz.func40, Tryz.ntmps40
 go_wp2_with fail
 rw [<- HW1.out]
 refine FI.out.mono ?_
 rintro e w2 ⟨y, rfl, hpl, hry, hfy, k2⟩
 obtain ⟨y0, y1, y2, y3, y4, y5⟩ := y
 simp only [Tk.cs, Tk.op] at *
 have K2 := iH k2; have HP := iH hpl; have HRY := iH hry; have HFY := iH hfy
 have g2 := k2.heap (by simp) G1.out
 have G2 := iH g2
 obtain ⟨c0, c1, c2, c3⟩ := xqc g2
 obtain ⟨f0, f1, f2, f3⟩ := xqf g2
 clear g2 k2 hpl hry hfy
 generalize (getS (xs.map Tk.pl) n) = o at *
 go_wp2
 refine bodyPost_ret (v := .tuple #[.agg #[.int .i64 y0, .int .i64 y1, .slice y2 y4.length y3, .int .i64 y5], .bool o.isSome]) (by simp [results, Tryz.results40, go_sem, *]) rfl ?_
 have f7 : Fo (fun k => k = w.heap.size + 1) w2 ((((w2.setCell ⟨w.heap.size + 1, 0, none⟩ (.int .i64 y0)).setCell ⟨w.heap.size + 1, 1, none⟩ (.int .i64 y1)).setCell ⟨w.heap.size + 1, 2, none⟩ (.slice y2 y4.length y3)).setCell ⟨w.heap.size + 1, 3, none⟩ (.int .i64 y5)) := Fo.four (O := fun k => k = w.heap.size + 1) (Fo.refl _ w2) (g := w.heap.size + 1) (.inl rfl) _ _ _ _
 have n7 : NoI w2 (fun k => k = w.heap.size + 1) := by
  rintro k rfl cs fz hg
  rw [G2.out] at hg
  simp only [zT4, Option.some.injEq, Obj.cells.injEq] at hg
  exact absurd hg.2.1 (by decide)
 exact ⟨⟨y0, y1, y2, y3, y4, y5⟩, rfl, HP.out, HRY.out.fo f7 n7, fun b hb => by have := HFY.out b hb; have := SW.out; omega, (K1.out.trans K2.out (by simp)).four (g := w.heap.size + 1) (.inr (by omega)) _ _ _ _⟩
theorem tkaft_fn (e : Tk) (n : Int) (xb : Nat) (W : World) (hx : W.cell? ⟨xb, 0, none⟩ = some (.int .i64 n)) :
 Calls Tryz.prog 149 #[.agg e.cs, .pointer (some ⟨xb, 0, none⟩)] W fun r w' => r = .returned (.bool (decide (n < e.n))) /\ Kept W w' [] := by
 have hy : (W.alloc (.cells e.cs 38)).cell? ⟨xb, 0, none⟩ = some (.int .i64 n) := ((Kept.refl W []).alloc _).cell (by simp) hx
 obtain ⟨b0, b1, b2, b3, b4, b5⟩ := e
 simp only [Tk.cs] at *
 go_enter Tryz.func149, Tryz.ntmps149
 go_wp2
 go_ret
 exact ⟨rfl, (Kept.refl W []).alloc _⟩
theorem tkaft_any (a : Tc tkT [] w B h V xs) (ok : Okp (xs.map Tk.pl)) (n : Int) :
 Calls Tryz.prog 93 #[.pointer (some ⟨h, 0, none⟩), .int .i64 n] w (FirstPost w (aftS (xs.map Tk.pl) n)) := by
 obtain ⟨W1, hW1⟩ : ∃ W1, W1 = (w.alloc (.cells #[.int .i64 n] 2)).alloc zT4 := ⟨_, rfl⟩
 have k1 : Kept w W1 [] := by rw [hW1]; exact ((Kept.refl w []).alloc _).alloc _
 have e1 : (w.alloc (.cells #[.int .i64 n] 2)).heap.size = w.heap.size + 1 := by simp
 have g0 : W1.heap[w.heap.size]? = some (.cells #[.int .i64 n] 2 (0, 0)) := by rw [hW1]; exact (Below.heap_alloc _ _ _ (by simp)).trans (heap_alloc_new w _)
 have g1 : W1.heap[w.heap.size + 1]? = some zT4 := by rw [hW1, <- e1]; exact heap_alloc_new _ _
 have s1 : W1.heap.size = w.heap.size + 2 := by rw [hW1]; simp
 have hc : PaysK W1 (fun _ => False) 149 #[.pointer (some ⟨w.heap.size, 0, none⟩)] (fun x => decide (n < x.n)) := fun r U hU => tkaft_fn r n w.heap.size U (by rw [cell_of_row _ _ _ _ _ _ (hU.heap (by simp) g0)]; rfl)
 have FI := iH (first_any (a.keep k1) (by have := ok.size; simp at this; omega) (fun x hx => ok.len x.pl (List.mem_map_of_mem hx)) _ _ _ (fun p => decide (n < p.n)) (fun x => rfl) (fun args w => by kernel_rfl) _ hc)
 have K1 := iH k1; have HW1 := iH hW1; have G1 := iH g1; have SW := iH s1
 have HS : RowKit.Hid ((xs.map Tk.pl).find? (fun p => decide (n < p.n)) = aftS (xs.map Tk.pl) n) := iH rfl
 rw [HS.out] at FI
 clear k1 g1 g0 hW1 e1 hc a ok s1
 go_enter Tryz.func93, Tryz.ntmps93
 go_wp2_with fail
 rw [<- HW1.out]
 refine FI.out.mono ?_
 rintro e w2 ⟨y, rfl, hpl, hry, hfy, k2⟩
 obtain ⟨y0, y1, y2, y3, y4, y5⟩ := y
 simp only [Tk.cs, Tk.op] at *
 have K2 := iH k2; have HP := iH hpl; have HRY := iH hry; have HFY := iH hfy
 have g2 := k2.heap (by simp) G1.out
 have G2 := iH g2
 obtain ⟨c0, c1, c2, c3⟩ := xqc g2
 obtain ⟨f0, f1, f2, f3⟩ := xqf g2
 clear g2 k2 hpl hry hfy
 generalize (aftS (xs.map Tk.pl) n) = o at *
 go_wp2
 refine bodyPost_ret (v := .tuple #[.agg #[.int .i64 y0, .int .i64 y1, .slice y2 y4.length y3, .int .i64 y5], .bool o.isSome]) (by simp [results, Tryz.results93, go_sem, *]) rfl ?_
 have f7 : Fo (fun k => k = w.heap.size + 1) w2 ((((w2.setCell ⟨w.heap.size + 1, 0, none⟩ (.int .i64 y0)).setCell ⟨w.heap.size + 1, 1, none⟩ (.int .i64 y1)).setCell ⟨w.heap.size + 1, 2, none⟩ (.slice y2 y4.length y3)).setCell ⟨w.heap.size + 1, 3, none⟩ (.int .i64 y5)) := Fo.four (O := fun k => k = w.heap.size + 1) (Fo.refl _ w2) (g := w.heap.size + 1) (.inl rfl) _ _ _ _
 have n7 : NoI w2 (fun k => k = w.heap.size + 1) := by
  rintro k rfl cs fz hg
  rw [G2.out] at hg
  simp only [zT4, Option.some.injEq, Obj.cells.injEq] at hg
  exact absurd hg.2.1 (by decide)
 exact ⟨⟨y0, y1, y2, y3, y4, y5⟩, rfl, HP.out, HRY.out.fo f7 n7, fun b hb => by have := HFY.out b hb; have := SW.out; omega, (K1.out.trans K2.out (by simp)).four (g := w.heap.size + 1) (.inr (by omega)) _ _ _ _⟩
end Go.Proofs.YticiofkiffgclaaGreat
