/-
  Kg, SoiB in one text.
-/
import Derived.Test.YticiofkiffgclaaGreatNr37
import Derived.Test.YticiofkiffgclaaGreatNr29
import Derived.Test.YticiofkiffgclaaGreatNr23
import Derived.Test.YticiofkiffgclaaGreatShelfS
import Derived.Test.YticiofkiffgclaaGreatNr17
namespace Go.Proofs.YticiofkiffgclaaGreat
set_option linter.unusedVariables false
open Go.RowKit

variable {w w' : World} {base : Nat} {l : List Tk}

variable {B h : Nat} {V : Value} {xs : List Tk}

set_option maxHeartbeats 4000000 in
set_option maxRecDepth 100000 in
theorem first_any (a : Tc tkT [] w B h V xs) (hl : xs.length ≤ 1000) (hll : ∀ x ∈ xs, x.l.length ≤ 1000) (c : Nat) (lb : Array Value) (P : Tk → Bool) (Q : Pt → Bool) (hPQ : ∀ x : Tk, P x = Q x.pl) (ec : ∀ args w, (callFunc c args).run Tryz.prog w = .ok (.enter c args) w) (O : Nat → Prop) (hc : PaysK w O c lb P) :
    Calls Tryz.prog 104 #[.pointer (some ⟨h, 0, none⟩), .func (.func c) #[] lb] w (FirstPost w ((xs.map Tk.pl).find? Q)) := by
  have hfind : (xs.map Tk.pl).find? Q = (xs.find? P).map Tk.pl := by
    rw [List.find?_map]
    have : Q ∘ Tk.pl = P := by funext x; exact (hPQ x).symm
    rw [this]
  rw [hfind]
  obtain ⟨W1, hW1⟩ : ∃ W1, W1 = w.alloc zT4 := ⟨_, rfl⟩
  have k1 : Kept w W1 [] := by rw [hW1]; exact (Kept.refl w []).alloc _
  have g1 : W1.heap[w.heap.size]? = some zT4 := by rw [hW1]; exact heap_alloc_new _ _
  have a1 := a.keep k1
  obtain ⟨u, cp, hV⟩ := a1.shape
  have ci := kindexFunc_any V a1.own (by omega) c lb P ec O (hc.after k1)
  have cv := a1.cell.1
  rw [hV] at cv ci
  have HI := Lib.hid ci
  have K1 := Lib.hid k1; have HW1 := Lib.hid hW1; have G1 := Lib.hid g1; have A1 := Lib.hid a1
  have HLL := Lib.hid hll
  have NF : RowKit.Hid (¬ tfoot h V w.heap.size) := Lib.hid (fun hk => by have := (a.lt _ hk).2; omega)
  clear ci hc k1 hW1 g1 a a1 hPQ hfind hll
  cases hi : xs.findIdx? P with
  | none =>
    have e1 : kidx P xs = -1 := by rw [kidx, hi]
    have e2 := find_idx.2 hi
    rw [e1] at HI
    rw [e2]
    clear hi e1 e2
    go_enter Tryz.func104, Tryz.ntmps104
    go_upto_region 1 with fail
    rw [← HW1.out]
    go_wp2_with fail
    refine HI.out.mono ?_
    rintro e w2 ⟨rfl, k2⟩
    have K2 := Lib.hid k2
    have g2 := k2.heap (by simp) G1.out
    obtain ⟨c0, c1, c2, c3⟩ := tk_cells g2
    obtain ⟨f0, f1, f2, f3⟩ := tk_frozen g2
    clear g2 k2
    go_wp2
    refine bodyPost_ret (v := .tuple #[.agg #[.int .i64 0, .int .i64 0, .slice none 0 0, .int .i64 0], .bool false]) (by simp [results, Tryz.results104, go_sem, *]) rfl ?_
    exact ⟨Tk.zero, rfl, rfl, RdT.nil _, by intro b hb; simp [Tk.zero, Tk.op, Value.ownBlock] at hb, (K1.out.trans K2.out (by simp)).four (g := w.heap.size) (.inr (by omega)) _ _ _ _⟩
  | some k =>
    have e1 : kidx P xs = k := by rw [kidx, hi]
    have e2 := find_idx.1 k hi
    have hlt := kfind_lt hi
    obtain ⟨x, hx⟩ : ∃ r, xs[k]? = some r := ⟨_, List.getElem?_eq_getElem hlt⟩
    rw [hx] at e2
    rw [e1] at HI
    rw [e2]
    have hmem : x ∈ xs := List.mem_of_getElem? hx
    have hxl := HLL.out x hmem
    have hxr := A1.out.rd x hmem
    have o := A1.out.own
    rw [hV] at o
    obtain ⟨g, hg, _⟩ := o.at k hlt
    subst hg
    have CX := Lib.hid (fun U (hU : Kept W1 U []) => (o.kept hU (by simp)).four hx)
    obtain ⟨n', M', a', c', l', t'⟩ := x
    simp only [Tk.op] at *
    have HXR := Lib.hid hxr
    have CV := Lib.hid cv
    have OW := Lib.hid (fun U (hU : Kept W1 U []) => own_any ⟨n', M', a', c', l', t'⟩ U (hxr.keep hU).1 (by show l'.length ≤ 10000000; omega))
    simp only [Tk.cs] at OW
    have x1 : (k : Int) < (xs.length : Int) := by omega
    clear hi e1 e2 o hx hmem hxl hxr hV
    go_enter Tryz.func104, Tryz.ntmps104
    go_upto_region 1 with fail
    rw [← HW1.out]
    go_wp2_with fail
    refine HI.out.mono ?_
    rintro e w2 ⟨rfl, k2⟩
    have K2 := Lib.hid k2
    obtain ⟨c0, c1, c2, c3⟩ := CX.out _ k2
    have cv2 := k2.cell (p := ⟨h, 0, none⟩) (by simp) CV.out
    clear cv k2
    go_wp2_with fail
    refine (OW.out _ K2.out).mono ?_
    rintro e w3 ⟨y, rfl, hpl, hry, hfy, k3⟩
    obtain ⟨y0, y1, y2, y3, y4, y5⟩ := y
    simp only [Tk.pl, Pt.mk.injEq] at hpl
    obtain ⟨e0, e1, e2, e3⟩ := hpl
    subst y0 y1 y4 y5
    simp only [Tk.op] at *
    have K3 := Lib.hid (K2.out.trans k3 (by simp))
    have HRY := Lib.hid hry; have HFY := Lib.hid hfy
    have g3 := K3.out.heap (by simp) G1.out
    have G3 := Lib.hid g3
    clear c0 c1 c2 c3 cv2 k3 hry hfy
    obtain ⟨c0, c1, c2, c3⟩ := tk_cells g3
    obtain ⟨f0, f1, f2, f3⟩ := tk_frozen g3
    clear g3
    go_wp2
    refine bodyPost_ret (v := .tuple #[.agg #[.int .i64 n', .int .i64 M', .slice y2 l'.length y3, .int .i64 t'], .bool true]) (by simp [results, Tryz.results104, go_sem, *]) rfl ?_
    have f7 : Fo (fun k => k = w.heap.size) w3 ((((w3.setCell ⟨w.heap.size, 0, none⟩ (.int .i64 n')).setCell ⟨w.heap.size, 1, none⟩ (.int .i64 M')).setCell ⟨w.heap.size, 2, none⟩ (.slice y2 l'.length y3)).setCell ⟨w.heap.size, 3, none⟩ (.int .i64 t')) := Fo.four (O := fun k => k = w.heap.size) (Fo.refl _ w3) (g := w.heap.size) (.inl rfl) _ _ _ _
    have n7 : NoI w3 (fun k => k = w.heap.size) := by
      rintro k rfl cs fz hg
      rw [G3.out] at hg
      simp only [zT4, Option.some.injEq, Obj.cells.injEq] at hg
      exact absurd hg.2.1 (by decide)
    exact ⟨⟨n', M', y2, y3, l', t'⟩, rfl, rfl, HRY.out.fo f7 n7, fun b hb => by have := HFY.out b hb; have := (K1.out.trans K2.out (by simp)).size; omega, (K1.out.trans K3.out (by simp)).four (g := w.heap.size) (.inr (by omega)) _ _ _ _⟩

set_option maxHeartbeats 1000000 in
theorem tkget_fn (e : Tk) (n : Int) (xb : Nat) (W : World) (hx : W.cell? ⟨xb, 0, none⟩ = some (.int .i64 n)) :
    Calls Tryz.prog 105 #[.agg e.cs, .pointer (some ⟨xb, 0, none⟩)] W fun r w' => r = .returned (.bool (e.n == n)) ∧ Kept W w' [] := by
  have hy : (W.alloc (.cells e.cs 38)).cell? ⟨xb, 0, none⟩ = some (.int .i64 n) := ((Kept.refl W []).alloc _).cell (by simp) hx
  obtain ⟨b0, b1, b2, b3, b4, b5⟩ := e
  simp only [Tk.cs] at *
  go_enter Tryz.func105, Tryz.ntmps105
  go_wp2
  go_ret
  exact ⟨rfl, (Kept.refl W []).alloc _⟩

set_option maxHeartbeats 1000000 in
theorem tkget_nil (n : Int) (w : World) : Calls Tryz.prog 40 #[.pointer none, .int .i64 n] w fun e w' => e = .returned (.tuple #[.agg #[.int .i64 0, .int .i64 0, .slice none 0 0, .int .i64 0], .bool false]) ∧ Kept w w' [] := by
  obtain ⟨W1, hW1⟩ : ∃ W1, W1 = (w.alloc (.cells #[.int .i64 n] 2)).alloc zT4 := ⟨_, rfl⟩
  have k1 : Kept w W1 [] := by rw [hW1]; exact ((Kept.refl w []).alloc _).alloc _
  have e1 : (w.alloc (.cells #[.int .i64 n] 2)).heap.size = w.heap.size + 1 := by simp
  have g1 : W1.heap[w.heap.size + 1]? = some zT4 := by rw [hW1, ← e1]; exact heap_alloc_new _ _
  have K1 := Lib.hid k1; have HW1 := Lib.hid hW1; have G1 := Lib.hid g1
  clear k1 g1 hW1 e1
  go_enter Tryz.func40, Tryz.ntmps40
  go_wp2_with fail
  rw [← HW1.out]
  refine (first_nil _ _).mono ?_
  rintro e w2 ⟨rfl, k2⟩
  have K2 := Lib.hid k2
  have g2 := k2.heap (by simp) G1.out
  obtain ⟨c0, c1, c2, c3⟩ := tk_cells g2
  obtain ⟨f0, f1, f2, f3⟩ := tk_frozen g2
  clear g2 k2
  go_wp2
  refine bodyPost_ret (v := .tuple #[.agg #[.int .i64 0, .int .i64 0, .slice none 0 0, .int .i64 0], .bool false]) (by simp [results, Tryz.results40, go_sem, *]) rfl ?_
  exact ⟨rfl, (K1.out.trans K2.out (by simp)).four (g := w.heap.size + 1) (.inr (by omega)) _ _ _ _⟩

set_option maxHeartbeats 4000000 in
set_option maxRecDepth 100000 in
theorem tkget_any (a : Tc tkT [] w B h V xs) (ok : Okp (xs.map Tk.pl)) (n : Int) :
    Calls Tryz.prog 40 #[.pointer (some ⟨h, 0, none⟩), .int .i64 n] w (FirstPost w (getS (xs.map Tk.pl) n)) := by
  obtain ⟨W1, hW1⟩ : ∃ W1, W1 = (w.alloc (.cells #[.int .i64 n] 2)).alloc zT4 := ⟨_, rfl⟩
  have k1 : Kept w W1 [] := by rw [hW1]; exact ((Kept.refl w []).alloc _).alloc _
  have e1 : (w.alloc (.cells #[.int .i64 n] 2)).heap.size = w.heap.size + 1 := by simp
  have g0 : W1.heap[w.heap.size]? = some (.cells #[.int .i64 n] 2 (0, 0)) := by rw [hW1]; exact (Below.heap_alloc _ _ _ (by simp)).trans (heap_alloc_new w _)
  have g1 : W1.heap[w.heap.size + 1]? = some zT4 := by rw [hW1, ← e1]; exact heap_alloc_new _ _
  have s1 : W1.heap.size = w.heap.size + 2 := by rw [hW1]; simp
  have hc : PaysK W1 (fun _ => False) 105 #[.pointer (some ⟨w.heap.size, 0, none⟩)] (fun x => x.n == n) := fun r U hU => tkget_fn r n w.heap.size U (by rw [cell_of_row _ _ _ _ _ _ (hU.heap (by simp) g0)]; rfl)
  have FI := Lib.hid (first_any (a.keep k1) (by have := ok.size; simp at this; omega) (fun x hx => ok.len x.pl (List.mem_map_of_mem hx)) _ _ _ (fun p => p.n == n) (fun x => rfl) (fun args w => by kernel_rfl) _ hc)
  have K1 := Lib.hid k1; have HW1 := Lib.hid hW1; have G1 := Lib.hid g1; have SW := Lib.hid s1
  have HS : RowKit.Hid ((xs.map Tk.pl).find? (fun p => p.n == n) = getS (xs.map Tk.pl) n) := Lib.hid rfl
  rw [HS.out] at FI
  clear k1 g1 g0 hW1 e1 hc a ok s1
  go_enter Tryz.func40, Tryz.ntmps40
  go_wp2_with fail
  rw [← HW1.out]
  refine FI.out.mono ?_
  rintro e w2 ⟨y, rfl, hpl, hry, hfy, k2⟩
  obtain ⟨y0, y1, y2, y3, y4, y5⟩ := y
  simp only [Tk.cs, Tk.op] at *
  have K2 := Lib.hid k2; have HP := Lib.hid hpl; have HRY := Lib.hid hry; have HFY := Lib.hid hfy
  have g2 := k2.heap (by simp) G1.out
  have G2 := Lib.hid g2
  obtain ⟨c0, c1, c2, c3⟩ := tk_cells g2
  obtain ⟨f0, f1, f2, f3⟩ := tk_frozen g2
  clear g2 k2 hpl hry hfy
  generalize (getS (xs.map Tk.pl) n) = o at *
  go_wp2
  refine bodyPost_ret (v := .tuple #[.agg #[.int .i64 y0, .int .i64 y1, .slice y2 y4.length y3, .int .i64 y5], .bool o.isSome]) (by simp [results, Tryz.results40, go_sem, *]) rfl ?_
  have f7 : Fo (fun k => k = w.heap.size + 1) w2 ((((w2.setCell ⟨w.heap.size + 1, 0, none⟩ (.int .i64 y0)).setCell ⟨w.heap.size + 1, 1, none⟩ (.int .i64 y1)).setCell ⟨w.heap.size + 1, 2, none⟩ (.slice y2 y4.length y3)).setCell ⟨w.heap.size + 1, 3, none⟩ (.int .i64 y5)) := Fo.four (O := fun k => k = w.heap.size + 1) (Fo.refl _ w2) (g := w.heap.size + 1) (.inl rfl) _ _ _ _
  have n7 : NoI w2 (fun k => k = w.heap.size + 1) := by
    rintro k rfl cs fz hg
    rw [G2.out] at hg
    simp only [zT4, Option.some.injEq, Obj.cells.injEq] at hg
    exact absurd hg.2.1 (by decide)
  exact ⟨⟨y0, y1, y2, y3, y4, y5⟩, rfl, HP.out, HRY.out.fo f7 n7, fun b hb => by have := HFY.out b hb; have := SW.out; omega, (K1.out.trans K2.out (by simp)).four (g := w.heap.size + 1) (.inr (by omega)) _ _ _ _⟩

set_option maxHeartbeats 1000000 in
theorem tkaft_fn (e : Tk) (n : Int) (xb : Nat) (W : World) (hx : W.cell? ⟨xb, 0, none⟩ = some (.int .i64 n)) :
    Calls Tryz.prog 149 #[.agg e.cs, .pointer (some ⟨xb, 0, none⟩)] W fun r w' => r = .returned (.bool (decide (n < e.n))) ∧ Kept W w' [] := by
  have hy : (W.alloc (.cells e.cs 38)).cell? ⟨xb, 0, none⟩ = some (.int .i64 n) := ((Kept.refl W []).alloc _).cell (by simp) hx
  obtain ⟨b0, b1, b2, b3, b4, b5⟩ := e
  simp only [Tk.cs] at *
  go_enter Tryz.func149, Tryz.ntmps149
  go_wp2
  go_ret
  exact ⟨rfl, (Kept.refl W []).alloc _⟩

set_option maxHeartbeats 4000000 in
set_option maxRecDepth 100000 in
theorem tkaft_any (a : Tc tkT [] w B h V xs) (ok : Okp (xs.map Tk.pl)) (n : Int) :
    Calls Tryz.prog 93 #[.pointer (some ⟨h, 0, none⟩), .int .i64 n] w (FirstPost w (aftS (xs.map Tk.pl) n)) := by
  obtain ⟨W1, hW1⟩ : ∃ W1, W1 = (w.alloc (.cells #[.int .i64 n] 2)).alloc zT4 := ⟨_, rfl⟩
  have k1 : Kept w W1 [] := by rw [hW1]; exact ((Kept.refl w []).alloc _).alloc _
  have e1 : (w.alloc (.cells #[.int .i64 n] 2)).heap.size = w.heap.size + 1 := by simp
  have g0 : W1.heap[w.heap.size]? = some (.cells #[.int .i64 n] 2 (0, 0)) := by rw [hW1]; exact (Below.heap_alloc _ _ _ (by simp)).trans (heap_alloc_new w _)
  have g1 : W1.heap[w.heap.size + 1]? = some zT4 := by rw [hW1, ← e1]; exact heap_alloc_new _ _
  have s1 : W1.heap.size = w.heap.size + 2 := by rw [hW1]; simp
  have hc : PaysK W1 (fun _ => False) 149 #[.pointer (some ⟨w.heap.size, 0, none⟩)] (fun x => decide (n < x.n)) := fun r U hU => tkaft_fn r n w.heap.size U (by rw [cell_of_row _ _ _ _ _ _ (hU.heap (by simp) g0)]; rfl)
  have FI := Lib.hid (first_any (a.keep k1) (by have := ok.size; simp at this; omega) (fun x hx => ok.len x.pl (List.mem_map_of_mem hx)) _ _ _ (fun p => decide (n < p.n)) (fun x => rfl) (fun args w => by kernel_rfl) _ hc)
  have K1 := Lib.hid k1; have HW1 := Lib.hid hW1; have G1 := Lib.hid g1; have SW := Lib.hid s1
  have HS : RowKit.Hid ((xs.map Tk.pl).find? (fun p => decide (n < p.n)) = aftS (xs.map Tk.pl) n) := Lib.hid rfl
  rw [HS.out] at FI
  clear k1 g1 g0 hW1 e1 hc a ok s1
  go_enter Tryz.func93, Tryz.ntmps93
  go_wp2_with fail
  rw [← HW1.out]
  refine FI.out.mono ?_
  rintro e w2 ⟨y, rfl, hpl, hry, hfy, k2⟩
  obtain ⟨y0, y1, y2, y3, y4, y5⟩ := y
  simp only [Tk.cs, Tk.op] at *
  have K2 := Lib.hid k2; have HP := Lib.hid hpl; have HRY := Lib.hid hry; have HFY := Lib.hid hfy
  have g2 := k2.heap (by simp) G1.out
  have G2 := Lib.hid g2
  obtain ⟨c0, c1, c2, c3⟩ := tk_cells g2
  obtain ⟨f0, f1, f2, f3⟩ := tk_frozen g2
  clear g2 k2 hpl hry hfy
  generalize (aftS (xs.map Tk.pl) n) = o at *
  go_wp2
  refine bodyPost_ret (v := .tuple #[.agg #[.int .i64 y0, .int .i64 y1, .slice y2 y4.length y3, .int .i64 y5], .bool o.isSome]) (by simp [results, Tryz.results93, go_sem, *]) rfl ?_
  have f7 : Fo (fun k => k = w.heap.size + 1) w2 ((((w2.setCell ⟨w.heap.size + 1, 0, none⟩ (.int .i64 y0)).setCell ⟨w.heap.size + 1, 1, none⟩ (.int .i64 y1)).setCell ⟨w.heap.size + 1, 2, none⟩ (.slice y2 y4.length y3)).setCell ⟨w.heap.size + 1, 3, none⟩ (.int .i64 y5)) := Fo.four (O := fun k => k = w.heap.size + 1) (Fo.refl _ w2) (g := w.heap.size + 1) (.inl rfl) _ _ _ _
  have n7 : NoI w2 (fun k => k = w.heap.size + 1) := by
    rintro k rfl cs fz hg
    rw [G2.out] at hg
    simp only [zT4, Option.some.injEq, Obj.cells.injEq] at hg
    exact absurd hg.2.1 (by decide)
  exact ⟨⟨y0, y1, y2, y3, y4, y5⟩, rfl, HP.out, HRY.out.fo f7 n7, fun b hb => by have := HFY.out b hb; have := SW.out; omega, (K1.out.trans K2.out (by simp)).four (g := w.heap.size + 1) (.inr (by omega)) _ _ _ _⟩

end Go.Proofs.YticiofkiffgclaaGreat

namespace Go.Proofs.YticiofkiffgclaaGreat
open Go.Shelf Go.RowKit Go.Lib Go.Sort

instance : Inhabited Ev := ⟨Ev.zero⟩

set_option maxHeartbeats 1000000 in
theorem compare_any_g8 (x y : Int) (W : World) : Calls Tryz.prog 89 #[.int .i64 x, .int .i64 y] W fun e w' => e = .returned (.int .i64 (if x < y then -1 else if y < x then 1 else 0)) ∧ w' = W := by
  by_cases h1 : x < y
  · rw [if_pos h1]
    go_enter Tryz.func89, Tryz.ntmps89
    go_wp2_with (go_at_call 146; refine (isNaN_any _ _).mono ?_; rintro e w' ⟨rfl, rfl⟩)
    go_ret
    exact ⟨rfl, rfl⟩
  · by_cases h2 : y < x
    · rw [if_neg h1, if_pos h2]
      go_enter Tryz.func89, Tryz.ntmps89
      go_wp2_with (go_at_call 146; refine (isNaN_any _ _).mono ?_; rintro e w' ⟨rfl, rfl⟩)
      go_ret
      exact ⟨rfl, rfl⟩
    · rw [if_neg h1, if_neg h2]
      go_enter Tryz.func89, Tryz.ntmps89
      go_wp2_with (go_at_call 146; refine (isNaN_any _ _).mono ?_; rintro e w' ⟨rfl, rfl⟩)
      go_ret
      exact ⟨rfl, rfl⟩

set_option maxHeartbeats 1000000 in
theorem closure_any_g8 (x y : Ev) (W : World) : Calls Tryz.prog 152 #[.agg x.cs, .agg y.cs] W fun e w' => e = .returned (.int .i64 (cmpE x y)) ∧ ∃ q os', w' = grow (W.drewN q) os' := by
  have hcon := fun W' => compare_any_g8 x.id y.id W'
  change ∀ W', Calls _ _ _ _ fun e w' => e = .returned (.int .i64 (cmpE x y)) ∧ w' = W' at hcon
  generalize cmpE x y = r at hcon ⊢
  unfold Ev.cs
  go_enter Tryz.func152, Tryz.ntmps152
  go_wp2_with (go_at_call 89; refine (hcon _).mono ?_; rintro e w' ⟨rfl, rfl⟩)
  go_ret
  exact ⟨rfl, 0, _, by rw [alloc_eq_grow, alloc_eq_grow, grow_grow]; rfl⟩

theorem cmpLays_g8 (g off size : Nat) (w : World) : CmpLays Tryz.prog 152 #[] encE 8 cmpE g off size w :=
  fun _ _ _ _ x y => closure_any_g8 x y _

theorem insE_g8 {w0 : World} {blk off : Nat} {d0 : Array Ev} (R : RowK encE 8 w0 blk off d0) (cap : Nat) : InsAt Tryz.prog encE 8 w0 blk off d0 byId 152 #[] cap := by
  intro A M B d w hd hs S hsz sz a b hz ha hb
  have hab : A.length + M.length ≤ d.size := by rw [← Array.length_toList, hd]; simp
  have h := AnyQ.insertionSortCmpFunc Tryz.insE 8 Tryz.isAgg50 Tryz.sizeOf50 encE encE_length encE_one cmpE 152 #[] blk off cap a b d w (enters_of Tryz.func152 (by kernel_rfl) rfl) (cmpLays_g8 _ _ _ _) (S.holds R.hblk R.hH hs) (S.lt R.hblk) (by omega) (by omega) hsz
  rw [hz]
  refine Calls.mono h ?_
  rintro e w' ⟨rfl, n, os, rfl⟩
  have e1 : ltOf cmpE = ltB byId := by
    funext x y
    have := cmpE_lt x y
    unfold ltOf ltB
    cases h : byId y x with
    | false => simp [this, h]
    | true => simp [this, h]
  rw [e1, ha, hb, ha]
  exact ⟨rfl, _, insertion_list tot_byId hd, S.on R.hblk n _ os (size_of_list (by rw [insertion_list tot_byId hd, hd]; simp [srt_length]))⟩

end Go.Proofs.YticiofkiffgclaaGreat
