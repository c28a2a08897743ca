/-
  The document's ticks: Get, After, Same.
-/
import Derived.Test.YtodfjpjjcgdmeaaKk
namespace Go.Proofs.Ytodfjpjjcgdmeaa
set_option linter.unusedVariables false
open Go.RowKit

variable {w w' : World} {B h : Nat} {V : Value} {xs : List Tk}

abbrev rkT : TypeId := 29

/-- What the document's Get tells: the tick itself. -/
def RGetPost (w : World) (o : Option Pt) (e : Ending) (w' : World) : Prop :=
  ∃ (y : Tk), e = .returned (.tuple #[.agg y.cs, .bool o.isSome]) ∧ y.pl = o.getD ⟨0, 0, [], 0⟩ ∧ RdT w' y.op y.l ∧ Kept w w' []

theorem find_at {Q : Pt → Bool} {k : Nat} {x : Tk} (hx : xs[k]? = some x) (hq : Q x.pl = true) (hb : ∀ j s, j < k → xs[j]? = some s → Q s.pl = false) : (xs.map Tk.pl).find? Q = some x.pl := by
  rw [List.find?_map]
  have h1 : xs.findIdx? (Q ∘ Tk.pl) = some k := kidx_hit (P := Q ∘ Tk.pl) hx hq hb
  rw [find_idx.1 k h1, hx]
  rfl
theorem find_no {Q : Pt → Bool} (hb : ∀ j s, j < xs.length → xs[j]? = some s → Q s.pl = false) : (xs.map Tk.pl).find? Q = none := by
  rw [List.find?_map]
  have h1 : xs.findIdx? (Q ∘ Tk.pl) = none := kidx_miss (P := Q ∘ Tk.pl) hb
  rw [find_idx.2 h1]
  rfl

set_option maxHeartbeats 4000000 in
set_option maxRecDepth 100000 in
theorem rkget_any {u : Value} (a : Tc rkT [u] w B h V xs) (hl : xs.length ≤ 1000) (n : Int) :
    Calls Try.prog 22 #[.pointer (some ⟨h, 0, none⟩), .int .i64 n] w (RGetPost w (getS (xs.map Tk.pl) n)) := by
  obtain ⟨W1, hW1⟩ : ∃ W1, W1 = w.alloc zT4 := ⟨_, rfl⟩
  have k1 : Kept w W1 [] := by rw [hW1]; exact (Kept.refl w []).alloc _
  have g1 : W1.heap[w.heap.size]? = some zT4 := by rw [hW1]; exact heap_alloc_new _ _
  have a1 := a.keep k1
  obtain ⟨uu, cp, hV⟩ := a1.shape
  subst hV
  have cv := a1.cell.1
  obtain ⟨c0, c1, c2, c3⟩ := tk_cells g1
  obtain ⟨f0, f1, f2, f3⟩ := tk_frozen g1
  have K1 := Lib.hid k1; have HW1 := Lib.hid hW1; have G1 := Lib.hid g1; have A1 := Lib.hid a1
  clear k1 hW1 g1 a1 a
  go_enter Try.func22, Try.ntmps22
  go_upto_region 1 with fail
  rw [← HW1.out]
  go_wp2
  go_loop [6] (fun t => ∃ k : Nat, t = .int .i64 k ∧ k ≤ xs.length ∧ RowKit.Hid (∀ j s, j < k → xs[j]? = some s → (fun p : Pt => p.n == n) s.pl = false)) (fun t => xs.length - (intOf t).toNat)
  case atStart => exact ⟨0, rfl, Nat.zero_le _, fun j s hj => absurd hj (Nat.not_lt_zero _)⟩
  case round =>
    obtain ⟨k, rfl, hk, HX⟩ := hrel
    by_cases hlt : k < xs.length
    · obtain ⟨x, hx⟩ : ∃ r, xs[k]? = some r := ⟨_, List.getElem?_eq_getElem hlt⟩
      have o := A1.out.own
      obtain ⟨g, hg, hh⟩ := o.at k hlt
      clear hh
      subst hg
      obtain ⟨q0, q1, q2, q3⟩ := o.four hx
      have hxr := A1.out.rd x (List.mem_of_getElem? hx)
      have HXX := Lib.hid hx; have HXR := Lib.hid hxr
      have x1 : (k : Int) < (xs.length : Int) := by omega
      obtain ⟨b, hb⟩ : ∃ b, (fun p : Pt => p.n == n) x.pl = b := ⟨_, rfl⟩
      have HQ := Lib.hid hb
      clear hx o hxr hb
      cases b with
      | true =>
        have HR : RowKit.Hid (getS (xs.map Tk.pl) n = some x.pl) := Lib.hid (find_at HXX.out HQ.out HX.out)
        obtain ⟨b0, b1, b2, b3, b4, b5⟩ := x
        simp only [Tk.op] at *
        have x2 : (b0 == n) = true := HQ.out
        rw [HR.out]
        go_wp2
        refine bodyPost_ret (v := .tuple #[.agg #[.int .i64 b0, .int .i64 b1, .slice b2 b4.length b3, .int .i64 b5], .bool true]) (by simp [results, Try.results22, go_sem, *]) rfl ?_
        have f7 : Fo (fun k => k = w.heap.size) W1 ((((W1.setCell ⟨w.heap.size, 0, none⟩ (.int .i64 b0)).setCell ⟨w.heap.size, 1, none⟩ (.int .i64 b1)).setCell ⟨w.heap.size, 2, none⟩ (.slice b2 b4.length b3)).setCell ⟨w.heap.size, 3, none⟩ (.int .i64 b5)) := Fo.four (O := fun k => k = w.heap.size) (Fo.refl _ W1) (g := w.heap.size) (.inl rfl) _ _ _ _
        have n7 : NoI W1 (fun k => k = w.heap.size) := by
          rintro k rfl cs fz hg
          rw [G1.out] at hg
          simp only [zT4, Option.some.injEq, Obj.cells.injEq] at hg
          exact absurd hg.2.1 (by decide)
        exact ⟨⟨b0, b1, b2, b3, b4, b5⟩, rfl, rfl, HXR.out.fo f7 n7, K1.out.four (g := w.heap.size) (.inr (by omega)) _ _ _ _⟩
      | false =>
        obtain ⟨b0, b1, b2, b3, b4, b5⟩ := x
        simp only [Tk.op] at *
        have x2 : (b0 == n) = false := HQ.out
        go_wp2
        go_round
        case rel =>
          refine ⟨k + 1, by go_num, by omega, Lib.hid fun j s hj hs => ?_⟩
          by_cases e : j = k
          · subst e
            rw [HXX.out] at hs
            cases hs
            exact HQ.out
          · exact HX.out j s (by omega) hs
        case measure => simp [intOf]; omega
    · have HR : RowKit.Hid (getS (xs.map Tk.pl) n = none) := Lib.hid (find_no (fun j s hj => HX.out j s (by omega)))
      have x1 : ¬ (k : Int) < (xs.length : Int) := by omega
      rw [HR.out]
      go_wp2
      refine bodyPost_ret (v := .tuple #[.agg #[.int .i64 0, .int .i64 0, .slice none 0 0, .int .i64 0], .bool false]) (by simp [results, Try.results22, go_sem, *]) rfl ?_
      exact ⟨Tk.zero, by first | rfl | (rw [HR.out]; rfl), by first | rfl | (rw [HR.out]; rfl), RdT.nil _, K1.out.four (g := w.heap.size) (.inr (by omega)) _ _ _ _⟩

set_option maxHeartbeats 4000000 in
set_option maxRecDepth 100000 in
theorem rkaft_any {u : Value} (a : Tc rkT [u] w B h V xs) (hl : xs.length ≤ 1000) (n : Int) :
    Calls Try.prog 24 #[.pointer (some ⟨h, 0, none⟩), .int .i64 n] w (RGetPost w (aftS (xs.map Tk.pl) n)) := by
  obtain ⟨W1, hW1⟩ : ∃ W1, W1 = w.alloc zT4 := ⟨_, rfl⟩
  have k1 : Kept w W1 [] := by rw [hW1]; exact (Kept.refl w []).alloc _
  have g1 : W1.heap[w.heap.size]? = some zT4 := by rw [hW1]; exact heap_alloc_new _ _
  have a1 := a.keep k1
  obtain ⟨uu, cp, hV⟩ := a1.shape
  subst hV
  have cv := a1.cell.1
  obtain ⟨c0, c1, c2, c3⟩ := tk_cells g1
  obtain ⟨f0, f1, f2, f3⟩ := tk_frozen g1
  have K1 := Lib.hid k1; have HW1 := Lib.hid hW1; have G1 := Lib.hid g1; have A1 := Lib.hid a1
  clear k1 hW1 g1 a1 a
  go_enter Try.func24, Try.ntmps24
  go_upto_region 1 with fail
  rw [← HW1.out]
  go_wp2
  go_loop [6] (fun t => ∃ k : Nat, t = .int .i64 k ∧ k ≤ xs.length ∧ RowKit.Hid (∀ j s, j < k → xs[j]? = some s → (fun p : Pt => decide (n < p.n)) s.pl = false)) (fun t => xs.length - (intOf t).toNat)
  case atStart => exact ⟨0, rfl, Nat.zero_le _, fun j s hj => absurd hj (Nat.not_lt_zero _)⟩
  case round =>
    obtain ⟨k, rfl, hk, HX⟩ := hrel
    by_cases hlt : k < xs.length
    · obtain ⟨x, hx⟩ : ∃ r, xs[k]? = some r := ⟨_, List.getElem?_eq_getElem hlt⟩
      have o := A1.out.own
      obtain ⟨g, hg, hh⟩ := o.at k hlt
      clear hh
      subst hg
      obtain ⟨q0, q1, q2, q3⟩ := o.four hx
      have hxr := A1.out.rd x (List.mem_of_getElem? hx)
      have HXX := Lib.hid hx; have HXR := Lib.hid hxr
      have x1 : (k : Int) < (xs.length : Int) := by omega
      obtain ⟨b, hb⟩ : ∃ b, (fun p : Pt => decide (n < p.n)) x.pl = b := ⟨_, rfl⟩
      have HQ := Lib.hid hb
      clear hx o hxr hb
      cases b with
      | true =>
        have HR : RowKit.Hid (aftS (xs.map Tk.pl) n = some x.pl) := Lib.hid (find_at HXX.out HQ.out HX.out)
        obtain ⟨b0, b1, b2, b3, b4, b5⟩ := x
        simp only [Tk.op] at *
        have x2 : n < b0 := of_decide_eq_true HQ.out
        rw [HR.out]
        go_wp2
        refine bodyPost_ret (v := .tuple #[.agg #[.int .i64 b0, .int .i64 b1, .slice b2 b4.length b3, .int .i64 b5], .bool true]) (by simp [results, Try.results24, go_sem, *]) rfl ?_
        have f7 : Fo (fun k => k = w.heap.size) W1 ((((W1.setCell ⟨w.heap.size, 0, none⟩ (.int .i64 b0)).setCell ⟨w.heap.size, 1, none⟩ (.int .i64 b1)).setCell ⟨w.heap.size, 2, none⟩ (.slice b2 b4.length b3)).setCell ⟨w.heap.size, 3, none⟩ (.int .i64 b5)) := Fo.four (O := fun k => k = w.heap.size) (Fo.refl _ W1) (g := w.heap.size) (.inl rfl) _ _ _ _
        have n7 : NoI W1 (fun k => k = w.heap.size) := by
          rintro k rfl cs fz hg
          rw [G1.out] at hg
          simp only [zT4, Option.some.injEq, Obj.cells.injEq] at hg
          exact absurd hg.2.1 (by decide)
        exact ⟨⟨b0, b1, b2, b3, b4, b5⟩, rfl, rfl, HXR.out.fo f7 n7, K1.out.four (g := w.heap.size) (.inr (by omega)) _ _ _ _⟩
      | false =>
        obtain ⟨b0, b1, b2, b3, b4, b5⟩ := x
        simp only [Tk.op] at *
        have x2 : ¬ n < b0 := of_decide_eq_false HQ.out
        go_wp2
        go_round
        case rel =>
          refine ⟨k + 1, by go_num, by omega, Lib.hid fun j s hj hs => ?_⟩
          by_cases e : j = k
          · subst e
            rw [HXX.out] at hs
            cases hs
            exact HQ.out
          · exact HX.out j s (by omega) hs
        case measure => simp [intOf]; omega
    · have HR : RowKit.Hid (aftS (xs.map Tk.pl) n = none) := Lib.hid (find_no (fun j s hj => HX.out j s (by omega)))
      have x1 : ¬ (k : Int) < (xs.length : Int) := by omega
      rw [HR.out]
      go_wp2
      refine bodyPost_ret (v := .tuple #[.agg #[.int .i64 0, .int .i64 0, .slice none 0 0, .int .i64 0], .bool false]) (by simp [results, Try.results24, go_sem, *]) rfl ?_
      exact ⟨Tk.zero, by first | rfl | (rw [HR.out]; rfl), by first | rfl | (rw [HR.out]; rfl), RdT.nil _, K1.out.four (g := w.heap.size) (.inr (by omega)) _ _ _ _⟩

set_option maxHeartbeats 2000000 in
set_option maxRecDepth 100000 in
theorem rsame_any (x y : Tk) (w : World) (hp : x.pl = y.pl) (rx : RdI w x.op x.l) (ry : RdI w y.op y.l) :
    Calls Try.prog 15 #[.agg x.cs, .agg y.cs] w fun e w' => e = .returned (.bool true) ∧ Kept w w' [] := by
  obtain ⟨x0, x1, xa, xc, x4, x5⟩ := x
  obtain ⟨y0, y1, ya, yc, y4, y5⟩ := y
  simp only [Tk.pl, Pt.mk.injEq] at hp
  obtain ⟨p0, p1, p2, p3⟩ := hp
  subst y0 y1 y4 y5
  simp only [Tk.op, Tk.cs] at *
  obtain ⟨W1, hW1⟩ : ∃ W1, W1 = (w.alloc (.cells #[.int .i64 x0, .int .i64 x1, .slice xa x4.length xc, .int .i64 x5] 38)).alloc (.cells #[.int .i64 x0, .int .i64 x1, .slice ya x4.length yc, .int .i64 x5] 38) := ⟨_, rfl⟩
  have k1 : Kept w W1 [] := by rw [hW1]; exact ((Kept.refl w []).alloc _).alloc _
  have IN := Lib.hid (ints_any _ _ x4 x4 W1 (rx.keep k1) (ry.keep k1))
  have e1 : (w.alloc (.cells #[.int .i64 x0, .int .i64 x1, .slice xa x4.length xc, .int .i64 x5] 38)).heap.size = w.heap.size + 1 := by simp
  have g0 : W1.heap[w.heap.size]? = some (.cells #[.int .i64 x0, .int .i64 x1, .slice xa x4.length xc, .int .i64 x5] 38 (0, 0)) := by rw [hW1]; exact (Below.heap_alloc _ _ _ (by simp)).trans (heap_alloc_new w _)
  have g1 : W1.heap[w.heap.size + 1]? = some (.cells #[.int .i64 x0, .int .i64 x1, .slice ya x4.length yc, .int .i64 x5] 38 (0, 0)) := by rw [hW1, ← e1]; exact heap_alloc_new _ _
  obtain ⟨c0, c1, c2, c3⟩ := tk_cells g0
  obtain ⟨d0, d1, d2, d3⟩ := tk_cells g1
  have K1 := Lib.hid k1; have HW1 := Lib.hid hW1
  rw [show (x4 == x4) = true by simp] at IN
  clear rx ry k1 hW1 e1 g0 g1
  go_enter Try.func15, Try.ntmps15
  go_upto_region 1 with fail
  rw [← HW1.out]
  go_wp2_with fail
  refine IN.out.mono ?_
  rintro e w2 ⟨rfl, k2⟩
  have K2 := Lib.hid k2
  clear k2 c0 c1 c2 c3 d0 d1 d2 d3
  go_wp2
  go_ret
  exact ⟨rfl, K1.out.trans K2.out (by simp)⟩

end Go.Proofs.Ytodfjpjjcgdmeaa
