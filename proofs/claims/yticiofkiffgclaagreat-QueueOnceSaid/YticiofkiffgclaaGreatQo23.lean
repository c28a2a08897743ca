/-
  Kc in one text.
-/
import Derived.Test.YticiofkiffgclaaGreatQo14
import Derived.Test.YticiofkiffgclaaGreatQo22
import Derived.Deep.QuietTactic
import Derived.BigQuiet
import Derived.RegionTactic
namespace Go.Proofs.YticiofkiffgclaaGreat
set_option linter.unusedVariables false
open Go.RowKit

theorem Tryz.infoTk : (Tryz.prog.info? 38).map (fun i => (i.zero, i.size, i.bytes)) = some (some (.agg #[.int .i64 0, .int .i64 0, .slice none 0 0, .int .i64 0]), 4, 48) := by kernel_rfl

abbrev tkT : TypeId := 154

theorem tk_cells {w : World} {z : Nat} {b0 b1 b3 : Int} {b2 : Value} {T : TypeId} (hz : w.heap[z]? = some (.cells #[.int .i64 b0, .int .i64 b1, b2, .int .i64 b3] T (0, 0))) :
    w.cell? ⟨z, 0, none⟩ = some (.int .i64 b0) ∧ w.cell? ⟨z, 1, none⟩ = some (.int .i64 b1) ∧ w.cell? ⟨z, 2, none⟩ = some b2 ∧ w.cell? ⟨z, 3, none⟩ = some (.int .i64 b3) :=
  ⟨by rw [cell_of_row _ _ _ _ _ _ hz]; rfl, by rw [cell_of_row _ _ _ _ _ _ hz]; rfl, by rw [cell_of_row _ _ _ _ _ _ hz]; rfl, by rw [cell_of_row _ _ _ _ _ _ hz]; rfl⟩

theorem tk_frozen {w : World} {z : Nat} {cs : Array Value} {T : TypeId} (hz : w.heap[z]? = some (.cells cs T (0, 0))) :
    w.frozen? ⟨z, 0, none⟩ = false ∧ w.frozen? ⟨z, 1, none⟩ = false ∧ w.frozen? ⟨z, 2, none⟩ = false ∧ w.frozen? ⟨z, 3, none⟩ = false :=
  ⟨frozen_of_row _ _ _ _ _ hz, frozen_of_row _ _ _ _ _ hz, frozen_of_row _ _ _ _ _ hz, frozen_of_row _ _ _ _ _ hz⟩

variable {w w' : World} {B h : Nat} {V : Value} {xs : List Tk}

set_option maxHeartbeats 1000000 in
set_option maxRecDepth 100000 in
theorem iclone_any (v : Value) (l : List Int) (w : World) (h : RdI w v l) (hl : l.length ≤ 10000000) :
    Calls Tryz.prog 175 #[v] w fun e w' => ∃ v', e = .returned v' ∧ (∃ a c, v' = .slice a l.length c) ∧ RdT w' v' l ∧ (∀ b, v'.ownBlock = some b → w.heap.size ≤ b) ∧ Kept w w' [] := by
  obtain ⟨i0, hi, hz0, hz1, hz2⟩ := info_parts Tryz.infoI
  obtain ⟨a, c, rfl, hc, hm, ha, hcell⟩ := id h
  have H := Lib.hid h; clear h hcell
  have q22 : ∀ (w : World) (a : Option Addr) (n c n' c' : Nat), (binOp .eql 34 (.slice a n c) (.slice none n' c')).run Tryz.prog w = .ok (.bool a.isNone) w := fun w a n c n' c' => Lib.run_eql_slice_nil w _ _ a n c n' c' Tryz.underlying34
  cases a with
  | none =>
    obtain rfl := ha rfl
    obtain rfl : l = [] := List.eq_nil_of_length_eq_zero (by omega)
    clear ha
    go_enter Tryz.func175, Tryz.ntmps175
    go_wp2
    go_ret
    exact ⟨_, rfl, ⟨none, 0, rfl⟩, RdT.nil _, by intro b hb; simp [Value.ownBlock] at hb, Kept.refl _ _⟩
  | some x =>
    clear ha
    go_enter Tryz.func175, Tryz.ntmps175
    go_wp2_with (at_builtin; refine wpList_append_src _ rfl (.tmp 5) (.tmp 6) 34 34 rfl w.heap.size 2 i0 _ 1 8 Tryz.underlying34 hi hz0 hz1 hz2 rfl (.slice (some ⟨w.heap.size, 0, none⟩) 0 0) 0 [] rfl ?hown (.slice (some x) l.length c) l.length (ic l) rfl ?src ?b1 ?b2 ?base ?next)
    case hown => exact World.ownsRow_made w #[] 0 (Nat.le_refl _) (Nat.zero_le _) (by simp)
    case src => exact (H.out.keep ((Kept.refl w []).alloc _)).src Tryz.underlying34
    case b1 => unfold maxLen; omega
    case b2 => omega
    case base => simp
    case next =>
      intro v2 w2 hown hgrow _ _
      have ho : w2.ownsRow w.heap.size 2 1 v2 l.length (ic l) := by simpa using hown
      have hk : Kept w w2 [] := ((Kept.refl w []).alloc _).grown hgrow (fun k hk => .inr (by simp [Value.ownBlock] at hk; omega))
      have Ho := Lib.hid ho; have Hk := Lib.hid hk
      clear ho hk hown hgrow
      go_wp2
      go_ret
      exact ⟨_, rfl, ownsRow_shape Ho.out, owns_rdT Ho.out, fun b hb => (World.ownsRow.lt Ho.out b hb).1, Hk.out⟩

set_option maxHeartbeats 2000000 in
set_option maxRecDepth 100000 in
theorem own_any (x : Tk) (w : World) (h : RdI w x.op x.l) (hl : x.l.length ≤ 10000000) :
    Calls Tryz.prog 133 #[.agg x.cs] w fun e w' => ∃ y : Tk, e = .returned (.agg y.cs) ∧ y.pl = x.pl ∧ RdT w' y.op y.l ∧ (∀ b, y.op.ownBlock = some b → w.heap.size ≤ b) ∧ Kept w w' [] := by
  obtain ⟨n, M, a, c, l, t⟩ := x
  simp only [Tk.op, Tk.cs] at *
  obtain ⟨z, hz⟩ : ∃ z, z = w.heap.size := ⟨_, rfl⟩
  obtain ⟨W1, hW1⟩ : ∃ W1, W1 = (w.alloc (.cells #[.int .i64 n, .int .i64 M, .slice a l.length c, .int .i64 t] 38)).alloc (.cells #[.int .i64 0, .int .i64 0, .slice none 0 0, .int .i64 0] 38) := ⟨_, rfl⟩
  have k1 : Kept w W1 [] := by rw [hW1]; exact ((Kept.refl w []).alloc _).alloc _
  have e1 : (w.alloc (.cells #[.int .i64 n, .int .i64 M, .slice a l.length c, .int .i64 t] 38)).heap.size = z + 1 := by rw [hz]; simp
  have g0 : W1.heap[z]? = some (.cells #[.int .i64 n, .int .i64 M, .slice a l.length c, .int .i64 t] 38 (0, 0)) := by rw [hW1, hz]; exact (Below.heap_alloc _ _ _ (by simp)).trans (heap_alloc_new w _)
  have g1 : W1.heap[z + 1]? = some (.cells #[.int .i64 0, .int .i64 0, .slice none 0 0, .int .i64 0] 38 (0, 0)) := by rw [hW1, ← e1]; exact heap_alloc_new _ _
  have IC := Lib.hid (iclone_any _ l W1 (h.keep k1) hl)
  have s1 : W1.heap.size = w.heap.size + 2 := by rw [hW1]; simp
  have S1 := Lib.hid s1
  have K1 := Lib.hid k1; have HW1 := Lib.hid hW1; have HZ := Lib.hid hz; have G0 := Lib.hid g0; have G1 := Lib.hid g1
  obtain ⟨c0, c1, c2, c3⟩ := tk_cells g0
  clear h k1 g0 g1 hz e1 s1
  go_enter Tryz.func133, Tryz.ntmps133
  go_wp2_with fail
  rw [← HW1.out, ← HZ.out]
  clear hW1
  refine IC.out.mono ?_
  rintro e w2 ⟨v', rfl, ⟨a', c', rfl⟩, hr, hf, k2⟩
  have HR := Lib.hid hr; have HF := Lib.hid hf; have K2 := Lib.hid k2
  have g2 := k2.heap (by simp) G0.out
  have g3 := k2.heap (by simp) G1.out
  have G2 := Lib.hid g2; have G3 := Lib.hid g3
  clear c0 c1 c2 c3
  obtain ⟨c0, c1, c2, c3⟩ := tk_cells g2
  obtain ⟨f0, f1, f2, f3⟩ := tk_frozen g2
  obtain ⟨d0, d1, d2, d3⟩ := tk_cells g3
  obtain ⟨e0, e1, e2, e3⟩ := tk_frozen g3
  clear hr hf k2 g2 g3
  go_wp2
  refine bodyPost_ret (v := .agg #[.int .i64 n, .int .i64 M, .slice a' l.length c', .int .i64 t]) (by simp [results, Tryz.results133, go_sem, *]) rfl ?_
  refine ⟨⟨n, M, a', c', l, t⟩, rfl, rfl, ?_, fun b hb => by have := HF.out b hb; have := S1.out; omega, ?_⟩
  · have fo : Fo (fun k => k = z ∨ k = z + 1) w2 (w2.setCell ⟨z, 2, none⟩ (.slice a' l.length c')) := Fo.setCell (O := fun k => k = z ∨ k = z + 1) (Fo.refl _ w2) (p := ⟨z, 2, none⟩) (.inl (.inl rfl)) _
    exact HR.out.off (fo.four (g := z + 1) (.inl (.inr rfl)) (.int .i64 n) (.int .i64 M) (.slice a' l.length c') (.int .i64 t)) (fun b hb ho => by have := HF.out b hb; have := S1.out; have := HZ.out; rcases ho with rfl | rfl <;> omega)
  · have hz := HZ.out
    have k := (K1.out.trans K2.out (by simp)).setCell (p := ⟨z, 2, none⟩) (.inr (by show w.heap.size ≤ z; omega)) (.slice a' l.length c')
    exact k.four (g := z + 1) (.inr (by omega)) (.int .i64 n) (.int .i64 M) (.slice a' l.length c') (.int .i64 t)

set_option maxHeartbeats 1000000 in
theorem tknew_any (w : World) : Calls Tryz.prog 75 #[] w fun e w' => e = .returned (.pointer (some ⟨w.heap.size, 0, none⟩)) ∧ Tc tkT [] w' w.heap.size w.heap.size (.slice none 0 0) [] ∧ Kept w w' [] := by
  go_enter Tryz.func75, Tryz.ntmps75
  go_wp2
  go_ret
  exact ⟨rfl, ⟨heap_alloc_new w _, Nat.le_refl _, by decide, OwnT.nil _ _ _, fun x hx => by simp at hx⟩, (Kept.refl w []).alloc _⟩

set_option maxHeartbeats 1000000 in
theorem tklen_any (a : Tc tkT [] w B h V xs) : Calls Tryz.prog 73 #[.pointer (some ⟨h, 0, none⟩)] w fun e w' => e = .returned (.int .i64 xs.length) ∧ w' = w := by
  have c0 := a.cell.1
  obtain ⟨u, c, e⟩ := a.shape
  rw [e] at c0
  clear a e
  go_enter Tryz.func73, Tryz.ntmps73
  go_wp2
  go_ret
  exact ⟨rfl, rfl⟩

theorem lastN_snocT (ys : List Tk) (y : Tk) : lastN ((ys ++ [y]).map Tk.pl) = y.n := by rw [List.map_append]; exact lastN_snoc _ _

theorem Tc.last {T : TypeId} {r : List Value} {ys : List Tk} {y : Tk} (a : Tc T r w B h V (ys ++ [y])) : ∃ g c, V = .slice (some ⟨g, 0, none⟩) (ys.length + 1) c ∧
    w.cell? ⟨g, ys.length * 4, none⟩ = some (.int .i64 y.n) ∧ w.cell? ⟨g, ys.length * 4 + 1, none⟩ = some (.int .i64 y.M) ∧ w.cell? ⟨g, ys.length * 4 + 2, none⟩ = some y.op ∧ w.cell? ⟨g, ys.length * 4 + 3, none⟩ = some (.int .i64 y.t) ∧ RdT w y.op y.l := by
  obtain ⟨u, c, e⟩ := a.shape
  have o := a.own
  rw [e] at o
  obtain ⟨g, rfl, hc⟩ := o.at ys.length (by simp)
  have hy : (ys ++ [y])[ys.length]'(by simp) = y := by simp
  rw [hy] at hc
  refine ⟨g, c, by rw [e]; simp, (hc 0 (by omega)).1, (hc 1 (by omega)).1, (hc 2 (by omega)).1, (hc 3 (by omega)).1, a.rd y (by simp)⟩

set_option maxHeartbeats 1000000 in
theorem tklastq_any (a : Tc tkT [] w B h V xs) (hl : xs.length ≤ 1000) : Calls Tryz.prog 41 #[.pointer (some ⟨h, 0, none⟩)] w fun e w' => e = .returned (.int .i64 (lastN (xs.map Tk.pl))) ∧ ∃ m, w' = w.drewN m := by
  have HL := Lib.hid (tklen_any a)
  have HQ := Lib.hid (fun q => tklen_any (a.keep ((Kept.refl w []).drewN q)))
  have c0 := a.cell.1
  rcases List.eq_nil_or_concat xs with rfl | ⟨ys, y, e⟩
  · clear c0 a
    go_enter Tryz.func41, Tryz.ntmps41
    go_wp2_with (go_at_call 73; refine HL.out.mono ?_; rintro e w' ⟨rfl, rfl⟩)
    go_ret
    exact ⟨rfl, 0, rfl⟩
  · rw [List.concat_eq_append] at e
    subst e
    rw [lastN_snocT]
    obtain ⟨g, c, e, c1, _, _, _, _⟩ := a.last
    rw [e] at c0
    rw [List.length_append, List.length_singleton] at HL HQ
    have hl2 : ys.length < 1000 := by simp at hl; omega
    clear a e hl
    have x0 : (((ys.length : Nat) : Int) + 1 == 0) = false := by rw [beq_eq_false_iff_ne]; omega
    go_enter Tryz.func41, Tryz.ntmps41
    go_wp2_with (go_at_call 73; refine HL.out.mono ?_; rintro e w' ⟨rfl, rfl⟩)
    go_quiet ((go_at_call 73; exact Calls.quiet_of_same (HQ.out _)))
    go_wp2
    go_ret
    exact ⟨rfl, _, rfl⟩

theorem tklast_any (a : Tc tkT [] w B h V xs) (hl : xs.length ≤ 1000) : Calls Tryz.prog 41 #[.pointer (some ⟨h, 0, none⟩)] w fun e w' => e = .returned (.int .i64 (lastN (xs.map Tk.pl))) ∧ Kept w w' [] :=
  (tklastq_any a hl).mono (fun e w' ⟨h1, m, h2⟩ => ⟨h1, h2 ▸ (Kept.refl w []).drewN m⟩)

end Go.Proofs.YticiofkiffgclaaGreat
