/-
  Proved: whatever the arguments are, carrierlaw11.TickOwn answers true and leaves its arguments as they were. No condition.
-/
import Derived.Test.YtodfjpjjcgdmeaaKj
import Derived.Test.YtodfjpjjcgdmeaaRows
import Derived.Test.YtodfjpjjcgdmeaaChecked
import Derived.ProofKit
import Derived.OpenShut
import Derived.ChangeOld
import Derived.Below
namespace Go.Proofs.Ytodfjpjjcgdmeaa.tickOwn
open Go.ChangeShapes Go.WideShapes Go.ChangeAt Go.RowKit
set_option linter.unusedVariables false

theorem own : ownKnob Try.prog.godebug = none := by kernel_rfl
theorem laidOut : laidOutB Try.prog = true := by kernel_rfl

variable {w : World} {B h : Nat} {V : Value} {xs : List Tk}

/-- Somebody writes over a number of a list that isn't ours. -/
theorem own_write (a : Tc tkT [] w B h V xs) {g : Nat} {cs : Array Value} (hg : w.heap[g]? = some (.cells cs 2 (0, 0))) (hx : ∀ x ∈ xs, x.op.ownBlock ≠ some g) (j : Nat) (u : Value) : Tc tkT [] (w.setCell ⟨g, j, none⟩ u) B h V xs := by
  have f : Fo (fun k => k = g) w (w.setCell ⟨g, j, none⟩ u) := Fo.setCell (O := fun k => k = g) (Fo.refl _ w) (p := ⟨g, j, none⟩) (.inl rfl) u
  exact a.off f (fun k hk e => by subst e; exact a.noI k hk cs _ hg) (fun x hm b hb e => by subst e; exact hx x hm hb)

/-- Where two numbers can be read, they lie somewhere. -/
theorem two_nums {a : Option Addr} {c : Nat} {p q : Int} (h : RdT w (.slice a 2 c) [p, q]) : ∃ b o cs, a = some ⟨b, o, none⟩ ∧ w.heap[b]? = some (.cells cs 2 (0, 0)) ∧ w.cell? ⟨b, o, none⟩ = some (.int .i64 p) ∧ w.cell? ⟨b, o + 1, none⟩ = some (.int .i64 q) := by
  obtain ⟨⟨a', c', hv, _, _, _, hl⟩, ht⟩ := h
  simp only [Value.slice.injEq] at hv
  obtain ⟨rfl, _, _⟩ := hv
  obtain ⟨b, o, rfl, hc⟩ := hl (by simp)
  obtain ⟨cs, hg⟩ := ht b rfl
  exact ⟨b, o, cs, rfl, hg, by simpa using hc 0 (by simp), by simpa using hc 1 (by simp)⟩

theorem one_of {ps : List Pt} {p : Pt} (hp : xs.map Tk.pl = [p]) : ∃ x, xs = [x] ∧ x.pl = p := by
  match xs, hp with
  | [x], hp => exact ⟨x, rfl, by simpa using hp⟩

theorem own_add : addE [] 5 [2, 3] 7 = 0 ∧ addP [] 5 [2, 3] 7 = ⟨1, 5, [2, 3], 7⟩ ∧ addS [] 5 [2, 3] 7 = [⟨1, 5, [2, 3], 7⟩] := by
  refine ⟨?_, ?_, ?_⟩ <;> rfl
theorem own_ok : Okp [⟨1, 5, [2, 3], 7⟩] := by
  have := Okp.nil.add (M := 5) (l := [2, 3]) 7 (by omega) (by simp)
  rw [own_add.2.2] at this
  exact this
theorem own_get : getS [⟨1, 5, [2, 3], 7⟩] 1 = some ⟨1, 5, [2, 3], 7⟩ ∧ aftS [⟨1, 5, [2, 3], 7⟩] 0 = some ⟨1, 5, [2, 3], 7⟩ := ⟨rfl, rfl⟩

set_option maxHeartbeats 8000000 in
set_option maxRecDepth 100000 in
theorem walk (a0 : Int) (w0 : (Lit.int .i64 a0).wf = true) (W : World) :
    Calls Try.prog 7 #[.int .i64 a0] W fun e w' => e = .returned (.bool true) ∧ Below W.heap.size W w' := by
  clear w0
  go_enter Try.func7, Try.ntmps7
  go_wp2_with fail
  refine (tknew_any W).mono ?_
  rintro e w1 ⟨rfl, a1, k1⟩
  obtain ⟨wO, hwO⟩ : ∃ wO, wO = w1.alloc (.cells #[.int .i64 2, .int .i64 3] 2) := ⟨_, rfl⟩
  obtain ⟨g, hg⟩ : ∃ g, g = w1.heap.size := ⟨_, rfl⟩
  have gO : wO.heap[g]? = some (.cells #[.int .i64 2, .int .i64 3] 2 (0, 0)) := by rw [hwO, hg]; exact heap_alloc_new w1 _
  have kO : Kept w1 wO [] := by rw [hwO]; exact (Kept.refl w1 []).alloc _
  have sO : wO.heap.size = g + 1 := by rw [hwO, hg]; simp
  have rO : RdT wO (.slice (some ⟨g, 0, none⟩) 2 2) [2, 3] := by
    refine ⟨⟨_, 2, rfl, by simp, by unfold maxLen; omega, by simp, fun _ => ⟨g, 0, rfl, fun i hi => ?_⟩⟩, fun b hb => ?_⟩
    · rw [cell_of_row _ _ _ _ _ _ gO]
      match i, hi with
      | 0, _ => rfl
      | 1, _ => rfl
    · simp only [Value.ownBlock, Option.some.injEq] at hb
      subst hb
      exact ⟨_, gO⟩
  have AD := tkadd_any (a1.keep kO) Okp.nil 5 (some ⟨g, 0, none⟩) 2 [2, 3] 7 rO (by omega) (by simp) (by simp [lastN])
  have hB : W.heap.size < g := by have := heap_lt a1.hh; omega
  have KWO := Lib.hid (k1.trans kO (by simp))
  have ADD := Lib.hid AD; have HwO := Lib.hid hwO; have HG := Lib.hid hg; have GO := Lib.hid gO; have SO := Lib.hid sO
  clear AD hwO hg gO kO sO rO a1 k1
  go_upto_region 3 with fail
  rw [← HwO.out, ← HG.out]
  go_wp2_with fail
  refine ADD.out.mono ?_
  rintro e w2 ⟨y, V2, xs2, rfl, hy, hry, a2, hxs, hst, hfr⟩
  rw [show List.map Tk.pl [] = [] from rfl] at hy hxs ⊢
  rw [own_add.2.1] at hy
  rw [own_add.2.2] at hxs
  rw [own_add.1]
  obtain ⟨x1, rfl, hx1⟩ := one_of (ps := []) hxs
  obtain ⟨y0, y1, ya, yc, y4, y5⟩ := y
  simp only [Tk.pl, Pt.mk.injEq] at hy
  obtain ⟨p0, p1, p2, p3⟩ := hy
  subst y0 y1 y4 y5
  simp only [Tk.cs, Tk.op] at *
  obtain ⟨f1, f2⟩ := hfr
  simp only [List.mem_singleton, forall_eq] at f1 f2
  have gO2 : w2.heap[g]? = some (.cells #[.int .i64 2, .int .i64 3] 2 (0, 0)) := hst.1.heap (fun hk => by
    rcases hk with h1 | h1
    · omega
    · simp [Value.ownBlock] at h1) GO.out
  have kW2 : Kept W w2 [] := KWO.out.foK hst.1 (fun k hk => by
    rcases hk with rfl | h1
    · exact Nat.le_refl _
    · simp [Value.ownBlock] at h1)
  obtain ⟨gy, oy, csy, rfl, hgy, ey0, ey1⟩ := two_nums hry
  have f1y := f1 gy rfl
  have ngy : gy ≠ g := by have := SO.out; omega
  have nx1 : x1.op.ownBlock ≠ some g := by
    intro h
    rcases f2 with h2 | h2
    · simp at h2
    · have := h2 g h; have := SO.out; omega
  have nx2 := f1y.2
  obtain ⟨w3, hw3⟩ : ∃ w3, w3 = w2.alloc (.cells #[.int .i64 1, .int .i64 5, .slice (some ⟨gy, oy, none⟩) 2 yc, .int .i64 7] 38) := ⟨_, rfl⟩
  obtain ⟨bx, hbx⟩ : ∃ bx, bx = w2.heap.size := ⟨_, rfl⟩
  have k3 : Kept w2 w3 [] := by rw [hw3]; exact (Kept.refl w2 []).alloc _
  have gb3 : w3.heap[bx]? = some (.cells #[.int .i64 1, .int .i64 5, .slice (some ⟨gy, oy, none⟩) 2 yc, .int .i64 7] 38 (0, 0)) := by rw [hw3, hbx]; exact heap_alloc_new w2 _
  have gO3 := k3.heap (by simp) gO2
  have gy3 := k3.heap (by simp) hgy
  have a3 := a2.keep k3
  have nbg : bx ≠ g := by have := heap_lt gO2; omega
  have nby : bx ≠ gy := by have := heap_lt hgy; omega
  obtain ⟨w4, hw4⟩ : ∃ w4, w4 = w3.setCell ⟨g, 0, none⟩ (.int .i64 a0) := ⟨_, rfl⟩
  have a4 : Tc tkT [] w4 W.heap.size W.heap.size V2 [x1] := by rw [hw4]; exact own_write a3 gO3 (fun x hx => by rw [List.mem_singleton.1 hx]; exact nx1) 0 _
  have o4 : Fo (fun k => k = g) w3 w4 := by rw [hw4]; exact Fo.setCell (O := fun k => k = g) (Fo.refl _ w3) (p := ⟨g, 0, none⟩) (.inl rfl) _
  have gb4 := o4.heap nbg gb3
  have gy4 := o4.heap ngy gy3
  have cy4 : w4.cell? ⟨gy, oy + 1, none⟩ = some (.int .i64 3) := by rw [World.cell?_of_block (w := w3) (o4.block gy (heap_lt gy3) ngy)]; exact k3.cell (p := ⟨gy, oy + 1, none⟩) (by simp) ey1
  have fy4 : w4.frozen? ⟨gy, oy + 1, none⟩ = false := frozen_of_row _ _ _ _ _ gy4
  obtain ⟨w5, hw5⟩ : ∃ w5, w5 = w4.setCell ⟨gy, oy + 1, none⟩ (.int .i64 a0) := ⟨_, rfl⟩
  have a5 : Tc tkT [] w5 W.heap.size W.heap.size V2 [x1] := by rw [hw5]; exact own_write a4 gy4 (fun x hx => by rw [List.mem_singleton.1 hx]; exact nx2) _ _
  have k5 : Kept W w5 [] := by
    rw [hw5, hw4]
    have := k3.size
    exact ((kW2.trans k3 (by simp)).setCell (p := ⟨g, 0, none⟩) (.inr (by show W.heap.size ≤ g; omega)) _).setCell (p := ⟨gy, oy + 1, none⟩) (.inr (by have := SO.out; show W.heap.size ≤ gy; omega)) _
  have cg3 := (show w3.cell? ⟨g, 0, none⟩ = some (.int .i64 2) from by rw [cell_of_row _ _ _ _ _ _ gO3]; rfl)
  have fg3 : w3.frozen? ⟨g, 0, none⟩ = false := frozen_of_row _ _ _ _ _ gO3
  have HX1 := Lib.hid hx1
  have GET := tkget_any a5 (by show Okp [x1.pl]; rw [hx1]; exact own_ok) 1
  rw [show List.map Tk.pl [x1] = [x1.pl] from rfl, hx1, own_get.1] at GET
  have HGET := Lib.hid GET; have A5 := Lib.hid a5; have K5 := Lib.hid k5; have HW3 := Lib.hid hw3; have HW4 := Lib.hid hw4; have HW5 := Lib.hid hw5; have HBX := Lib.hid hbx
  have GB4 := Lib.hid gb4; have CY4 := Lib.hid (And.intro cy4 fy4); have CG3 := Lib.hid (And.intro cg3 fg3)
  clear hry a2 hxs hst f1 f2 gO2 kW2 hgy ey0 ey1 f1y nx1 nx2 hw3 hbx k3 gb3 gO3 gy3 a3 hw4 a4 o4 gb4 gy4 cy4 fy4 hw5 a5 k5 cg3 fg3 hx1 GET nbg nby ngy
  go_upto_region 4 with fail
  rw [← HW3.out, ← HBX.out]
  obtain ⟨c0, f0⟩ := CG3.out
  go_upto_region 5 with fail
  rw [← HW4.out]
  clear c0 f0
  obtain ⟨d0, d1, d2, d3⟩ := tk_cells GB4.out
  obtain ⟨c0, f0⟩ := CY4.out
  go_upto_region 8 with fail
  rw [← HW5.out]
  clear c0 f0 d0 d1 d2 d3
  go_wp2_with fail
  refine HGET.out.mono ?_
  rintro e w6 ⟨z, rfl, hz, hrz, hfz, k6⟩
  obtain ⟨z0, z1, za, zc, z4, z5⟩ := z
  simp only [Tk.pl, Option.getD, Pt.mk.injEq] at hz
  obtain ⟨p0, p1, p2, p3⟩ := hz
  subst z0 z1 z4 z5
  simp only [Tk.cs, Tk.op, Option.isSome] at *
  obtain ⟨gz, oz, csz, rfl, hgz, ez0, ez1⟩ := two_nums hrz
  have f1z := hfz gz rfl
  have nx3 : x1.op.ownBlock ≠ some gz := fun h => by have := (A5.out.rd x1 (by simp)).lt h; omega
  obtain ⟨w7, hw7⟩ : ∃ w7, w7 = w6.alloc (.cells #[.int .i64 1, .int .i64 5, .slice (some ⟨gz, oz, none⟩) 2 zc, .int .i64 7] 38) := ⟨_, rfl⟩
  obtain ⟨by2, hby⟩ : ∃ b, b = w6.heap.size := ⟨_, rfl⟩
  have k7 : Kept w6 w7 [] := by rw [hw7]; exact (Kept.refl w6 []).alloc _
  have gb7 : w7.heap[by2]? = some (.cells #[.int .i64 1, .int .i64 5, .slice (some ⟨gz, oz, none⟩) 2 zc, .int .i64 7] 38 (0, 0)) := by rw [hw7, hby]; exact heap_alloc_new w6 _
  have gz7 := k7.heap (by simp) hgz
  have cz7 := k7.cell (p := ⟨gz, oz, none⟩) (by simp) ez0
  have fz7 : w7.frozen? ⟨gz, oz, none⟩ = false := frozen_of_row _ _ _ _ _ gz7
  have k67 : Kept w5 w7 [] := k6.trans k7 (by simp)
  have a7 := A5.out.keep k67
  obtain ⟨w8, hw8⟩ : ∃ w8, w8 = w7.setCell ⟨gz, oz, none⟩ (.int .i64 a0) := ⟨_, rfl⟩
  have a8 : Tc tkT [] w8 W.heap.size W.heap.size V2 [x1] := by rw [hw8]; exact own_write a7 gz7 (fun x hx => by rw [List.mem_singleton.1 hx]; exact nx3) _ _
  have k8 : Kept W w8 [] := by
    rw [hw8]
    have := K5.out.size
    exact (K5.out.trans k67 (by simp)).setCell (p := ⟨gz, oz, none⟩) (.inr (by show W.heap.size ≤ gz; omega)) _
  have AFT := tkaft_any a8 (by show Okp [x1.pl]; rw [HX1.out]; exact own_ok) 0
  rw [show List.map Tk.pl [x1] = [x1.pl] from rfl, HX1.out, own_get.2] at AFT
  have HAFT := Lib.hid AFT; have K8 := Lib.hid k8; have HW7 := Lib.hid hw7; have HW8 := Lib.hid hw8; have HBY := Lib.hid hby; have GB7 := Lib.hid gb7; have CZ7 := Lib.hid (And.intro cz7 fz7)
  clear hrz hfz k6 hgz ez0 ez1 f1z nx3 hw7 hby k7 gb7 gz7 cz7 fz7 k67 a7 hw8 a8 k8 AFT HGET
  go_upto_region 9 with fail
  rw [← HW7.out, ← HBY.out]
  obtain ⟨d0, d1, d2, d3⟩ := tk_cells GB7.out
  obtain ⟨c0, f0⟩ := CZ7.out
  go_upto_region 12 with fail
  rw [← HW8.out]
  clear c0 f0 d0 d1 d2 d3
  go_wp2_with fail
  refine HAFT.out.mono ?_
  rintro e w9 ⟨q, rfl, hq, hrq, _, k9⟩
  obtain ⟨q0, q1, qa, qc, q4, q5⟩ := q
  simp only [Tk.pl, Option.getD, Pt.mk.injEq] at hq
  obtain ⟨p0, p1, p2, p3⟩ := hq
  subst q0 q1 q4 q5
  simp only [Tk.cs, Tk.op, Option.isSome] at *
  obtain ⟨gq, oq, csq, rfl, hgq, eq0, eq1⟩ := two_nums hrq
  obtain ⟨wA, hwA⟩ : ∃ wA, wA = w9.alloc (.cells #[.int .i64 1, .int .i64 5, .slice (some ⟨gq, oq, none⟩) 2 qc, .int .i64 7] 38) := ⟨_, rfl⟩
  obtain ⟨bq, hbq⟩ : ∃ b, b = w9.heap.size := ⟨_, rfl⟩
  have kA : Kept w9 wA [] := by rw [hwA]; exact (Kept.refl w9 []).alloc _
  have gA : wA.heap[bq]? = some (.cells #[.int .i64 1, .int .i64 5, .slice (some ⟨gq, oq, none⟩) 2 qc, .int .i64 7] 38 (0, 0)) := by rw [hwA, hbq]; exact heap_alloc_new w9 _
  have cA0 := kA.cell (p := ⟨gq, oq, none⟩) (by simp) eq0
  have cA1 := kA.cell (p := ⟨gq, oq + 1, none⟩) (by simp) eq1
  have KA := Lib.hid ((K8.out.trans k9 (by simp)).trans kA (by simp)); have GA := Lib.hid gA; have CA := Lib.hid (And.intro cA0 cA1); have HWA := Lib.hid hwA; have HBQ := Lib.hid hbq
  clear hrq k9 hgq eq0 eq1 hwA hbq kA gA cA0 cA1 HAFT
  go_upto_region 13 with fail
  rw [← HWA.out, ← HBQ.out]
  go_wp2_with fail
  refine (trims_any wA).mono ?_
  rintro e wE ⟨rfl, kE⟩
  obtain ⟨d0, d1, d2, d3⟩ := tk_cells (kE.heap (by simp) GA.out)
  have c0 := kE.cell (p := ⟨gq, oq, none⟩) (by simp) CA.out.1
  have c1 := kE.cell (p := ⟨gq, oq + 1, none⟩) (by simp) CA.out.2
  have KE := Lib.hid (KA.out.trans kE (by simp))
  clear kE
  go_wp2
  go_ret
  exact ⟨rfl, KE.out.below (Nat.le_refl _) (by simp)⟩

set_option maxRecDepth 100000 in
theorem lifted (os : Os) (started : os.Started) (H : Type) (enc : TypeId × Value → H) :
    ReturnsInHanded {} Try.checked os 7 .any (Rows.tickOwnSpec.pre6 enc Try.prog Try.f7 Rows.tickOwnRow.domain false) (Rows.tickOwnSpec.post enc Try.prog Try.f7 false true false false) := by
  refine returnsInHanded_of_change (C := Try.checked) own started (by kernel_rfl) Try.func7
    (ChangeSpec.witness6 (enc := enc) (C := Try.checked) false ⟨#[], #[.int .i64 0], []⟩ 8 (by kernel_rfl) (by kernel_rfl) (by kernel_rfl) (by kernel_rfl)) ?_
  intro W base args ds gs before hval0 hW hcnd _
  have hval : ∀ (j : Nat) t v, Try.f7.params[j]? = some t → args[j]? = some v → Value.okWide Try.prog W .any base t v := hval0
  have hW' := hW
  obtain ⟨p, q, hA0, hV, rfl, hfz, hnd⟩ := hW
  have hA : DataW.TrodAll enc Try.prog W 0 (fun _ => true) true Try.f7.params.toList args.toList ds p := hA0
  rw [Try.params7] at hA hval
  obtain ⟨v0, vs0, d0, ds0, p0, q0, hargs, rfl, rfl, h0, r0⟩ := trodAll_cons hA
  obtain ⟨rfl, rfl, rfl⟩ := trodAll_nil r0
  obtain rfl : args = #[v0] := by cases args; simp_all
  obtain ⟨rfl, rfl⟩ := trodVars_none hV
  obtain ⟨a0, rfl, rfl, rfl, w0⟩ := open_int Try.underlying2 (hval 0 2 v0 rfl rfl) h0
  clear hA0 hval0
  simp only [List.append_nil] at hW'
  refine (walk a0 w0 W).mono fun e W' ⟨he, bel⟩ => ?_
  subst he
  exact ⟨_, rfl, _, _, _, [], _, [], hW', trodAll_mk1 (shut_bool Try.underlying4 _), (trodAll_cons_mk (shut_int Try.underlying2 w0) trodAll_mk0), rfl, bel.frame _, fun h => by cases h⟩

theorem over : Rows.tickOwnRow.holds Try.pinned (OpenSpec.ofChange Rows.tickOwnSpec) :=
  OpenClaim.holds_of_wide 7 Try.f7 rfl rfl rfl rfl rfl rfl rfl ⟨rfl, rfl, rfl, rfl, rfl⟩ rfl rfl rfl rfl rfl (by kernel_rfl) Try.func7 (by kernel_rfl)
    (of_decide_eq_true (by kernel_rfl)) (by unfold Func.isWrapper; first | (rw [if_pos (by decide +kernel)]; kernel_rfl) | (rw [if_neg (by decide +kernel)]; exact ⟨rfl, rfl⟩))
    (fun os started H enc _ => lifted os started H enc)

theorem proved : Rows.TickOwnSaid :=
  over
end Go.Proofs.Ytodfjpjjcgdmeaa.tickOwn

namespace Go.Proofs.Ytodfjpjjcgdmeaa
theorem tickOwn_holds : Rows.TickOwnSaid := tickOwn.proved
#print axioms tickOwn_holds
end Go.Proofs.Ytodfjpjjcgdmeaa

