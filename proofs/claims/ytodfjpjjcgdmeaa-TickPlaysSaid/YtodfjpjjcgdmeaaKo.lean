/-
  The document's ticks: Add.
-/
import Derived.Test.YtodfjpjjcgdmeaaKn
namespace Go.Proofs.Ytodfjpjjcgdmeaa
set_option linter.unusedVariables false
open Go.RowKit

variable {w w' : World} {B h : Nat} {V : Value} {xs : List Tk}

/-- What the document's Add leaves. -/
def RAddPost (w : World) (B h : Nat) (V : Value) (xs : List Tk) (M : Int) (l : List Int) (t : Int) (e : Ending) (w' : World) : Prop :=
  ∃ (y : Tk) (V' : Value) (xs' : List Tk), e = .returned (.tuple #[.agg y.cs, .int .i64 (addE (xs.map Tk.pl) M l t)]) ∧ y.pl = addP (xs.map Tk.pl) M l t ∧ RdT w' y.op y.l ∧ Tc rkT [.int .i64 (lastN (addS (xs.map Tk.pl) M l t))] w' B h V' xs' ∧ xs'.map Tk.pl = addS (xs.map Tk.pl) M l t ∧ Stp (tfoot h V) (tfoot h V') w w'

theorem RAddPost.no {M : Int} {l : List Int} {t : Int} {E : Int} {wr : World} (hE : addE (xs.map Tk.pl) M l t = E) (h0 : E ≠ 0) (a : Tc rkT [.int .i64 (lastN (xs.map Tk.pl))] w B h V xs) (k : Kept w wr []) (gz : wr.heap[w.heap.size + 1]? = some zT4) (u0 u1 u2 u3 : Value) :
    RAddPost w B h V xs M l t (.returned (.tuple #[.agg #[.int .i64 0, .int .i64 0, .slice none 0 0, .int .i64 0], .int .i64 E])) ((((wr.setCell ⟨w.heap.size + 1, 0, none⟩ u0).setCell ⟨w.heap.size + 1, 1, none⟩ u1).setCell ⟨w.heap.size + 1, 2, none⟩ u2).setCell ⟨w.heap.size + 1, 3, none⟩ u3) := by
  have kf := k.four (g := w.heap.size + 1) (.inr (by omega)) u0 u1 u2 u3
  exact ⟨Tk.zero, V, xs, by rw [hE]; rfl, by unfold addP; rw [hE, if_neg h0]; rfl, RdT.nil _, by unfold addS; rw [hE, if_neg h0]; exact a.keep kf, by unfold addS; rw [hE, if_neg h0], Stp.ofKept kf⟩

theorem RAddPost.yes {M : Int} {l : List Int} {t L : Int} {wc w7 : World} {v9 : Value} {x1 : Tk} (hE : addE (xs.map Tk.pl) M l t = 0) (hL : L = lastN (xs.map Tk.pl)) (hwf : Kept w wc []) (hz : w.heap.size + 1 < wc.heap.size) (NF : ¬ tfoot h V (w.heap.size + 1)) (T9 : Tc rkT [.int .i64 (L + 1)] w7 B h v9 (xs ++ [x1])) (hx1 : x1.pl = ⟨L + 1, M, l, t⟩)
    (P9 : Stp (tfoot h V) (tfoot h v9) wc w7) (G7 : w7.heap[w.heap.size + 1]? = some zT4) (u0 u1 u2 u3 : Value) : RAddPost w B h V xs M l t (.returned (.tuple #[.agg x1.cs, .int .i64 0])) ((((w7.setCell ⟨w.heap.size + 1, 0, none⟩ u0).setCell ⟨w.heap.size + 1, 1, none⟩ u1).setCell ⟨w.heap.size + 1, 2, none⟩ u2).setCell ⟨w.heap.size + 1, 3, none⟩ u3) := by
  have f7 : Fo (fun k => k = w.heap.size + 1) w7 ((((w7.setCell ⟨w.heap.size + 1, 0, none⟩ u0).setCell ⟨w.heap.size + 1, 1, none⟩ u1).setCell ⟨w.heap.size + 1, 2, none⟩ u2).setCell ⟨w.heap.size + 1, 3, none⟩ u3) := Fo.four (O := fun k => k = w.heap.size + 1) (Fo.refl _ w7) (g := w.heap.size + 1) (.inl rfl) u0 u1 u2 u3
  have n7 : NoI w7 (fun k => k = w.heap.size + 1) := by
    rintro k rfl cs fz hg
    rw [G7] at hg
    simp only [zT4, Option.some.injEq, Obj.cells.injEq] at hg
    exact absurd hg.2.1 (by decide)
  have dis : ∀ k, tfoot h v9 k → ¬ k = w.heap.size + 1 := by
    rintro k hk rfl
    rcases P9.2 _ hk with h1 | h1
    · exact NF h1
    · omega
  have s := (Stp.ofKept (O := tfoot h V) hwf).trans P9
  have eS : addS (xs.map Tk.pl) M l t = xs.map Tk.pl ++ [⟨L + 1, M, l, t⟩] := by rw [addS, hE, if_pos rfl, ← hL]
  refine ⟨x1, v9, xs ++ [x1], by rw [hE], by rw [addP, hE, if_pos rfl, ← hL]; exact hx1, (T9.rd x1 (by simp)).fo f7 n7, ?_, by rw [eS, List.map_append]; simp [hx1], ⟨s.1.four (g := w.heap.size + 1) (.inr (by omega)) u0 u1 u2 u3, s.2⟩⟩
  rw [eS, lastN_snoc]
  exact T9.fo f7 dis n7

set_option maxHeartbeats 16000000 in
set_option maxRecDepth 100000 in
theorem rkadd_any (a : Tc rkT [.int .i64 (lastN (xs.map Tk.pl))] w B h V xs) (ok : Okp (xs.map Tk.pl)) (M : Int) (va : Option Addr) (vc : Nat) (l : List Int) (t : Int) (hr : RdT w (.slice va l.length vc) l) (hM : M ≤ 9223372036854775807) (hll : l.length ≤ 1000) (hlast : lastN (xs.map Tk.pl) ≤ 1099511627776) :
    Calls Try.prog 14 #[.pointer (some ⟨h, 0, none⟩), .agg #[.int .i64 M, .slice va l.length vc], .int .i64 t] w (RAddPost w B h V xs M l t) := by
  have hsz : xs.length ≤ 64 := by have := ok.size; simpa using this
  have hn0 := ok.n0
  have EE : RowKit.Hid (addE (xs.map Tk.pl) M l t = if 64 ≤ xs.length then 8 else if rightB M l = false then 1 else if folB (xs.map Tk.pl) M l t = true then 0 else 1) := Lib.hid (by unfold addE; rw [List.length_map])
  obtain ⟨i0, hi0, hz0, hz1, hzb⟩ := info_parts Try.infoTk
  have I := Lib.hid (And.intro hi0 (And.intro hz0 (And.intro hz1 hzb)))
  obtain ⟨W1, hW1⟩ : ∃ W1, W1 = (w.alloc (.cells #[.int .i64 M, .slice va l.length vc] 35)).alloc zT4 := ⟨_, rfl⟩
  have k1 : Kept w W1 [] := by rw [hW1]; exact ((Kept.refl w []).alloc _).alloc _
  have e1 : (w.alloc (.cells #[.int .i64 M, .slice va l.length vc] 35)).heap.size = w.heap.size + 1 := by simp
  have sW1 : W1.heap.size = w.heap.size + 2 := by rw [hW1]; simp
  have g0 : W1.heap[w.heap.size]? = some (.cells #[.int .i64 M, .slice va l.length vc] 35 (0, 0)) := by rw [hW1]; exact (Below.heap_alloc _ _ _ (by simp)).trans (heap_alloc_new w _)
  have g1 : W1.heap[w.heap.size + 1]? = some zT4 := by rw [hW1, ← e1]; exact heap_alloc_new _ _
  have NF : RowKit.Hid (¬ tfoot h V (w.heap.size + 1) ∧ ¬ tfoot h V w.heap.size) := Lib.hid ⟨fun hk => by have := (a.lt _ hk).2; omega, fun hk => by have := (a.lt _ hk).2; omega⟩
  have a1 := a.keep k1
  have r1 := hr.keep k1
  have HR := Lib.hid (rright_any M _ l W1 r1.1)
  obtain ⟨u, cp, hV⟩ := a1.shape
  subst hV
  have K1 := Lib.hid k1; have HW1 := Lib.hid hW1; have G0 := Lib.hid g0; have G1 := Lib.hid g1; have A0 := Lib.hid a; have A1 := Lib.hid a1; have R1 := Lib.hid r1; have SW := Lib.hid sW1; have OK := Lib.hid ok
  obtain ⟨L, hL⟩ : ∃ L, L = lastN (xs.map Tk.pl) := ⟨_, rfl⟩
  have HL := Lib.hid hL
  have cv := a1.cell.1
  have hlast2 : 0 ≤ L ∧ L ≤ 1099511627776 := by rw [hL]; exact ⟨hn0, hlast⟩
  clear hi0 hz0 hz1 hzb k1 hW1 e1 g0 g1 a1 r1 a hr ok sW1 hL hlast hn0
  by_cases h64 : 64 ≤ xs.length
  · have x1 : (64 : Int) ≤ (xs.length : Int) := by omega
    rw [if_pos h64] at EE
    clear h64
    obtain ⟨c0, c1, c2, c3⟩ := tk_cells G1.out
    obtain ⟨f0, f1, f2, f3⟩ := tk_frozen G1.out
    go_enter Try.func14, Try.ntmps14
    go_upto_region 1 with fail
    rw [← HW1.out]
    go_wp2
    refine bodyPost_ret (v := .tuple #[.agg #[.int .i64 0, .int .i64 0, .slice none 0 0, .int .i64 0], .int .i64 8]) (by simp [results, Try.results14, go_sem, *]) rfl ?_
    exact RAddPost.no EE.out (by decide) A0.out K1.out G1.out _ _ _ _
  have x1 : ¬ (64 : Int) ≤ (xs.length : Int) := by omega
  rw [if_neg h64] at EE
  cases hR : rightB M l with
  | false =>
    rw [hR, if_pos rfl] at EE
    rw [hR] at HR
    clear h64 hR
    go_enter Try.func14, Try.ntmps14
    go_upto_region 1 with fail
    rw [← HW1.out]
    obtain ⟨j0, j1⟩ := two_cells G0.out
    go_wp2_with fail
    refine HR.out.mono ?_
    rintro e w2 ⟨rfl, k2⟩
    have K2 := Lib.hid k2
    have g2 := k2.heap (by simp) G1.out
    have G2 := Lib.hid g2
    obtain ⟨c0, c1, c2, c3⟩ := tk_cells g2
    obtain ⟨f0, f1, f2, f3⟩ := tk_frozen g2
    clear g2 k2 cv j0 j1
    go_wp2
    refine bodyPost_ret (v := .tuple #[.agg #[.int .i64 0, .int .i64 0, .slice none 0 0, .int .i64 0], .int .i64 1]) (by simp [results, Try.results14, go_sem, *]) rfl ?_
    exact RAddPost.no EE.out (by decide) A0.out (K1.out.trans K2.out (by simp)) G2.out _ _ _ _
  | true =>
    have HRT := Lib.hid hR
    rw [hR, if_neg (by simp)] at EE
    rw [hR] at HR
    clear hR h64
    by_cases hne : xs = []
    · subst hne
      have HE : RowKit.Hid (addE (List.map Tk.pl []) M l t = 0) := Lib.hid (by rw [EE.out]; rfl)
      clear EE
      go_enter Try.func14, Try.ntmps14
      go_upto_region 1 with fail
      rw [← HW1.out]
      obtain ⟨j0, j1⟩ := two_cells G0.out
      go_wp2_with fail
      refine HR.out.mono ?_
      rintro e wr ⟨rfl, k2⟩
      have K2 := Lib.hid k2
      clear cv j0 j1
      obtain ⟨cv, fv⟩ := (A1.out.keep k2).cell
      clear k2
      have KR := K2
      obtain ⟨cv1, fv1⟩ := (A1.out.keep KR.out).cell1
      have m1 : IntKind.i64.wrap (L + 1) = L + 1 := by rw [IntKind.wrap_i64]; omega
      have m2 : wrap64 (L + 1) = L + 1 := by simp only [wrap64]; omega
      rw [← HL.out] at cv1
      obtain ⟨w9, hw9⟩ : ∃ w9, w9 = wr.setCell ⟨h, 1, none⟩ (.int .i64 (L + 1)) := ⟨_, rfl⟩
      have hs9 := (A1.out.keep KR.out).set1 (.int .i64 (L + 1))
      rw [← hw9] at hs9
      have o9 : Fo (fun k => k = h) wr w9 := by rw [hw9]; exact Fo.setCell (O := fun k => k = h) (Fo.refl _ wr) (p := ⟨h, 1, none⟩) (.inl rfl) _
      have nz0 : w.heap.size ≠ h := fun e => NF.out.2 (.inl e)
      have nz1 : w.heap.size + 1 ≠ h := fun e => NF.out.1 (.inl e)
      have gs9 := o9.heap nz0 (KR.out.heap (by simp) G0.out)
      have gz9 := o9.heap nz1 (KR.out.heap (by simp) G1.out)
      have r9 := (R1.out.keep KR.out).fo o9 (fun k e => (A1.out.keep KR.out).noI k (.inl e))
      have A9 := Lib.hid hs9.1; have P9 := Lib.hid hs9.2; have GS9 := Lib.hid gs9; have GZ9 := Lib.hid gz9; have R9 := Lib.hid r9; have HW9 := Lib.hid hw9
      have SZ9 : RowKit.Hid (w.heap.size + 1 < wr.heap.size) := Lib.hid (by have := SW.out; have := KR.out.size; omega)
      clear hw9 hs9 o9 nz0 nz1 gs9 gz9 r9
      go_upto_region 10 with fail
      rw [← HW9.out]
      clear cv fv cv1 fv1
      obtain ⟨cv, fv⟩ := A9.out.cell
      obtain ⟨cv1, fv1⟩ := A9.out.cell1
      have C1 := Lib.hid cv1
      clear cv1 fv1
      refine wp_region_held_drew (S := fun V => Kept w9 V []) (by kernel_rfl) (Kept.refl w9 []).drew (fun hHeld => ?_)
      refine wpAnyH_take (i := 0) (oi := _) (v := .pointer (some ⟨h, 0, none⟩)) rfl (by kernel_rfl) (by kernel_rfl) (by kernel_rfl) (fun _ _ _ h => h) (Or.inl ⟨by rfl, fun V hV => by go_simp⟩) hHeld ?_
      change wpAnyH _ _ _ _ _ _ _ (Act.put _ (some 59) _) _
      simp only [Act.put, List.setIfInBounds_toArray, List.set_cons_zero, List.set_cons_succ]
      refine wpAnyH_take (i := 1) (oi := _) (v := .pointer (some ⟨h, 0, none⟩)) rfl (by kernel_rfl) (by kernel_rfl) (by kernel_rfl) (fun _ _ _ h => h) (Or.inl ⟨by rfl, fun V hV => by go_simp⟩) hHeld ?_
      change wpAnyH _ _ _ _ _ _ _ (Act.put _ (some 60) _) _
      simp only [Act.put, List.setIfInBounds_toArray, List.set_cons_zero, List.set_cons_succ]
      refine wpAnyH_take (i := 2) (oi := _) (v := .pointer (some ⟨h, 1, none⟩)) rfl (by kernel_rfl) (by kernel_rfl) (by kernel_rfl) (fun _ _ _ h => h) (Or.inl ⟨by rfl, fun V hV => by go_simp⟩) hHeld ?_
      change wpAnyH _ _ _ _ _ _ _ (Act.put _ (some 61) _) _
      simp only [Act.put, List.setIfInBounds_toArray, List.set_cons_zero, List.set_cons_succ]
      refine wpAnyH_take (i := 3) (oi := _) (v := .int .i64 (L + 1)) rfl (by kernel_rfl) (by kernel_rfl) (by kernel_rfl) (fun _ _ _ h => h) (Or.inl ⟨by rfl, fun V hV => by (have c1 := hV.cell (p := ⟨h, 1, none⟩) (by simp) C1.out; clear hV; go_simp)⟩) hHeld ?_
      change wpAnyH _ _ _ _ _ _ _ (Act.put _ (some 62) _) _
      simp only [Act.put, List.setIfInBounds_toArray, List.set_cons_zero, List.set_cons_succ]
      refine wpAnyH_take (i := 4) (oi := _) (v := .agg #[.int .i64 M, .slice va l.length vc]) rfl (by kernel_rfl) (by kernel_rfl) (by kernel_rfl) (fun _ _ _ h => h) (Or.inl ⟨by rfl, fun V hV => by (obtain ⟨c0, c1⟩ := two_cells (hV.heap (by simp) GS9.out); clear hV; go_simp)⟩) hHeld ?_
      change wpAnyH _ _ _ _ _ _ _ (Act.put _ (some 63) _) _
      simp only [Act.put, List.setIfInBounds_toArray, List.set_cons_zero, List.set_cons_succ]
      refine wpAnyH_take (i := 5) (oi := _) (v := .int .i64 t) rfl (by kernel_rfl) (by kernel_rfl) (by kernel_rfl) (fun _ _ _ h => h) (Or.inl ⟨by rfl, fun V hV => by go_simp⟩) hHeld ?_
      change wpAnyH _ _ _ _ _ _ _ (Act.put _ (some 64) _) _
      simp only [Act.put, List.setIfInBounds_toArray, List.set_cons_zero, List.set_cons_succ]
      refine wpAnyH_take (i := 6) (oi := _) (v := .agg #[.int .i64 (L + 1), .int .i64 M, .slice va l.length vc, .int .i64 t]) rfl (by kernel_rfl) (by kernel_rfl) (by kernel_rfl) (fun _ _ _ h => h) (Or.inl ⟨by rfl, fun V hV => by go_simp⟩) hHeld ?_
      change wpAnyH _ _ _ _ _ _ _ (Act.put _ (some 65) _) _
      simp only [Act.put, List.setIfInBounds_toArray, List.set_cons_zero, List.set_cons_succ]
      refine wpAnyH_ready (rs := [7]) (by kernel_rfl) (by simp) ?_
      refine AllReadyH.cons (o := _) rfl (fun K hK => ?_) AllReadyH.nil
      go_simp
      refine hK.out _ _ ((Kept.refl w9 []).alloc zT4).drew (fun hHeld => ?_)
      clear hK K
      obtain ⟨wA, hwA⟩ : ∃ wA, wA = (w9.alloc zT4).drew := ⟨_, rfl⟩
      have kA : Kept w9 wA [] := by rw [hwA]; exact ((Kept.refl w9 []).alloc zT4).drew
      have gA : wA.heap[w9.heap.size]? = some zT4 := by rw [hwA]; exact heap_alloc_new w9 zT4
      rw [← hwA]
      clear hwA
      obtain ⟨p, hp⟩ : ∃ p, p = w9.heap.size := ⟨_, rfl⟩
      rw [← hp] at gA ⊢
      have sp : w9.heap.size ≤ p := by omega
      clear hp
      refine wpAnyH_ready (rs := [8]) (by kernel_rfl) (by simp) ?_
      refine AllReadyH.cons (o := _) rfl (fun K hK => ?_) AllReadyH.nil
      obtain ⟨c0, c1, c2, c3⟩ := tk_cells gA
      obtain ⟨f0, f1, f2, f3⟩ := tk_frozen gA
      go_simp
      clear c0 c1 c2 c3 f0 f1 f2 f3
      refine hK.out _ (set4 wA p (.int .i64 (L + 1)) (.int .i64 M) (.slice va l.length vc) (.int .i64 t)) (set4_kept kA sp _ _ _ _) (fun hHeld => ?_)
      clear hK K
      obtain ⟨wX, hwX⟩ : ∃ wX, wX = set4 wA p (.int .i64 (L + 1)) (.int .i64 M) (.slice va l.length vc) (.int .i64 t) := ⟨_, rfl⟩
      have kX : Kept w9 wX [] := by rw [hwX]; exact set4_kept kA sp _ _ _ _
      have gX : wX.heap[p]? = some (.cells #[.int .i64 (L + 1), .int .i64 M, .slice va l.length vc, .int .i64 t] 38 (0, 0)) := by rw [hwX]; exact set4_at gA _ _ _ _
      rw [← hwX]
      have KX := Lib.hid kX; have GX := Lib.hid gX; have SP := Lib.hid sp
      clear hwX kA gA sp kX gX cv fv
      refine wpAnyH_done (by kernel_rfl) ?_ _
      obtain ⟨cv, fv⟩ := (A9.out.keep KX.out).cell
      have hA0 : wX.ownsRow B 38 4 (.slice none 0 0) 0 [] := World.ownsRow_nil wX B 38 4
      have hBX : B ≤ wX.heap.size := (A9.out.keep KX.out).size
      have SRC := Lib.hid ((A9.out.keep KX.out).own.rd.src (P := Try.prog) (tx := 27) Try.underlying27)
      go_wp2_with (at_builtin; refine wpList_append_all _ rfl (.tmp 66) (.tmp 70) 27 27 rfl B 38 i0 _ 4 48 Try.underlying27 I.out.1 I.out.2.1 I.out.2.2.1 I.out.2.2.2 rfl (.slice none 0 0) 0 [] rfl hA0 (.slice u 0 cp) 0 (tcs []) rfl SRC.out (by unfold maxLen; omega) (by omega) hBX ?nextA)
      intro v2 w2 hown hf2 hg2 hl2
      have k2 : Kept wX w2 [] := (Kept.refl wX []).grown hg2 (fun k hk => by simp [Value.ownBlock] at hk)
      have o2 : OwnT w2 B 38 v2 [] := by unfold OwnT; simpa using hown
      have b2 : ∀ k, v2.ownBlock = some k → wX.heap.size ≤ k := fun k hk => by
        rcases hl2 with h1 | ⟨g, h1, h2⟩
        · rw [h1] at hk; simp [Value.ownBlock] at hk
        · rw [h1] at hk; simp only [Option.some.injEq] at hk; omega
      obtain ⟨v2a, v2c, hv2⟩ := o2.shape
      subst hv2
      have K22 := Lib.hid k2; have O2 := Lib.hid o2; have B2 := Lib.hid b2
      obtain ⟨d0, d1, d2, d3⟩ := tk_cells (k2.heap (by simp) GX.out)
      have oB : (w2.alloc (.cells (Tk.cs ⟨L + 1, M, va, vc, l, t⟩) 38)).ownsRow B 38 4 (.slice v2a 0 v2c) 0 (tcs []) := o2.kept ((Kept.refl w2 []).alloc _) (by simp)
      have bB : B ≤ (w2.alloc (.cells (Tk.cs ⟨L + 1, M, va, vc, l, t⟩) 38)).heap.size := by have := k2.size; simp; omega
      have kB : Kept w2 (w2.alloc (.cells (Tk.cs ⟨L + 1, M, va, vc, l, t⟩) 38)) [] := (Kept.refl w2 []).alloc _
      have OB := Lib.hid oB; have BB := Lib.hid bB; have KB := Lib.hid kB
      clear hA0 hBX hown hf2 hg2 hl2 k2 o2 b2 oB bB kB cv fv
      go_wp2_with (first | (at_builtin; refine wpList_append_all _ rfl (.tmp 73) (.tmp 75) 27 27 rfl B 38 i0 _ 4 48 Try.underlying27 I.out.1 I.out.2.1 I.out.2.2.1 I.out.2.2.2 rfl (.slice v2a 0 v2c) 0 (tcs []) rfl OB.out _ 1 (Tk.cs ⟨L + 1, M, va, vc, l, t⟩).toList rfl (src_tk ⟨L + 1, M, va, vc, l, t⟩ w2) (by unfold maxLen; omega) (by omega) BB.out ?nxtA) | (refine wpList_buildSlice_one _ rfl 27 (.tmp 74) rfl 38 i0 _ 4 Try.underlying27 I.out.1 I.out.2.1 I.out.2.2.1 (by decide) (by decide) (Tk.cs ⟨L + 1, M, va, vc, l, t⟩).toList rfl rfl ?_))
      intro v3 w3 hown hf3 hg3 hl3
      have kX3 : Kept wX w3 [] := (K22.out.trans KB.out (by simp)).grown hg3 (fun k hk => .inr (B2.out k hk))
      have k93 : Kept w9 w3 [] := KX.out.trans kX3 (by simp)
      have o3 : OwnT w3 B 38 v3 ([] ++ [⟨L + 1, M, va, vc, l, t⟩]) := by unfold OwnT; rw [← tcs_snoc, List.length_append]; exact hown
      have hv3 : ∀ k, v3.ownBlock = some k → (Value.slice u 0 cp).ownBlock = some k ∨ w9.heap.size ≤ k := fun k hk => by
        have s0 := KX.out.size
        rcases hl3 with h1 | ⟨g, h1, h2⟩
        · rw [h1] at hk; have := B2.out k hk; exact .inr (by omega)
        · rw [h1] at hk; simp only [Option.some.injEq] at hk; have := K22.out.size; have := KB.out.size; exact .inr (by omega)
      have rd3 : ∀ x ∈ [] ++ [(⟨L + 1, M, va, vc, l, t⟩ : Tk)], RdT w3 x.op x.l := by
        intro x hx
        rcases List.mem_append.1 hx with hx | hx
        · exact (A9.out.rd x hx).keep k93
        · obtain rfl := List.mem_singleton.1 hx
          exact R9.out.keep k93
      obtain ⟨⟨c9, f9⟩, t9, s9⟩ := A9.out.lay (Fo.ofKept k93 _) o3 rd3 hv3
      obtain ⟨v3a, v3c, hsv3⟩ := o3.shape
      subst hsv3
      obtain ⟨w4, hw4⟩ : ∃ w4, w4 = w3.setCell ⟨h, 0, none⟩ (.slice v3a ([] ++ [(⟨L + 1, M, va, vc, l, t⟩ : Tk)]).length v3c) := ⟨_, rfl⟩
      rw [← hw4] at t9 s9
      have o4 : Fo (fun k => k = h) w3 w4 := by rw [hw4]; exact Fo.setCell (O := fun k => k = h) (Fo.refl _ w3) (p := ⟨h, 0, none⟩) (.inl rfl) _
      have nph : p ≠ h := fun e => by have h1 := (A9.out.lt h (.inl rfl)).2; have := SP.out; omega
      have gp4 := o4.heap nph (kX3.heap (by simp) GX.out)
      have gz4 := o4.heap (fun e => NF.out.1 (.inl e)) (k93.heap (by simp) GZ9.out)
      have elen : ([] ++ [(⟨L + 1, M, va, vc, l, t⟩ : Tk)]).length = 1 := by simp
      rw [elen] at hw4
      have T9 := Lib.hid t9; have S9 := Lib.hid (P9.out.trans s9); have GP4 := Lib.hid gp4; have GZ4 := Lib.hid gz4; have HW4 := Lib.hid hw4
      rw [elen]
      clear hown hf3 hg3 hl3 kX3 k93 o3 hv3 rd3 t9 s9 hw4 o4 nph gp4 gz4 elen d0 d1 d2 d3
      go_upto_region 14 with fail
      rw [← HW4.out]
      clear c9 f9
      obtain ⟨d0, d1, d2, d3⟩ := tk_cells GP4.out
      obtain ⟨c0, c1, c2, c3⟩ := tk_cells GZ4.out
      obtain ⟨f0, f1, f2, f3⟩ := tk_frozen GZ4.out
      go_wp2
      refine bodyPost_ret (v := .tuple #[.agg #[.int .i64 (L + 1), .int .i64 M, .slice va l.length vc, .int .i64 t], .int .i64 0]) (by simp [results, Try.results14, go_sem, *]) rfl ?_
      exact RAddPost.yes (x1 := ⟨L + 1, M, va, vc, l, t⟩) HE.out HL.out (K1.out.trans KR.out (by simp)) SZ9.out NF.out.1 T9.out rfl S9.out GZ4.out _ _ _ _
    · obtain ⟨ys, y, hxs⟩ : ∃ ys y, xs = ys ++ [y] := by
        rcases List.eq_nil_or_concat xs with h1 | ⟨ys, y, h1⟩
        · exact absurd h1 hne
        · exact ⟨ys, y, by rw [h1, List.concat_eq_append]⟩
      have HXS := Lib.hid hxs
      have HF : RowKit.Hid (folB (xs.map Tk.pl) M l t = (decide (y.t ≤ t) && covB M y.M l y.l)) := Lib.hid (by rw [hxs]; exact folB_snoc ys y M l t)
      obtain ⟨rY, hyM, hyl⟩ := Okp.lastT (ys := ys) (y := y) (by rw [← hxs]; exact OK.out)
      have al := A1.out
      rw [hxs] at al
      obtain ⟨g, c', eV, q0, q1, q2, q3, hry⟩ := al.last
      have hlen : xs.length = ys.length + 1 := by rw [hxs]; simp
      have hsl : (Value.slice u (ys ++ [y]).length cp) = .slice u xs.length cp := by rw [hxs]
      rw [hsl] at eV
      simp only [Value.slice.injEq] at eV
      obtain ⟨eu, en, ec⟩ := eV
      clear en
      subst eu ec
      obtain ⟨N, hN⟩ : ∃ N, N = ys.length := ⟨_, rfl⟩
      have hN1 : xs.length = N + 1 := by rw [hN]; exact hlen
      rw [← hN] at q0 q1 q2 q3
      obtain ⟨y0, y1, ya, yc, y4, y5⟩ := y
      simp only [Tk.op] at *
      have Q : RowKit.Hid (W1.cell? ⟨h, 0, none⟩ = some (.slice (some ⟨g, 0, none⟩) xs.length cp) ∧ W1.cell? ⟨g, N * 4, none⟩ = some (.int .i64 y0) ∧ W1.cell? ⟨g, N * 4 + 1, none⟩ = some (.int .i64 y1) ∧ W1.cell? ⟨g, N * 4 + 2, none⟩ = some (.slice ya y4.length yc) ∧ W1.cell? ⟨g, N * 4 + 3, none⟩ = some (.int .i64 y5)) := Lib.hid ⟨cv, q0, q1, q2, q3⟩
      have RY := Lib.hid rY; have HRY := Lib.hid hry; have HN1 := Lib.hid hN1
      have hpos : (0 : Int) < (xs.length : Int) := by omega
      clear al q0 q1 q2 q3 hry rY hlen hsl hN hN1 hxs hne
      go_enter Try.func14, Try.ntmps14
      go_upto_region 1 with fail
      rw [← HW1.out]
      obtain ⟨j0, j1⟩ := two_cells G0.out
      go_wp2_with fail
      refine HR.out.mono ?_
      rintro e w2 ⟨rfl, k2⟩
      have K2 := Lib.hid k2
      clear cv j0 j1
      have cv := k2.cell (p := ⟨h, 0, none⟩) (by simp) Q.out.1
      clear k2
      go_upto_region 6 with fail
      go_cut [8] (fun s8 wx => ∃ p, s8 = .pointer (some ⟨p, 0, none⟩) ∧ RowKit.Hid (Kept w2 wx [] ∧ wx.heap[p]? = some (.cells #[.int .i64 y0, .int .i64 y1, .slice ya y4.length yc, .int .i64 y5] 38 (0, 0))))
      case first =>
        have n1 := HN1.out
        have m3 : (N : Int) < (xs.length : Int) := by omega
        have m4 : IntKind.i64.wrap ((xs.length : Int) - 1) = (N : Int) := by rw [IntKind.wrap_i64]; omega
        have m5 : (xs.length : Int) - 1 = (N : Int) := by omega
        have m6 : IntKind.i64.wrap (N : Int) = (N : Int) := by rw [IntKind.wrap_i64]; omega
        clear n1
        refine wp_region_held_drew (S := fun V => Kept w2 V []) (by kernel_rfl) (Kept.refl w2 []).drew (fun hHeld => ?_)
        refine wpAnyH_take (i := 0) (oi := _) (v := .pointer (some ⟨h, 0, none⟩)) rfl (by kernel_rfl) (by kernel_rfl) (by kernel_rfl) (fun _ _ _ h => h) (Or.inl ⟨by rfl, fun V hV => by go_simp⟩) hHeld ?_
        change wpAnyH _ _ _ _ _ _ _ (Act.put _ (some 28) _) _
        simp only [Act.put, List.setIfInBounds_toArray, List.set_cons_zero, List.set_cons_succ]
        refine wpAnyH_take (i := 1) (oi := _) (v := .pointer (some ⟨h, 0, none⟩)) rfl (by kernel_rfl) (by kernel_rfl) (by kernel_rfl) (fun _ _ _ h => h) (Or.inl ⟨by rfl, fun V hV => by go_simp⟩) hHeld ?_
        change wpAnyH _ _ _ _ _ _ _ (Act.put _ (some 29) _) _
        simp only [Act.put, List.setIfInBounds_toArray, List.set_cons_zero, List.set_cons_succ]
        refine wpAnyH_take (i := 2) (oi := _) (v := .pointer (some ⟨h, 0, none⟩)) rfl (by kernel_rfl) (by kernel_rfl) (by kernel_rfl) (fun _ _ _ h => h) (Or.inl ⟨by rfl, fun V hV => by go_simp⟩) hHeld ?_
        change wpAnyH _ _ _ _ _ _ _ (Act.put _ (some 30) _) _
        simp only [Act.put, List.setIfInBounds_toArray, List.set_cons_zero, List.set_cons_succ]
        refine wpAnyH_take (i := 3) (oi := _) (v := .slice (some ⟨g, 0, none⟩) xs.length cp) rfl (by kernel_rfl) (by kernel_rfl) (by kernel_rfl) (fun _ _ _ h => h) (Or.inl ⟨by rfl, fun V hV => by (have c0 := hV.cell (p := ⟨h, 0, none⟩) (by simp) (K2.out.cell (p := ⟨h, 0, none⟩) (by simp) Q.out.1); clear hV; go_simp)⟩) hHeld ?_
        change wpAnyH _ _ _ _ _ _ _ (Act.put _ (some 31) _) _
        simp only [Act.put, List.setIfInBounds_toArray, List.set_cons_zero, List.set_cons_succ]
        refine wpAnyH_take (i := 4) (oi := _) (v := .pointer (some ⟨h, 0, none⟩)) rfl (by kernel_rfl) (by kernel_rfl) (by kernel_rfl) (fun _ _ _ h => h) (Or.inl ⟨by rfl, fun V hV => by go_simp⟩) hHeld ?_
        change wpAnyH _ _ _ _ _ _ _ (Act.put _ (some 32) _) _
        simp only [Act.put, List.setIfInBounds_toArray, List.set_cons_zero, List.set_cons_succ]
        refine wpAnyH_take (i := 5) (oi := _) (v := .pointer (some ⟨h, 0, none⟩)) rfl (by kernel_rfl) (by kernel_rfl) (by kernel_rfl) (fun _ _ _ h => h) (Or.inl ⟨by rfl, fun V hV => by go_simp⟩) hHeld ?_
        change wpAnyH _ _ _ _ _ _ _ (Act.put _ (some 33) _) _
        simp only [Act.put, List.setIfInBounds_toArray, List.set_cons_zero, List.set_cons_succ]
        refine wpAnyH_take (i := 6) (oi := _) (v := .pointer (some ⟨h, 0, none⟩)) rfl (by kernel_rfl) (by kernel_rfl) (by kernel_rfl) (fun _ _ _ h => h) (Or.inl ⟨by rfl, fun V hV => by go_simp⟩) hHeld ?_
        change wpAnyH _ _ _ _ _ _ _ (Act.put _ (some 34) _) _
        simp only [Act.put, List.setIfInBounds_toArray, List.set_cons_zero, List.set_cons_succ]
        refine wpAnyH_take (i := 7) (oi := _) (v := .slice (some ⟨g, 0, none⟩) xs.length cp) rfl (by kernel_rfl) (by kernel_rfl) (by kernel_rfl) (fun _ _ _ h => h) (Or.inl ⟨by rfl, fun V hV => by (have c0 := hV.cell (p := ⟨h, 0, none⟩) (by simp) (K2.out.cell (p := ⟨h, 0, none⟩) (by simp) Q.out.1); clear hV; go_simp)⟩) hHeld ?_
        change wpAnyH _ _ _ _ _ _ _ (Act.put _ (some 35) _) _
        simp only [Act.put, List.setIfInBounds_toArray, List.set_cons_zero, List.set_cons_succ]
        refine wpAnyH_take (i := 8) (oi := _) (v := .int .i64 xs.length) rfl (by kernel_rfl) (by kernel_rfl) (by kernel_rfl) (fun _ _ _ h => h) (Or.inl ⟨by rfl, fun V hV => by go_simp⟩) hHeld ?_
        change wpAnyH _ _ _ _ _ _ _ (Act.put _ (some 36) _) _
        simp only [Act.put, List.setIfInBounds_toArray, List.set_cons_zero, List.set_cons_succ]
        refine wpAnyH_take (i := 9) (oi := _) (v := .int .i64 N) rfl (by kernel_rfl) (by kernel_rfl) (by kernel_rfl) (fun _ _ _ h => h) (Or.inl ⟨by rfl, fun V hV => by go_simp⟩) hHeld ?_
        change wpAnyH _ _ _ _ _ _ _ (Act.put _ (some 37) _) _
        simp only [Act.put, List.setIfInBounds_toArray, List.set_cons_zero, List.set_cons_succ]
        refine wpAnyH_take (i := 10) (oi := _) (v := .pointer (some ⟨g, N * 4, none⟩)) rfl (by kernel_rfl) (by kernel_rfl) (by kernel_rfl) (fun _ _ _ h => h) (Or.inl ⟨by rfl, fun V hV => by go_simp⟩) hHeld ?_
        change wpAnyH _ _ _ _ _ _ _ (Act.put _ (some 38) _) _
        simp only [Act.put, List.setIfInBounds_toArray, List.set_cons_zero, List.set_cons_succ]
        refine wpAnyH_take (i := 11) (oi := _) (v := .agg #[.int .i64 y0, .int .i64 y1, .slice ya y4.length yc, .int .i64 y5]) rfl (by kernel_rfl) (by kernel_rfl) (by kernel_rfl) (fun _ _ _ h => h) (Or.inl ⟨by rfl, fun V hV => by (obtain ⟨_, e0, e1, e2, e3⟩ := Q.out; have c0 := hV.cell (p := ⟨g, N * 4, none⟩) (by simp) (K2.out.cell (by simp) e0); have c1 := hV.cell (p := ⟨g, N * 4 + 1, none⟩) (by simp) (K2.out.cell (by simp) e1); have c2 := hV.cell (p := ⟨g, N * 4 + 2, none⟩) (by simp) (K2.out.cell (by simp) e2); have c3 := hV.cell (p := ⟨g, N * 4 + 3, none⟩) (by simp) (K2.out.cell (by simp) e3); clear hV e0 e1 e2 e3; go_simp)⟩) hHeld ?_
        change wpAnyH _ _ _ _ _ _ _ (Act.put _ (some 39) _) _
        simp only [Act.put, List.setIfInBounds_toArray, List.set_cons_zero, List.set_cons_succ]
        refine wpAnyH_ready (rs := [12]) (by kernel_rfl) (by simp) ?_
        refine AllReadyH.cons (o := _) rfl (fun K hK => ?_) AllReadyH.nil
        go_simp
        refine hK.out _ _ ((Kept.refl w2 []).alloc zT4).drew (fun hHeld => ?_)
        clear hK K
        obtain ⟨wA, hwA⟩ : ∃ wA, wA = (w2.alloc zT4).drew := ⟨_, rfl⟩
        have kA : Kept w2 wA [] := by rw [hwA]; exact ((Kept.refl w2 []).alloc zT4).drew
        have gA : wA.heap[w2.heap.size]? = some zT4 := by rw [hwA]; exact heap_alloc_new w2 zT4
        rw [← hwA]
        clear hwA
        obtain ⟨p, hp⟩ : ∃ p, p = w2.heap.size := ⟨_, rfl⟩
        rw [← hp] at gA ⊢
        have sp : w2.heap.size ≤ p := by omega
        clear hp
        refine wpAnyH_ready (rs := [13]) (by kernel_rfl) (by simp) ?_
        refine AllReadyH.cons (o := _) rfl (fun K hK => ?_) AllReadyH.nil
        obtain ⟨c0, c1, c2, c3⟩ := tk_cells gA
        obtain ⟨f0, f1, f2, f3⟩ := tk_frozen gA
        go_simp
        clear c0 c1 c2 c3 f0 f1 f2 f3
        refine hK.out _ (set4 wA p (.int .i64 y0) (.int .i64 y1) (.slice ya y4.length yc) (.int .i64 y5)) (set4_kept kA sp _ _ _ _) (fun hHeld => ?_)
        clear hK K
        refine wpAnyH_done (by kernel_rfl) ?_ _
        go_wp2_with fail
        go_meet
        exact ⟨p, rfl, set4_kept kA sp _ _ _ _, set4_at gA _ _ _ _⟩
      case rest =>
        obtain ⟨pq, rfl, HP⟩ := hcut
        have hg0 := (K2.out.trans HP.out.1 (by simp)).heap (by simp) G0.out
        obtain ⟨j0, j1⟩ := two_cells hg0
        obtain ⟨d0, d1, d2, d3⟩ := tk_cells HP.out.2
        have CV := Lib.hid (rcovers_any M y1 _ _ l y4 wc ((R1.out.keep K2.out).keep HP.out.1).1 ((HRY.out.keep K2.out).keep HP.out.1).1 HRT.out RY.out hM hyM hll hyl)
        clear cv hg0
        obtain ⟨C, hC⟩ : ∃ C, C = covB M y1 l y4 := ⟨_, rfl⟩
        have HC := Lib.hid hC
        clear hC
        go_wp2_with fail
        refine CV.out.mono ?_
        rintro e w3 ⟨r, rfl, hr, k3⟩
        obtain rfl : r = C := by rw [Bool.eq_iff_iff, hr, HC.out, covB_iff HRT.out RY.out]
        have K3 := Lib.hid ((K2.out.trans HP.out.1 (by simp)).trans k3 (by simp))
        have hgp := k3.heap (by simp) HP.out.2
        clear hr k3 j0 j1 d0 d1 d2 d3
        obtain ⟨d0, d1, d2, d3⟩ := tk_cells hgp
        clear hgp
        have gz3 := K3.out.heap (by simp) G1.out
        have GZ3 := Lib.hid gz3
        cases r with
        | false =>
          have HE : RowKit.Hid (addE (xs.map Tk.pl) M l t = 1) := Lib.hid (by rw [EE.out, HF.out, ← HC.out]; simp)
          obtain ⟨c0, c1, c2, c3⟩ := tk_cells gz3
          obtain ⟨f0, f1, f2, f3⟩ := tk_frozen gz3
          clear gz3
          go_wp2
          refine bodyPost_ret (v := .tuple #[.agg #[.int .i64 0, .int .i64 0, .slice none 0 0, .int .i64 0], .int .i64 1]) (by simp [results, Try.results14, go_sem, *]) rfl ?_
          exact RAddPost.no HE.out (by decide) A0.out (K1.out.trans K3.out (by simp)) GZ3.out _ _ _ _
        | true =>
          by_cases hge : y5 ≤ t
          · have HE : RowKit.Hid (addE (xs.map Tk.pl) M l t = 0) := Lib.hid (by rw [EE.out, HF.out, ← HC.out]; simp [hge])
            have hgt : ¬ t < y5 := by omega
            obtain ⟨wr, hwr⟩ : ∃ wr, wr = w3 := ⟨_, rfl⟩
            subst hwr
            have KR := K3
            obtain ⟨cv, fv⟩ := (A1.out.keep KR.out).cell
            clear gz3 EE HF HXS
            obtain ⟨cv1, fv1⟩ := (A1.out.keep KR.out).cell1
            have m1 : IntKind.i64.wrap (L + 1) = L + 1 := by rw [IntKind.wrap_i64]; omega
            have m2 : wrap64 (L + 1) = L + 1 := by simp only [wrap64]; omega
            rw [← HL.out] at cv1
            obtain ⟨w9, hw9⟩ : ∃ w9, w9 = wr.setCell ⟨h, 1, none⟩ (.int .i64 (L + 1)) := ⟨_, rfl⟩
            have hs9 := (A1.out.keep KR.out).set1 (.int .i64 (L + 1))
            rw [← hw9] at hs9
            have o9 : Fo (fun k => k = h) wr w9 := by rw [hw9]; exact Fo.setCell (O := fun k => k = h) (Fo.refl _ wr) (p := ⟨h, 1, none⟩) (.inl rfl) _
            have nz0 : w.heap.size ≠ h := fun e => NF.out.2 (.inl e)
            have nz1 : w.heap.size + 1 ≠ h := fun e => NF.out.1 (.inl e)
            have gs9 := o9.heap nz0 (KR.out.heap (by simp) G0.out)
            have gz9 := o9.heap nz1 (KR.out.heap (by simp) G1.out)
            have r9 := (R1.out.keep KR.out).fo o9 (fun k e => (A1.out.keep KR.out).noI k (.inl e))
            have A9 := Lib.hid hs9.1; have P9 := Lib.hid hs9.2; have GS9 := Lib.hid gs9; have GZ9 := Lib.hid gz9; have R9 := Lib.hid r9; have HW9 := Lib.hid hw9
            have SZ9 : RowKit.Hid (w.heap.size + 1 < wr.heap.size) := Lib.hid (by have := SW.out; have := KR.out.size; omega)
            clear hw9 hs9 o9 nz0 nz1 gs9 gz9 r9
            go_upto_region 10 with fail
            rw [← HW9.out]
            clear cv fv cv1 fv1
            obtain ⟨cv, fv⟩ := A9.out.cell
            obtain ⟨cv1, fv1⟩ := A9.out.cell1
            have C1 := Lib.hid cv1
            clear cv1 fv1
            refine wp_region_held_drew (S := fun V => Kept w9 V []) (by kernel_rfl) (Kept.refl w9 []).drew (fun hHeld => ?_)
            refine wpAnyH_take (i := 0) (oi := _) (v := .pointer (some ⟨h, 0, none⟩)) rfl (by kernel_rfl) (by kernel_rfl) (by kernel_rfl) (fun _ _ _ h => h) (Or.inl ⟨by rfl, fun V hV => by go_simp⟩) hHeld ?_
            change wpAnyH _ _ _ _ _ _ _ (Act.put _ (some 59) _) _
            simp only [Act.put, List.setIfInBounds_toArray, List.set_cons_zero, List.set_cons_succ]
            refine wpAnyH_take (i := 1) (oi := _) (v := .pointer (some ⟨h, 0, none⟩)) rfl (by kernel_rfl) (by kernel_rfl) (by kernel_rfl) (fun _ _ _ h => h) (Or.inl ⟨by rfl, fun V hV => by go_simp⟩) hHeld ?_
            change wpAnyH _ _ _ _ _ _ _ (Act.put _ (some 60) _) _
            simp only [Act.put, List.setIfInBounds_toArray, List.set_cons_zero, List.set_cons_succ]
            refine wpAnyH_take (i := 2) (oi := _) (v := .pointer (some ⟨h, 1, none⟩)) rfl (by kernel_rfl) (by kernel_rfl) (by kernel_rfl) (fun _ _ _ h => h) (Or.inl ⟨by rfl, fun V hV => by go_simp⟩) hHeld ?_
            change wpAnyH _ _ _ _ _ _ _ (Act.put _ (some 61) _) _
            simp only [Act.put, List.setIfInBounds_toArray, List.set_cons_zero, List.set_cons_succ]
            refine wpAnyH_take (i := 3) (oi := _) (v := .int .i64 (L + 1)) rfl (by kernel_rfl) (by kernel_rfl) (by kernel_rfl) (fun _ _ _ h => h) (Or.inl ⟨by rfl, fun V hV => by (have c1 := hV.cell (p := ⟨h, 1, none⟩) (by simp) C1.out; clear hV; go_simp)⟩) hHeld ?_
            change wpAnyH _ _ _ _ _ _ _ (Act.put _ (some 62) _) _
            simp only [Act.put, List.setIfInBounds_toArray, List.set_cons_zero, List.set_cons_succ]
            refine wpAnyH_take (i := 4) (oi := _) (v := .agg #[.int .i64 M, .slice va l.length vc]) rfl (by kernel_rfl) (by kernel_rfl) (by kernel_rfl) (fun _ _ _ h => h) (Or.inl ⟨by rfl, fun V hV => by (obtain ⟨c0, c1⟩ := two_cells (hV.heap (by simp) GS9.out); clear hV; go_simp)⟩) hHeld ?_
            change wpAnyH _ _ _ _ _ _ _ (Act.put _ (some 63) _) _
            simp only [Act.put, List.setIfInBounds_toArray, List.set_cons_zero, List.set_cons_succ]
            refine wpAnyH_take (i := 5) (oi := _) (v := .int .i64 t) rfl (by kernel_rfl) (by kernel_rfl) (by kernel_rfl) (fun _ _ _ h => h) (Or.inl ⟨by rfl, fun V hV => by go_simp⟩) hHeld ?_
            change wpAnyH _ _ _ _ _ _ _ (Act.put _ (some 64) _) _
            simp only [Act.put, List.setIfInBounds_toArray, List.set_cons_zero, List.set_cons_succ]
            refine wpAnyH_take (i := 6) (oi := _) (v := .agg #[.int .i64 (L + 1), .int .i64 M, .slice va l.length vc, .int .i64 t]) rfl (by kernel_rfl) (by kernel_rfl) (by kernel_rfl) (fun _ _ _ h => h) (Or.inl ⟨by rfl, fun V hV => by go_simp⟩) hHeld ?_
            change wpAnyH _ _ _ _ _ _ _ (Act.put _ (some 65) _) _
            simp only [Act.put, List.setIfInBounds_toArray, List.set_cons_zero, List.set_cons_succ]
            refine wpAnyH_ready (rs := [7]) (by kernel_rfl) (by simp) ?_
            refine AllReadyH.cons (o := _) rfl (fun K hK => ?_) AllReadyH.nil
            go_simp
            refine hK.out _ _ ((Kept.refl w9 []).alloc zT4).drew (fun hHeld => ?_)
            clear hK K
            obtain ⟨wA, hwA⟩ : ∃ wA, wA = (w9.alloc zT4).drew := ⟨_, rfl⟩
            have kA : Kept w9 wA [] := by rw [hwA]; exact ((Kept.refl w9 []).alloc zT4).drew
            have gA : wA.heap[w9.heap.size]? = some zT4 := by rw [hwA]; exact heap_alloc_new w9 zT4
            rw [← hwA]
            clear hwA
            obtain ⟨p, hp⟩ : ∃ p, p = w9.heap.size := ⟨_, rfl⟩
            rw [← hp] at gA ⊢
            have sp : w9.heap.size ≤ p := by omega
            clear hp
            refine wpAnyH_ready (rs := [8]) (by kernel_rfl) (by simp) ?_
            refine AllReadyH.cons (o := _) rfl (fun K hK => ?_) AllReadyH.nil
            obtain ⟨c0, c1, c2, c3⟩ := tk_cells gA
            obtain ⟨f0, f1, f2, f3⟩ := tk_frozen gA
            go_simp
            clear c0 c1 c2 c3 f0 f1 f2 f3
            refine hK.out _ (set4 wA p (.int .i64 (L + 1)) (.int .i64 M) (.slice va l.length vc) (.int .i64 t)) (set4_kept kA sp _ _ _ _) (fun hHeld => ?_)
            clear hK K
            obtain ⟨wX, hwX⟩ : ∃ wX, wX = set4 wA p (.int .i64 (L + 1)) (.int .i64 M) (.slice va l.length vc) (.int .i64 t) := ⟨_, rfl⟩
            have kX : Kept w9 wX [] := by rw [hwX]; exact set4_kept kA sp _ _ _ _
            have gX : wX.heap[p]? = some (.cells #[.int .i64 (L + 1), .int .i64 M, .slice va l.length vc, .int .i64 t] 38 (0, 0)) := by rw [hwX]; exact set4_at gA _ _ _ _
            rw [← hwX]
            have KX := Lib.hid kX; have GX := Lib.hid gX; have SP := Lib.hid sp
            clear hwX kA gA sp kX gX cv fv
            refine wpAnyH_done (by kernel_rfl) ?_ _
            obtain ⟨cv, fv⟩ := (A9.out.keep KX.out).cell
            have hA0 : wX.ownsRow B 38 4 (.slice none 0 0) 0 [] := World.ownsRow_nil wX B 38 4
            have hBX : B ≤ wX.heap.size := (A9.out.keep KX.out).size
            have SRC := Lib.hid ((A9.out.keep KX.out).own.rd.src (P := Try.prog) (tx := 27) Try.underlying27)
            go_wp2_with (at_builtin; refine wpList_append_all _ rfl (.tmp 66) (.tmp 70) 27 27 rfl B 38 i0 _ 4 48 Try.underlying27 I.out.1 I.out.2.1 I.out.2.2.1 I.out.2.2.2 rfl (.slice none 0 0) 0 [] rfl hA0 (.slice (some ⟨g, 0, none⟩) xs.length cp) xs.length (tcs xs) rfl SRC.out (by unfold maxLen; omega) (by omega) hBX ?nextB)
            intro v2 w2 hown hf2 hg2 hl2
            have k2 : Kept wX w2 [] := (Kept.refl wX []).grown hg2 (fun k hk => by simp [Value.ownBlock] at hk)
            have o2 : OwnT w2 B 38 v2 xs := by unfold OwnT; simpa using hown
            have b2 : ∀ k, v2.ownBlock = some k → wX.heap.size ≤ k := fun k hk => by
              rcases hl2 with h1 | ⟨g, h1, h2⟩
              · rw [h1] at hk; simp [Value.ownBlock] at hk
              · rw [h1] at hk; simp only [Option.some.injEq] at hk; omega
            obtain ⟨v2a, v2c, hv2⟩ := o2.shape
            subst hv2
            have K22 := Lib.hid k2; have O2 := Lib.hid o2; have B2 := Lib.hid b2
            obtain ⟨d0, d1, d2, d3⟩ := tk_cells (k2.heap (by simp) GX.out)
            have oB : (w2.alloc (.cells (Tk.cs ⟨L + 1, M, va, vc, l, t⟩) 38)).ownsRow B 38 4 (.slice v2a xs.length v2c) xs.length (tcs xs) := o2.kept ((Kept.refl w2 []).alloc _) (by simp)
            have bB : B ≤ (w2.alloc (.cells (Tk.cs ⟨L + 1, M, va, vc, l, t⟩) 38)).heap.size := by have := k2.size; simp; omega
            have kB : Kept w2 (w2.alloc (.cells (Tk.cs ⟨L + 1, M, va, vc, l, t⟩) 38)) [] := (Kept.refl w2 []).alloc _
            have OB := Lib.hid oB; have BB := Lib.hid bB; have KB := Lib.hid kB
            clear hA0 hBX hown hf2 hg2 hl2 k2 o2 b2 oB bB kB cv fv
            go_wp2_with (first | (at_builtin; refine wpList_append_all _ rfl (.tmp 73) (.tmp 75) 27 27 rfl B 38 i0 _ 4 48 Try.underlying27 I.out.1 I.out.2.1 I.out.2.2.1 I.out.2.2.2 rfl (.slice v2a xs.length v2c) xs.length (tcs xs) rfl OB.out _ 1 (Tk.cs ⟨L + 1, M, va, vc, l, t⟩).toList rfl (src_tk ⟨L + 1, M, va, vc, l, t⟩ w2) (by unfold maxLen; omega) (by omega) BB.out ?nxtB) | (refine wpList_buildSlice_one _ rfl 27 (.tmp 74) rfl 38 i0 _ 4 Try.underlying27 I.out.1 I.out.2.1 I.out.2.2.1 (by decide) (by decide) (Tk.cs ⟨L + 1, M, va, vc, l, t⟩).toList rfl rfl ?_))
            intro v3 w3 hown hf3 hg3 hl3
            have kX3 : Kept wX w3 [] := (K22.out.trans KB.out (by simp)).grown hg3 (fun k hk => .inr (B2.out k hk))
            have k93 : Kept w9 w3 [] := KX.out.trans kX3 (by simp)
            have o3 : OwnT w3 B 38 v3 (xs ++ [⟨L + 1, M, va, vc, l, t⟩]) := by unfold OwnT; rw [← tcs_snoc, List.length_append]; exact hown
            have hv3 : ∀ k, v3.ownBlock = some k → (Value.slice (some ⟨g, 0, none⟩) xs.length cp).ownBlock = some k ∨ w9.heap.size ≤ k := fun k hk => by
              have s0 := KX.out.size
              rcases hl3 with h1 | ⟨g, h1, h2⟩
              · rw [h1] at hk; have := B2.out k hk; exact .inr (by omega)
              · rw [h1] at hk; simp only [Option.some.injEq] at hk; have := K22.out.size; have := KB.out.size; exact .inr (by omega)
            have rd3 : ∀ x ∈ xs ++ [(⟨L + 1, M, va, vc, l, t⟩ : Tk)], RdT w3 x.op x.l := by
              intro x hx
              rcases List.mem_append.1 hx with hx | hx
              · exact (A9.out.rd x hx).keep k93
              · obtain rfl := List.mem_singleton.1 hx
                exact R9.out.keep k93
            obtain ⟨⟨c9, f9⟩, t9, s9⟩ := A9.out.lay (Fo.ofKept k93 _) o3 rd3 hv3
            obtain ⟨v3a, v3c, hsv3⟩ := o3.shape
            subst hsv3
            obtain ⟨w4, hw4⟩ : ∃ w4, w4 = w3.setCell ⟨h, 0, none⟩ (.slice v3a (xs ++ [(⟨L + 1, M, va, vc, l, t⟩ : Tk)]).length v3c) := ⟨_, rfl⟩
            rw [← hw4] at t9 s9
            have o4 : Fo (fun k => k = h) w3 w4 := by rw [hw4]; exact Fo.setCell (O := fun k => k = h) (Fo.refl _ w3) (p := ⟨h, 0, none⟩) (.inl rfl) _
            have nph : p ≠ h := fun e => by have h1 := (A9.out.lt h (.inl rfl)).2; have := SP.out; omega
            have gp4 := o4.heap nph (kX3.heap (by simp) GX.out)
            have gz4 := o4.heap (fun e => NF.out.1 (.inl e)) (k93.heap (by simp) GZ9.out)
            have elen : (xs ++ [(⟨L + 1, M, va, vc, l, t⟩ : Tk)]).length = xs.length + 1 := by simp
            rw [elen] at hw4
            have T9 := Lib.hid t9; have S9 := Lib.hid (P9.out.trans s9); have GP4 := Lib.hid gp4; have GZ4 := Lib.hid gz4; have HW4 := Lib.hid hw4
            rw [elen]
            clear hown hf3 hg3 hl3 kX3 k93 o3 hv3 rd3 t9 s9 hw4 o4 nph gp4 gz4 elen d0 d1 d2 d3
            go_upto_region 14 with fail
            rw [← HW4.out]
            clear c9 f9
            obtain ⟨d0, d1, d2, d3⟩ := tk_cells GP4.out
            obtain ⟨c0, c1, c2, c3⟩ := tk_cells GZ4.out
            obtain ⟨f0, f1, f2, f3⟩ := tk_frozen GZ4.out
            go_wp2
            refine bodyPost_ret (v := .tuple #[.agg #[.int .i64 (L + 1), .int .i64 M, .slice va l.length vc, .int .i64 t], .int .i64 0]) (by simp [results, Try.results14, go_sem, *]) rfl ?_
            exact RAddPost.yes (x1 := ⟨L + 1, M, va, vc, l, t⟩) HE.out HL.out (K1.out.trans KR.out (by simp)) SZ9.out NF.out.1 T9.out rfl S9.out GZ4.out _ _ _ _
          · have HE : RowKit.Hid (addE (xs.map Tk.pl) M l t = 1) := Lib.hid (by rw [EE.out, HF.out, ← HC.out]; simp [hge])
            have hgt : t < y5 := by omega
            obtain ⟨c0, c1, c2, c3⟩ := tk_cells gz3
            obtain ⟨f0, f1, f2, f3⟩ := tk_frozen gz3
            clear gz3 hge
            go_wp2
            refine bodyPost_ret (v := .tuple #[.agg #[.int .i64 0, .int .i64 0, .slice none 0 0, .int .i64 0], .int .i64 1]) (by simp [results, Try.results14, go_sem, *]) rfl ?_
            exact RAddPost.no HE.out (by decide) A0.out (K1.out.trans K3.out (by simp)) GZ3.out _ _ _ _

end Go.Proofs.Ytodfjpjjcgdmeaa
