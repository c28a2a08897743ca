/-
  Proved: whatever the arguments are, carrierlaw11.TickRises answers true and leaves its arguments as they were. No condition.
-/
import Derived.Test.YtodfjpjjcgdmeaaKm
namespace Go.Proofs.Ytodfjpjjcgdmeaa.tickRises
open Go.ChangeShapes Go.WideShapes Go.ChangeAt Go.RowKit
set_option linter.unusedVariables false

theorem own : ownKnob Try.prog.godebug = none := by kernel_rfl
theorem laidOut : laidOutB Try.prog = true := by kernel_rfl

theorem first_add {M : Int} {l : List Int} (h : rightB M l = true) (t : Int) : addE [] M l t = 0 ∧ addP [] M l t = ⟨1, M, l, t⟩ ∧ addS [] M l t = [⟨1, M, l, t⟩] := by
  have e : addE [] M l t = 0 := by unfold addE folB; simp [h]
  exact ⟨e, by unfold addP; rw [if_pos e]; rfl, by unfold addS; rw [if_pos e]; rfl⟩
theorem then_add {M N : Int} {l m : List Int} (h : rightB N m = true) (t u : Int) : addE [⟨1, M, l, t⟩] N m u = if decide (t ≤ u) && covB N M m l then 0 else 1 := by
  unfold addE folB
  simp [h]
/-- The same, and that its blocks lie below b. -/
def CkB (b : Nat) (w0 w : World) (h : Nat) (ps : List Pt) : Prop := ∃ V xs, Tc tkT [] w w0.heap.size h V xs ∧ xs.map Tk.pl = ps ∧ Kept w0 w [] ∧ ∀ k, tfoot h V k → k < b
theorem ckB {w0 w : World} {h : Nat} {ps : List Pt} (c : Ck w0 w h ps) : CkB w.heap.size w0 w h ps := by
  obtain ⟨V, xs, a, e, k⟩ := c
  exact ⟨V, xs, a, e, k, fun j hj => (a.lt j hj).2⟩
theorem CkB.keep {b : Nat} {w0 w w' : World} {h : Nat} {ps : List Pt} (c : CkB b w0 w h ps) (k : Kept w w' []) : CkB b w0 w' h ps := by
  obtain ⟨V, xs, a, e, k0, hb⟩ := c
  exact ⟨V, xs, a.keep k, e, k0.trans k (by simp), hb⟩
theorem CkB.kept {b : Nat} {w0 w : World} {h : Nat} {ps : List Pt} (c : CkB b w0 w h ps) : Kept w0 w [] := by
  obtain ⟨V, xs, a, e, k0, hb⟩ := c
  exact k0
theorem ckb_add {b : Nat} {w0 w : World} {h : Nat} {ps : List Pt} (c : CkB b w0 w h ps) (ok : Okp ps) (M : Int) (va : Option Addr) (vc : Nat) (l : List Int) (t : Int) (hr : RdT w (.slice va l.length vc) l) (hM : M ≤ 9223372036854775807) (hll : l.length ≤ 1000) (hlast : lastN ps ≤ 1099511627776) :
    Calls Try.prog 13 #[.pointer (some ⟨h, 0, none⟩), .agg #[.int .i64 M, .slice va l.length vc], .int .i64 t] w fun e w' =>
      ∃ y : Tk, e = .returned (.tuple #[.agg y.cs, .int .i64 (addE ps M l t)]) ∧ y.pl = addP ps M l t ∧ RdT w' y.op y.l ∧ Ck w0 w' h (addS ps M l t) ∧ ∀ k o, b ≤ k → w.heap[k]? = some o → w'.heap[k]? = some o := by
  obtain ⟨V, xs, a, rfl, k0, hb⟩ := c
  refine (tkadd_any a ok M va vc l t hr hM hll hlast).mono ?_
  rintro e w' ⟨y, V', xs', rfl, h1, h2, h3, h4, h5, _⟩
  exact ⟨y, rfl, h1, h2, ⟨V', xs', h3, h4, k0.foK h5.1 (fun k hk => (a.lt k hk).1)⟩, fun k o hk ho => h5.1.heap (fun hf => by have := hb k hf; omega) ho⟩

theorem right_len {M : Int} {l : List Int} (h : rightB M l = true) (hM : M ≤ 40) : l.length ≤ 1000 := by
  have h0 := h
  have h1 := right_one h
  simp only [rightB, Bool.and_eq_true, decide_eq_true_eq] at h
  have := upB_len h.2 (by omega)
  omega

set_option maxHeartbeats 8000000 in
set_option maxRecDepth 100000 in
theorem walk (a0 : Int) (a1 : Int) (a2 : Option Addr) (len2 cap2 : Nat) (z2 : List Int) (a3 : Option Addr) (len3 cap3 : Nat) (z3 : List Int) (a4 a5 : Int) (W : World) (w0 : (Lit.int .u8 a0).wf = true) (w1 : (Lit.int .u8 a1).wf = true) (w2 : IsRow .u8 W a2 len2 cap2 z2) (w3 : IsRow .u8 W a3 len3 cap3 z3) (w4 : (Lit.int .i64 a4).wf = true) (w5 : (Lit.int .i64 a5).wf = true) :
    Calls Try.prog 5 #[.int .u8 a0, .int .u8 a1, .slice a2 len2 cap2, .slice a3 len3 cap3, .int .i64 a4, .int .i64 a5] W fun e w' => e = .returned (.bool true) ∧ Below W.heap.size W w' := by
  obtain ⟨a, rfl, ha⟩ := u8_nat w0
  obtain ⟨b, rfl, hb⟩ := u8_nat w1
  obtain ⟨os, rfl, hro⟩ := isRow_rd w2
  obtain ⟨ps, rfl, hrp⟩ := isRow_rd w3
  have Ro := Lib.hid hro; have Rp := Lib.hid hrp
  clear w0 w1 w2 w3 w4 w5 hro hrp
  by_cases h1 : (10 : Int) < (os.length : Int)
  · skip
    go_enter Try.func5, Try.ntmps5
    go_wp2_with fail
    refine (trims_any W).mono ?_
    rintro e w1 ⟨rfl, hk⟩
    have K := Lib.hid hk; clear hk
    go_wp2
    go_ret
    exact ⟨rfl, K.out.below (Nat.le_refl _) (by simp)⟩
  by_cases h2 : (10 : Int) < (ps.length : Int)
  · skip
    go_enter Try.func5, Try.ntmps5
    go_wp2_with fail
    refine (trims_any W).mono ?_
    rintro e w1 ⟨rfl, hk⟩
    have K := Lib.hid hk; clear hk
    go_wp2
    go_ret
    exact ⟨rfl, K.out.below (Nat.le_refl _) (by simp)⟩
  go_enter Try.func5, Try.ntmps5
  go_wp2_with fail
  refine (of_any a _ os W Ro.out (by omega)).mono ?_
  rintro e w1 ⟨M, v, l, rfl, hM, hR, ⟨av, cv, rfl⟩, hrd, hk⟩
  have R1 := Lib.hid hrd; have K1 := Lib.hid hk; have G1 := Lib.hid hR
  have hM40 : 1 ≤ M ∧ M ≤ 40 := by omega
  have hll := right_len hR hM40.2
  clear hR hk hrd hM
  go_wp2_with fail
  refine (of_any b _ ps w1 (Rp.out.kept K1.out (by simp)) (by omega)).mono ?_
  rintro e w2 ⟨N, u, m, rfl, hN, hR, ⟨au, cu, rfl⟩, hrd, hk⟩
  have R2 := Lib.hid hrd; have K2 := Lib.hid (K1.out.trans hk (by simp)); have R1 := Lib.hid (R1.out.keep hk); have G2 := Lib.hid hR
  have hN40 : 1 ≤ N ∧ N ≤ 40 := by omega
  have hlm := right_len hR hN40.2
  clear hR hk hrd hN
  obtain ⟨W3, hW3⟩ : ∃ W3, W3 = (w2.alloc (.cells #[.int .i64 M, .slice av l.length cv] 35)).alloc (.cells #[.int .i64 N, .slice au m.length cu] 35) := ⟨_, rfl⟩
  have kk : Kept w2 W3 [] := by rw [hW3]; exact ((Kept.refl w2 []).alloc _).alloc _
  have e1 : (w2.alloc (.cells #[.int .i64 M, .slice av l.length cv] 35)).heap.size = w2.heap.size + 1 := by simp
  have b1 : W3.heap[w2.heap.size]? = some (.cells #[.int .i64 M, .slice av l.length cv] 35 (0, 0)) := by rw [hW3]; exact (Below.heap_alloc _ _ _ (by simp)).trans (heap_alloc_new w2 _)
  have b2 : W3.heap[w2.heap.size + 1]? = some (.cells #[.int .i64 N, .slice au m.length cu] 35 (0, 0)) := by rw [hW3, ← e1]; exact heap_alloc_new _ _
  have BX := Lib.hid (And.intro b1 b2); have HW3 := Lib.hid hW3
  have R1 := Lib.hid (R1.out.keep kk); have R2 := Lib.hid (R2.out.keep kk)
  have K3 := Lib.hid (K2.out.trans kk (by simp))
  have CO := Lib.hid (fun U (hU : Kept W3 U []) => rcovers_any N M _ _ m l U ((R2.out.keep hU).1) ((R1.out.keep hU).1) G2.out G1.out (by omega) (by omega) hlm hll)
  have F1 := Lib.hid (first_add G1.out a4)
  have F2 := Lib.hid (then_add (M := M) (l := l) G2.out a4 a5)
  have OK1 : RowKit.Hid (Okp [⟨1, M, l, a4⟩]) := Lib.hid (by have := Okp.nil.add (M := M) (l := l) a4 (by omega) hll; rw [F1.out.2.2] at this; exact this)
  clear kk e1 b1 b2 hW3
  go_upto_region 4 with fail
  rw [← HW3.out]
  go_wp2_with fail
  refine (ck_new (Kept.refl W3 [])).mono ?_
  rintro e w4 ⟨h, rfl, c4⟩
  have C4 := Lib.hid c4; clear c4
  obtain ⟨j0, j1⟩ := two_cells (C4.out.kept.heap (by simp) BX.out.1)
  have hc := ck_add C4.out Okp.nil M av cv l a4 (R1.out.keep C4.out.kept) (by omega) hll (by simp [lastN])
  rw [F1.out.1, F1.out.2.1, F1.out.2.2] at hc
  have HA := Lib.hid hc; clear hc
  go_wp2_with fail
  refine HA.out.mono ?_
  rintro e w5 ⟨y, rfl, hy, _, c5⟩
  obtain ⟨y0, y1, ya, yc, y4, y5⟩ := y
  simp only [Tk.pl, Pt.mk.injEq] at hy
  obtain ⟨p0, p1, p2, p3⟩ := hy
  subst y0 y1 y4 y5
  simp only [Tk.cs]
  obtain ⟨w6, hw6⟩ : ∃ w6, w6 = w5.alloc (.cells #[.int .i64 1, .int .i64 M, .slice ya l.length yc, .int .i64 a4] 38) := ⟨_, rfl⟩
  obtain ⟨bx, hbx⟩ : ∃ b, b = w5.heap.size := ⟨_, rfl⟩
  have g6 : w6.heap[bx]? = some (.cells #[.int .i64 1, .int .i64 M, .slice ya l.length yc, .int .i64 a4] 38 (0, 0)) := by rw [hw6, hbx]; exact heap_alloc_new w5 _
  have c6 : CkB bx W3 w6 h [⟨1, M, l, a4⟩] := by rw [hw6, hbx]; exact (ckB c5).keep ((Kept.refl w5 []).alloc _)
  have G6 := Lib.hid g6; have C6 := Lib.hid c6; have HW6 := Lib.hid hw6; have HBX := Lib.hid hbx
  clear j0 j1 g6 c6 hw6 hbx c5 HA
  go_upto_region 6 with fail
  rw [← HW6.out, ← HBX.out]
  obtain ⟨j0, j1⟩ := two_cells (C6.out.kept.heap (by simp) BX.out.2)
  have hc := ckb_add C6.out OK1.out N au cu m a5 (R2.out.keep C6.out.kept) (by omega) hlm (by simp [lastN])
  have HA := Lib.hid hc; clear hc
  have HP : RowKit.Hid (addP [⟨1, M, l, a4⟩] N m a5 = if addE [⟨1, M, l, a4⟩] N m a5 = 0 then ⟨2, N, m, a5⟩ else ⟨0, 0, [], 0⟩) := Lib.hid rfl
  have HS : RowKit.Hid (addS [⟨1, M, l, a4⟩] N m a5 = if addE [⟨1, M, l, a4⟩] N m a5 = 0 then [⟨1, M, l, a4⟩, ⟨2, N, m, a5⟩] else [⟨1, M, l, a4⟩]) := Lib.hid rfl
  have OK2 := Lib.hid (OK1.out.add (M := N) (l := m) a5 (by omega) hlm)
  obtain ⟨C, hC⟩ : ∃ C, C = covB N M m l := ⟨_, rfl⟩
  have HC := Lib.hid hC
  clear hC
  cases C with
  | true =>
    by_cases hD : a4 ≤ a5
    · skip
      have HE : RowKit.Hid (addE [⟨1, M, l, a4⟩] N m a5 = 0) := Lib.hid (by rw [F2.out, ← HC.out]; simp [hD])
      rw [HP.out, HE.out, if_pos rfl] at HA
      have HA2 := Lib.hid HA.out
      go_wp2_with fail
      refine HA2.out.mono ?_
      rintro e w7 ⟨z, rfl, hz, _, c7, x7⟩
      rw [HS.out, HE.out] at c7
      rw [if_pos rfl] at c7
      obtain ⟨z0, z1, za, zc, z4, z5⟩ := z
      simp only [Tk.pl, Pt.mk.injEq] at hz
      obtain ⟨p0, p1, p2, p3⟩ := hz
      subst z0 z1 z4 z5
      simp only [Tk.cs]
      obtain ⟨w8, hw8⟩ : ∃ w8, w8 = w7.alloc (.cells #[.int .i64 2, .int .i64 N, .slice za m.length zc, .int .i64 a5] 38) := ⟨_, rfl⟩
      obtain ⟨bz, hbz⟩ : ∃ b, b = w7.heap.size := ⟨_, rfl⟩
      have g8 : w8.heap[bz]? = some (.cells #[.int .i64 2, .int .i64 N, .slice za m.length zc, .int .i64 a5] 38 (0, 0)) := by rw [hw8, hbz]; exact heap_alloc_new w7 _
      have c8 : Ck W3 w8 h [⟨1, M, l, a4⟩, ⟨2, N, m, a5⟩] := by rw [hw8]; exact c7.keep ((Kept.refl w7 []).alloc _)
      have X8 : RowKit.Hid (w8.heap[bx]? = some (.cells #[.int .i64 1, .int .i64 M, .slice ya l.length yc, .int .i64 a4] 38 (0, 0))) := Lib.hid (by rw [hw8]; exact ((Kept.refl w7 []).alloc _).heap (by simp) (x7 bx _ (Nat.le_refl _) G6.out))
      have G8 := Lib.hid g8; have C8 := Lib.hid c8; have HW8 := Lib.hid hw8; have HBZ := Lib.hid hbz
      clear j0 j1 g8 c8 hw8 hbz c7 HA HA2 x7
      go_upto_region 7 with fail
      rw [← HW8.out, ← HBZ.out]
      obtain ⟨j0, j1⟩ := two_cells (C8.out.kept.heap (by simp) BX.out.1)
      obtain ⟨i0, i1⟩ := two_cells (C8.out.kept.heap (by simp) BX.out.2)
      go_wp2_with fail
      refine (CO.out w8 C8.out.kept).mono ?_
      rintro e w9 ⟨r, rfl, hr, k9⟩
      obtain rfl : r = true := by
        have h1 : r = covB N M m l := by rw [Bool.eq_iff_iff, hr, covB_iff G2.out G1.out]
        rw [h1, ← HC.out]
      have C9 := Lib.hid (C8.out.keep k9)
      have G9 := Lib.hid (k9.heap (by simp) G8.out)
      have X9 := Lib.hid (k9.heap (by simp) X8.out)
      clear k9 hr j0 j1 i0 i1
      go_wp2_with fail
      refine (trims_any w9).mono ?_
      rintro e wA ⟨rfl, kA⟩
      have CA := Lib.hid (C9.out.keep kA)
      obtain ⟨t0, t1, t2, t3⟩ := tk_cells (kA.heap (by simp) X9.out)
      obtain ⟨s0, s1, s2, s3⟩ := tk_cells (kA.heap (by simp) G9.out)
      clear kA
      go_wp2
      go_ret
      exact ⟨rfl, (K3.out.trans CA.out.kept (by simp)).below (Nat.le_refl _) (by simp)⟩
    · skip
      have HE : RowKit.Hid (addE [⟨1, M, l, a4⟩] N m a5 = 1) := Lib.hid (by rw [F2.out, ← HC.out]; simp [hD])
      rw [HP.out, HE.out, if_neg (by decide)] at HA
      have HA2 := Lib.hid HA.out
      go_wp2_with fail
      refine HA2.out.mono ?_
      rintro e w7 ⟨z, rfl, hz, _, c7, x7⟩
      rw [HS.out, HE.out] at c7
      rw [if_neg (by decide)] at c7
      obtain ⟨z0, z1, za, zc, z4, z5⟩ := z
      simp only [Tk.pl, Pt.mk.injEq] at hz
      obtain ⟨p0, p1, p2, p3⟩ := hz
      subst z0 z1 z4 z5
      simp only [Tk.cs]
      obtain ⟨w8, hw8⟩ : ∃ w8, w8 = w7.alloc (.cells #[.int .i64 0, .int .i64 0, .slice za 0 zc, .int .i64 0] 38) := ⟨_, rfl⟩
      obtain ⟨bz, hbz⟩ : ∃ b, b = w7.heap.size := ⟨_, rfl⟩
      have g8 : w8.heap[bz]? = some (.cells #[.int .i64 0, .int .i64 0, .slice za 0 zc, .int .i64 0] 38 (0, 0)) := by rw [hw8, hbz]; exact heap_alloc_new w7 _
      have c8 : Ck W3 w8 h [⟨1, M, l, a4⟩] := by rw [hw8]; exact c7.keep ((Kept.refl w7 []).alloc _)
      have X8 : RowKit.Hid (w8.heap[bx]? = some (.cells #[.int .i64 1, .int .i64 M, .slice ya l.length yc, .int .i64 a4] 38 (0, 0))) := Lib.hid (by rw [hw8]; exact ((Kept.refl w7 []).alloc _).heap (by simp) (x7 bx _ (Nat.le_refl _) G6.out))
      have G8 := Lib.hid g8; have C8 := Lib.hid c8; have HW8 := Lib.hid hw8; have HBZ := Lib.hid hbz
      clear j0 j1 g8 c8 hw8 hbz c7 HA HA2 x7
      go_upto_region 7 with fail
      rw [← HW8.out, ← HBZ.out]
      obtain ⟨j0, j1⟩ := two_cells (C8.out.kept.heap (by simp) BX.out.1)
      obtain ⟨i0, i1⟩ := two_cells (C8.out.kept.heap (by simp) BX.out.2)
      go_wp2_with fail
      refine (CO.out w8 C8.out.kept).mono ?_
      rintro e w9 ⟨r, rfl, hr, k9⟩
      obtain rfl : r = true := by
        have h1 : r = covB N M m l := by rw [Bool.eq_iff_iff, hr, covB_iff G2.out G1.out]
        rw [h1, ← HC.out]
      have C9 := Lib.hid (C8.out.keep k9)
      have G9 := Lib.hid (k9.heap (by simp) G8.out)
      have X9 := Lib.hid (k9.heap (by simp) X8.out)
      clear k9 hr j0 j1 i0 i1
      go_wp2_with fail
      refine (trims_any w9).mono ?_
      rintro e wA ⟨rfl, kA⟩
      have CA := Lib.hid (C9.out.keep kA)
      obtain ⟨t0, t1, t2, t3⟩ := tk_cells (kA.heap (by simp) X9.out)
      obtain ⟨s0, s1, s2, s3⟩ := tk_cells (kA.heap (by simp) G9.out)
      clear kA
      go_wp2_with fail
      refine (ck_last CA.out OK1.out).mono ?_
      rintro e wB ⟨rfl, kB⟩
      rw [show lastN [⟨1, M, l, a4⟩] = 1 from rfl]
      have CB := Lib.hid (CA.out.keep kB)
      clear kB
      go_wp2
      go_ret
      exact ⟨by first | rfl | exact retb (show (!decide (a4 ≤ a5)) = true from by simp; omega), (K3.out.trans CB.out.kept (by simp)).below (Nat.le_refl _) (by simp)⟩
  | false =>
    have hD := trivial
    have HE : RowKit.Hid (addE [⟨1, M, l, a4⟩] N m a5 = 1) := Lib.hid (by rw [F2.out, ← HC.out]; simp)
    rw [HP.out, HE.out, if_neg (by decide)] at HA
    have HA2 := Lib.hid HA.out
    go_wp2_with fail
    refine HA2.out.mono ?_
    rintro e w7 ⟨z, rfl, hz, _, c7, x7⟩
    rw [HS.out, HE.out] at c7
    rw [if_neg (by decide)] at c7
    obtain ⟨z0, z1, za, zc, z4, z5⟩ := z
    simp only [Tk.pl, Pt.mk.injEq] at hz
    obtain ⟨p0, p1, p2, p3⟩ := hz
    subst z0 z1 z4 z5
    simp only [Tk.cs]
    obtain ⟨w8, hw8⟩ : ∃ w8, w8 = w7.alloc (.cells #[.int .i64 0, .int .i64 0, .slice za 0 zc, .int .i64 0] 38) := ⟨_, rfl⟩
    obtain ⟨bz, hbz⟩ : ∃ b, b = w7.heap.size := ⟨_, rfl⟩
    have g8 : w8.heap[bz]? = some (.cells #[.int .i64 0, .int .i64 0, .slice za 0 zc, .int .i64 0] 38 (0, 0)) := by rw [hw8, hbz]; exact heap_alloc_new w7 _
    have c8 : Ck W3 w8 h [⟨1, M, l, a4⟩] := by rw [hw8]; exact c7.keep ((Kept.refl w7 []).alloc _)
    have X8 : RowKit.Hid (w8.heap[bx]? = some (.cells #[.int .i64 1, .int .i64 M, .slice ya l.length yc, .int .i64 a4] 38 (0, 0))) := Lib.hid (by rw [hw8]; exact ((Kept.refl w7 []).alloc _).heap (by simp) (x7 bx _ (Nat.le_refl _) G6.out))
    have G8 := Lib.hid g8; have C8 := Lib.hid c8; have HW8 := Lib.hid hw8; have HBZ := Lib.hid hbz
    clear j0 j1 g8 c8 hw8 hbz c7 HA HA2 x7
    go_upto_region 7 with fail
    rw [← HW8.out, ← HBZ.out]
    obtain ⟨j0, j1⟩ := two_cells (C8.out.kept.heap (by simp) BX.out.1)
    obtain ⟨i0, i1⟩ := two_cells (C8.out.kept.heap (by simp) BX.out.2)
    go_wp2_with fail
    refine (CO.out w8 C8.out.kept).mono ?_
    rintro e w9 ⟨r, rfl, hr, k9⟩
    obtain rfl : r = false := by
      have h1 : r = covB N M m l := by rw [Bool.eq_iff_iff, hr, covB_iff G2.out G1.out]
      rw [h1, ← HC.out]
    have C9 := Lib.hid (C8.out.keep k9)
    have G9 := Lib.hid (k9.heap (by simp) G8.out)
    have X9 := Lib.hid (k9.heap (by simp) X8.out)
    clear k9 hr j0 j1 i0 i1
    go_wp2_with fail
    refine (trims_any w9).mono ?_
    rintro e wA ⟨rfl, kA⟩
    have CA := Lib.hid (C9.out.keep kA)
    obtain ⟨t0, t1, t2, t3⟩ := tk_cells (kA.heap (by simp) X9.out)
    obtain ⟨s0, s1, s2, s3⟩ := tk_cells (kA.heap (by simp) G9.out)
    clear kA
    go_wp2_with fail
    refine (ck_last CA.out OK1.out).mono ?_
    rintro e wB ⟨rfl, kB⟩
    rw [show lastN [⟨1, M, l, a4⟩] = 1 from rfl]
    have CB := Lib.hid (CA.out.keep kB)
    clear kB
    go_wp2
    go_ret
    exact ⟨by first | rfl | exact retb (show (!decide (a4 ≤ a5)) = true from by simp; omega), (K3.out.trans CB.out.kept (by simp)).below (Nat.le_refl _) (by simp)⟩

set_option maxRecDepth 100000 in
theorem lifted (os : Os) (started : os.Started) (H : Type) (enc : TypeId × Value → H) :
    ReturnsInHanded {} Try.checked os 5 .any (Rows.tickRisesSpec.pre6 enc Try.prog Try.f5 Rows.tickRisesRow.domain false) (Rows.tickRisesSpec.post enc Try.prog Try.f5 false true false false) := by
  refine returnsInHanded_of_change (C := Try.checked) own started (by kernel_rfl) Try.func5
    (ChangeSpec.witness6 (enc := enc) (C := Try.checked) false ⟨#[], #[.int .u8 0, .int .u8 0, .slice none 0 0, .slice none 0 0, .int .i64 0, .int .i64 0], []⟩ 8 (by kernel_rfl) (by kernel_rfl) (by kernel_rfl) (by kernel_rfl)) ?_
  intro W base args ds gs before hval0 hW hcnd _
  have hval : ∀ (j : Nat) t v, Try.f5.params[j]? = some t → args[j]? = some v → Value.okWide Try.prog W .any base t v := hval0
  have hW' := hW
  obtain ⟨p, q, hA0, hV, rfl, hfz, hnd⟩ := hW
  have hA : DataW.TrodAll enc Try.prog W 0 (fun _ => true) true Try.f5.params.toList args.toList ds p := hA0
  rw [Try.params5] at hA hval
  obtain ⟨v0, vs0, d0, ds0, p0, q0, hargs, rfl, rfl, h0, r0⟩ := trodAll_cons hA
  obtain ⟨v1, vs1, d1, ds1, p1, q1, rfl, rfl, rfl, h1, r1⟩ := trodAll_cons r0
  obtain ⟨v2, vs2, d2, ds2, p2, q2, rfl, rfl, rfl, h2, r2⟩ := trodAll_cons r1
  obtain ⟨v3, vs3, d3, ds3, p3, q3, rfl, rfl, rfl, h3, r3⟩ := trodAll_cons r2
  obtain ⟨v4, vs4, d4, ds4, p4, q4, rfl, rfl, rfl, h4, r4⟩ := trodAll_cons r3
  obtain ⟨v5, vs5, d5, ds5, p5, q5, rfl, rfl, rfl, h5, r5⟩ := trodAll_cons r4
  obtain ⟨rfl, rfl, rfl⟩ := trodAll_nil r5
  obtain rfl : args = #[v0, v1, v2, v3, v4, v5] := by cases args; simp_all
  obtain ⟨rfl, rfl⟩ := trodVars_none hV
  obtain ⟨a0, rfl, rfl, rfl, w0⟩ := open_int Try.underlying5 (hval 0 5 v0 rfl rfl) h0
  obtain ⟨a1, rfl, rfl, rfl, w1⟩ := open_int Try.underlying5 (hval 1 5 v1 rfl rfl) h1
  obtain ⟨a2, len2, cap2, rfl⟩ := okWide_slice Try.underlying30 (hval 2 30 v2 rfl rfl)
  have k2 := h2
  have lt2 : ∀ x ∈ p2, x.block < W.heap.size := by obtain ⟨m, hm⟩ := k2; exact DataW.trod_lt m _ _ _ hm
  obtain ⟨z2, w2⟩ : ∃ zs, IsRow .u8 W a2 len2 cap2 zs := by
    obtain ⟨fuel, hf⟩ := h2
    rcases open_ints Try.underlying30 Try.underlying5 (by kernel_rfl) hf with ⟨hcs, _⟩ | ⟨x, l, c, zs, hcs, _, hl, hm, hz, _, hcell, hwz⟩
    · simp [Value.cells] at hcs
      obtain ⟨rfl, rfl, rfl⟩ := hcs
      exact ⟨[], .inl ⟨rfl, rfl, rfl, rfl⟩⟩
    · simp [Value.cells] at hcs
      obtain ⟨rfl, rfl, rfl⟩ := hcs
      exact ⟨zs, .inr ⟨_, rfl, hl, hm, by simpa using hz, hcell, hwz⟩⟩
  obtain ⟨a3, len3, cap3, rfl⟩ := okWide_slice Try.underlying30 (hval 3 30 v3 rfl rfl)
  have k3 := h3
  have lt3 : ∀ x ∈ p3, x.block < W.heap.size := by obtain ⟨m, hm⟩ := k3; exact DataW.trod_lt m _ _ _ hm
  obtain ⟨z3, w3⟩ : ∃ zs, IsRow .u8 W a3 len3 cap3 zs := by
    obtain ⟨fuel, hf⟩ := h3
    rcases open_ints Try.underlying30 Try.underlying5 (by kernel_rfl) hf with ⟨hcs, _⟩ | ⟨x, l, c, zs, hcs, _, hl, hm, hz, _, hcell, hwz⟩
    · simp [Value.cells] at hcs
      obtain ⟨rfl, rfl, rfl⟩ := hcs
      exact ⟨[], .inl ⟨rfl, rfl, rfl, rfl⟩⟩
    · simp [Value.cells] at hcs
      obtain ⟨rfl, rfl, rfl⟩ := hcs
      exact ⟨zs, .inr ⟨_, rfl, hl, hm, by simpa using hz, hcell, hwz⟩⟩
  obtain ⟨a4, rfl, rfl, rfl, w4⟩ := open_int Try.underlying2 (hval 4 2 v4 rfl rfl) h4
  obtain ⟨a5, rfl, rfl, rfl, w5⟩ := open_int Try.underlying2 (hval 5 2 v5 rfl rfl) h5
  clear hA0 hval0
  refine (walk a0 a1 a2 len2 cap2 z2 a3 len3 cap3 z3 a4 a5 W w0 w1 w2 w3 w4 w5).mono fun e W' ⟨he, bel⟩ => ?_
  subst he
  exact ⟨_, rfl, _, _, _, [], _, [], hW', trodAll_mk1 (shut_bool Try.underlying4 _), (trodAll_cons_mk (shut_int Try.underlying5 w0) (trodAll_cons_mk (shut_int Try.underlying5 w1) (trodAll_cons_mk (Below.trod laidOut (by kernel_rfl) (of_decide_eq_true (by kernel_rfl)) k2 bel lt2) (trodAll_cons_mk (Below.trod laidOut (by kernel_rfl) (of_decide_eq_true (by kernel_rfl)) k3 bel lt3) (trodAll_cons_mk (shut_int Try.underlying2 w4) (trodAll_cons_mk (shut_int Try.underlying2 w5) trodAll_mk0)))))), rfl, bel.frame _, fun h => by cases h⟩

theorem over : Rows.tickRisesRow.holds Try.pinned (OpenSpec.ofChange Rows.tickRisesSpec) :=
  OpenClaim.holds_of_wide 5 Try.f5 rfl rfl rfl rfl rfl rfl rfl ⟨rfl, rfl, rfl, rfl, rfl⟩ rfl rfl rfl rfl rfl (by kernel_rfl) Try.func5 (by kernel_rfl)
    (of_decide_eq_true (by kernel_rfl)) (by unfold Func.isWrapper; first | (rw [if_pos (by decide +kernel)]; kernel_rfl) | (rw [if_neg (by decide +kernel)]; exact ⟨rfl, rfl⟩))
    (fun os started H enc _ => lifted os started H enc)

theorem proved : Rows.TickRisesSaid :=
  over
end Go.Proofs.Ytodfjpjjcgdmeaa.tickRises

namespace Go.Proofs.Ytodfjpjjcgdmeaa
theorem tickRises_holds : Rows.TickRisesSaid := tickRises.proved
#print axioms tickRises_holds
end Go.Proofs.Ytodfjpjjcgdmeaa

