/-
  Ztb in one text.
-/
import Derived.Test.YticiofkiffgclaaGreatQo37
namespace Go.Proofs.YticiofkiffgclaaGreat
set_option linter.unusedVariables false
open Go.RowKit

variable {P : List Tk → Prop} {w w' : World} {B : Nat} {a : Hk} {st : List Nat} {q : Qs} {O : Nat → Prop}

set_option maxHeartbeats 1000000 in
theorem kxfns_any (s : KX P w B a st q O) {k : Nat} (z : SzQ k q) (n : ByteArray) : Calls Tryz.prog 31 #[.pointer (some ⟨a.h, 0, none⟩), .string n] w fun e w' => e = .returned (.tuple #[.int .i64 (finN q.cs n), .int .i64 (finE q.cs n)]) ∧ KXPost P w B a st O (fnsQ q n) w' := by
  have SP := Lib.hid (kcursors_any s.ks)
  obtain ⟨b, u, d, xs, k, g, e1, e2, rfl⟩ := s.ex
  have FG := Lib.hid (cfin_any k.cu z.ok.okc n)
  have K := Lib.hid k; have G := Lib.hid g; have E1 := Lib.hid e1; have E2 := Lib.hid e2
  clear s z k g e1 e2
  go_enter Tryz.func31, Tryz.ntmps31
  go_wp2_with fail
  refine SP.out.mono ?_
  rintro e w1 ⟨rfl, hw⟩
  have hw2 := hw.symm; clear hw; subst hw2
  go_wp2_with fail
  refine FG.out.mono ?_
  rintro e w2 ⟨rfl, V', h1, h3⟩
  have P := Lib.hid (KXPost.of (q := fnsQ q n) K.out G.out (K.out.ofCursors h1 h3) E1.out E2.out)
  clear h1 h3
  go_wp2
  (try simp only [Exit.inBlock, Exit.then])
  refine bodyPost_ret (v := .tuple #[.int .i64 (finN q.cs n), .int .i64 (finE q.cs n)]) (by simp [results, Tryz.results31, go_sem]) rfl ?_
  exact ⟨rfl, P.out⟩

set_option maxHeartbeats 4000000 in
set_option maxRecDepth 100000 in
theorem kxnxt_any (s : KX P w B a st q O) {k : Nat} (z : SzQ k q) (n : ByteArray) : Calls Tryz.prog 29 #[.pointer (some ⟨a.h, 0, none⟩), .string n] w (TkXPost P w B a st O (nxtP q n) (nxtE q n) (nxtQ q n)) := by
  obtain ⟨zb, hzb⟩ : ∃ zb, zb = w.heap.size := ⟨_, rfl⟩
  obtain ⟨W1, hW1⟩ : ∃ W1, W1 = w.alloc zT4 := ⟨_, rfl⟩
  have k1 : Kept w W1 [] := by rw [hW1]; exact (Kept.refl w []).alloc _
  have zW1 : W1.heap.size = zb + 1 := by rw [hW1, hzb]; simp
  have g1 : W1.heap[zb]? = some zT4 := by rw [hW1, hzb]; exact heap_alloc_new w _
  have S := Lib.hid s
  have KC := Lib.hid (kcursors_any (s.keep k1).ks)
  obtain ⟨b, u, d, xs, kq, g, e1, e2, rfl⟩ := (s.keep k1).ex
  have GE := Lib.hid (cget_any kq.cu z.ok.okc n)
  have OC := Lib.hid z.ok.okc; have OP := Lib.hid (show Okp (xs.map Tk.pl) by rw [e1]; exact z.ok.okp)
  have KQ := Lib.hid kq; have MG := Lib.hid g; have E1 := Lib.hid e1; have E2 := Lib.hid e2; have K1 := Lib.hid k1; have G1 := Lib.hid g1; have HW1 := Lib.hid hW1; have HZB := Lib.hid hzb; have ZW1 := Lib.hid zW1
  have NF : RowKit.Hid (¬ kfoot a d zb) := Lib.hid (fun hk => by have := (s.lt zb hk).2; omega)
  have BX : RowKit.Hid (∀ (W : World) (u0 u1 u2 u3 : Value), Kept W1 W [] → Kept w (putAll W zb 0 [u0, u1, u2, u3]) []) := Lib.hid (fun W u0 u1 u2 u3 hW => putAll_keep (K1.out.trans hW (by simp)) (by rw [HZB.out]; exact Nat.le_refl _) _)
  clear s k1 g1 hW1 z kq g e1 e2 zW1
  have hgv : getV q.cs n = .tuple #[.agg ((getC q.cs n).getD noCu).cs, .bool (getC q.cs n).isSome] := rfl
  rw [hgv] at GE
  clear hgv
  obtain ⟨ob, hob⟩ : ∃ ob, ob = (getC q.cs n).isSome := ⟨_, rfl⟩
  obtain ⟨x, hx⟩ : ∃ x, x = (getC q.cs n).getD noCu := ⟨_, rfl⟩
  rw [← hob, ← hx] at GE
  have HOB := Lib.hid hob; have HX := Lib.hid hx
  clear hob hx
  have OP0 := Lib.hid (show 0 ≤ x.op by
    rw [HX.out]
    cases hg : getC q.cs n with
    | none => decide
    | some y => exact OC.out.op0 y (getC_mem hg))
  obtain ⟨b0, b1, b2⟩ := x
  simp only [Cu.cs] at *
  go_enter Tryz.func29, Tryz.ntmps29
  go_upto_region 1 with fail
  rw [← HW1.out, ← HZB.out]
  clear hzb
  go_wp2_with fail
  refine KC.out.mono ?_
  rintro e wx ⟨rfl, hw⟩
  have hw2 := hw.symm; clear hw; subst hw2
  go_wp2_with fail
  refine GE.out.mono ?_
  rintro e w2 ⟨rfl, k2⟩
  have K2 := Lib.hid k2; clear k2
  go_upto_region 2 with fail
  obtain ⟨W3, hW3⟩ : ∃ W3, W3 = w2.alloc (.cells #[.string b0, .int .i64 b1, .int .i64 b2] cuE) := ⟨_, rfl⟩
  obtain ⟨zc, hzc⟩ : ∃ zc, zc = w2.heap.size := ⟨_, rfl⟩
  rw [← hW3, ← hzc]
  have k3 : Kept w2 W3 [] := by rw [hW3]; exact (Kept.refl w2 []).alloc _
  have K3 := Lib.hid (K2.out.trans k3 (by simp))
  have G3 := Lib.hid (show W3.heap[zc]? = some (.cells #[.string b0, .int .i64 b1, .int .i64 b2] cuE (0, 0)) by rw [hW3, hzc]; exact heap_alloc_new w2 _)
  have GB := Lib.hid (K3.out.heap (by simp) G1.out)
  clear k3 hW3 hzc
  cases ob with
  | false =>
    have r1 : nxtP q n = zeroP ∧ nxtE q n = 4 ∧ nxtQ q n = q := by
      have h := HOB.out
      cases hg : getC q.cs n with
      | none => simp [nxtP, nxtE, nxtQ, nxtO, hg]
      | some y => rw [hg] at h; cases h
    have RR := Lib.hid r1
    clear r1
    obtain ⟨x0, x1, x2, x3⟩ := tk_cells GB.out
    obtain ⟨f0, f1, f2, f3⟩ := tk_frozen GB.out
    go_wp2
    refine bodyPost_ret (v := .tuple #[.agg #[.int .i64 0, .int .i64 0, .slice none 0 0, .int .i64 0], .int .i64 4]) (by simp [results, Tryz.results29, go_sem, *]) rfl ?_
    obtain ⟨r1, r2, r3⟩ := RR.out
    rw [r1, r2, r3]
    exact ⟨Tk.zero, rfl, rfl, RdT.nil _, KXPost.same S.out (BX.out W3 _ _ _ _ K3.out)⟩
  | true =>
    have hg : getC q.cs n = some ⟨b0, b1, b2⟩ := by
      have h := HOB.out; have h2 := HX.out
      cases hg : getC q.cs n with
      | none => rw [hg] at h; cases h
      | some y => rw [hg] at h2; rw [h2]; rfl
    have HG := Lib.hid hg
    obtain ⟨c0, c1, c2⟩ : W3.cell? ⟨zc, 0, none⟩ = some (.string b0) ∧ W3.cell? ⟨zc, 1, none⟩ = some (.int .i64 b1) ∧ W3.cell? ⟨zc, 2, none⟩ = some (.int .i64 b2) := ⟨by rw [cell_of_row _ _ _ _ _ _ G3.out]; rfl, by rw [cell_of_row _ _ _ _ _ _ G3.out]; rfl, by rw [cell_of_row _ _ _ _ _ _ G3.out]; rfl⟩
    clear hg
    by_cases h2 : b2 = 0
    · have H2 := Lib.hid h2
      subst h2
      have AF : RowKit.Hid (∀ Z, Kept W3 Z [] → Calls Tryz.prog 93 #[.pointer (some ⟨a.ht, 0, none⟩), .int .i64 b1] Z (FirstPost Z (aftS q.ps b1))) := Lib.hid (fun Z hZ => by rw [← E1.out]; exact tkaft_any (KQ.out.keep (K3.out.trans hZ (by simp))).tk OP.out b1)
      have CF : RowKit.Hid (∀ Z, Kept W3 Z [] → Z.heap[a.h]? = some (.cells (kR a d) quT (0, 0)) ∧ Z.cell? ⟨zc, 1, none⟩ = some (.int .i64 b1)) := Lib.hid (fun Z hZ => ⟨(KQ.out.keep (K3.out.trans hZ (by simp))).hh, by rw [cell_of_row _ _ _ _ _ _ (hZ.heap (by simp) G3.out)]; rfl⟩)
      obtain ⟨ob2, ho2⟩ : ∃ ob2, ob2 = (aftS q.ps b1).isSome := ⟨_, rfl⟩
      have HO2 := Lib.hid ho2
      clear c0 c1 ho2
      go_upto_region 6 with fail
      go_cut [8, 9] (fun s8 s9 wx => ∃ (w6 : World) (zt : Nat) (y0 y1 : Int) (y2 : Option Addr) (y3 : Nat) (y4 : List Int) (y5 : Int), w6 = wx ∧ s8 = .pointer (some ⟨zt, 0, none⟩) ∧ s9 = .bool ob2 ∧ RowKit.Hid (Kept W3 w6 []) ∧ RowKit.Hid (w6.heap[zt]? = some (.cells #[.int .i64 y0, .int .i64 y1, .slice y2 y4.length y3, .int .i64 y5] 38 (0, 0))) ∧ RowKit.Hid (RdT w6 (.slice y2 y4.length y3) y4) ∧ RowKit.Hid (W3.heap.size ≤ zt) ∧ RowKit.Hid ((⟨y0, y1, y4, y5⟩ : Pt) = (aftS q.ps b1).getD ⟨0, 0, [], 0⟩))
      case first =>
        refine wp_region_held_drew (S := fun Z => Kept W3 Z []) (by kernel_rfl) (Kept.refl W3 []).drew (fun hHeld => ?_)
        refine wpAnyH_take (i := 0) (oi := _) (v := .pointer (some ⟨a.h, 0, none⟩)) rfl (by kernel_rfl) (by kernel_rfl) (by kernel_rfl) (fun _ _ _ h => h) (Or.inl ⟨by rfl, fun V hV => by go_simp⟩) hHeld ?_
        change wpAnyH _ _ _ _ _ _ _ (Act.put _ (some 27) _) _
        simp only [Act.put, List.setIfInBounds_toArray, List.set_cons_zero, List.set_cons_succ]
        refine wpAnyH_take (i := 1) (oi := _) (v := .pointer (some ⟨a.h, 0, none⟩)) rfl (by kernel_rfl) (by kernel_rfl) (by kernel_rfl) (fun _ _ _ h => h) (Or.inl ⟨by rfl, fun V hV => by go_simp⟩) hHeld ?_
        change wpAnyH _ _ _ _ _ _ _ (Act.put _ (some 28) _) _
        simp only [Act.put, List.setIfInBounds_toArray, List.set_cons_zero, List.set_cons_succ]
        refine wpAnyH_take (i := 2) (oi := _) (v := .pointer (some ⟨a.h, 2, none⟩)) rfl (by kernel_rfl) (by kernel_rfl) (by kernel_rfl) (fun _ _ _ h => h) (Or.inl ⟨by rfl, fun V hV => by go_simp⟩) hHeld ?_
        change wpAnyH _ _ _ _ _ _ _ (Act.put _ (some 29) _) _
        simp only [Act.put, List.setIfInBounds_toArray, List.set_cons_zero, List.set_cons_succ]
        refine wpAnyH_take (i := 3) (oi := _) (v := .pointer (some ⟨a.ht, 0, none⟩)) rfl (by kernel_rfl) (by kernel_rfl) (by kernel_rfl) (fun _ _ _ h => h) (Or.inl ⟨by rfl, fun V hV => by (obtain ⟨q0, q1, q2, q3, q4⟩ := kR_cells (CF.out V hV).1; clear hV; go_simp)⟩) hHeld ?_
        change wpAnyH _ _ _ _ _ _ _ (Act.put _ (some 30) _) _
        simp only [Act.put, List.setIfInBounds_toArray, List.set_cons_zero, List.set_cons_succ]
        refine wpAnyH_take (i := 4) (oi := _) (v := .pointer (some ⟨zc, 1, none⟩)) rfl (by kernel_rfl) (by kernel_rfl) (by kernel_rfl) (fun _ _ _ h => h) (Or.inl ⟨by rfl, fun V hV => by go_simp⟩) hHeld ?_
        change wpAnyH _ _ _ _ _ _ _ (Act.put _ (some 31) _) _
        simp only [Act.put, List.setIfInBounds_toArray, List.set_cons_zero, List.set_cons_succ]
        refine wpAnyH_take (i := 5) (oi := _) (v := .int .i64 b1) rfl (by kernel_rfl) (by kernel_rfl) (by kernel_rfl) (fun _ _ _ h => h) (Or.inl ⟨by rfl, fun V hV => by (have q0 := (CF.out V hV).2; clear hV; go_simp)⟩) hHeld ?_
        change wpAnyH _ _ _ _ _ _ _ (Act.put _ (some 32) _) _
        simp only [Act.put, List.setIfInBounds_toArray, List.set_cons_zero, List.set_cons_succ]
        refine wpAnyH_ready (rs := [6, 10]) (by kernel_rfl) (by simp) ?_
        refine (AllReadyH.cons (o := _) rfl (fun K hK => ?_) (AllReadyH.cons (o := _) rfl (fun K hK => ?_) AllReadyH.nil))
        · go_simp
          go_at_call 93
          refine (AF.out _ ((Kept.refl W3 []).drew)).mono ?_
          rintro r wa ⟨y, rfl, hpl, hry, hfy, ka⟩
          obtain ⟨y0, y1, y2, y3, y4, y5⟩ := y
          simp only [Tk.cs, Tk.op] at *
          have KA := Lib.hid (((Kept.refl W3 []).drew).trans ka (by simp)); have HRY := Lib.hid hry; have HPL := Lib.hid hpl
          rw [← HO2.out]
          clear hpl hry hfy ka
          go_wp2_with fail
          refine hK.out _ _ KA.out (fun hHeld => ?_)
          clear hK K
          refine wpAnyH_take (i := 7) (oi := _) (v := .tuple #[.agg #[.int .i64 y0, .int .i64 y1, .slice y2 y4.length y3, .int .i64 y5], .bool ob2]) rfl (by kernel_rfl) (by kernel_rfl) (by kernel_rfl) (fun _ _ _ h => h) (Or.inl ⟨by rfl, fun V hV => by go_simp⟩) hHeld ?_
          change wpAnyH _ _ _ _ _ _ _ (Act.put _ (some 26) _) _
          simp only [Act.put, List.setIfInBounds_toArray, List.set_cons_zero, List.set_cons_succ]
          refine wpAnyH_take (i := 8) (oi := _) (v := .agg #[.int .i64 y0, .int .i64 y1, .slice y2 y4.length y3, .int .i64 y5]) rfl (by kernel_rfl) (by kernel_rfl) (by kernel_rfl) (fun _ _ _ h => h) (Or.inl ⟨by rfl, fun V hV => by go_simp⟩) hHeld ?_
          change wpAnyH _ _ _ _ _ _ _ (Act.put _ (some 34) _) _
          simp only [Act.put, List.setIfInBounds_toArray, List.set_cons_zero, List.set_cons_succ]
          refine wpAnyH_take (i := 9) (oi := _) (v := .bool ob2) rfl (by kernel_rfl) (by kernel_rfl) (by kernel_rfl) (fun _ _ _ h => h) (Or.inl ⟨by rfl, fun V hV => by go_simp⟩) hHeld ?_
          change wpAnyH _ _ _ _ _ _ _ (Act.put _ (some 35) _) _
          simp only [Act.put, List.setIfInBounds_toArray, List.set_cons_zero, List.set_cons_succ]
          refine wpAnyH_ready (rs := [10]) (by kernel_rfl) (by simp) ?_
          refine AllReadyH.cons (o := _) rfl (fun K hK => ?_) AllReadyH.nil
          go_simp
          refine hK.out _ _ (KA.out.alloc zT4) (fun hHeld => ?_)
          clear hK K
          obtain ⟨zt, hzt⟩ : ∃ zt, zt = wa.heap.size := ⟨_, rfl⟩
          obtain ⟨w5, hw5⟩ : ∃ w5, w5 = wa.alloc zT4 := ⟨_, rfl⟩
          have k5 : Kept wa w5 [] := by rw [hw5]; exact (Kept.refl wa []).alloc zT4
          have G5 := Lib.hid (show w5.heap[zt]? = some zT4 by rw [hw5, hzt]; exact heap_alloc_new wa _)
          rw [← hw5, ← hzt]
          have K5 := Lib.hid (KA.out.trans k5 (by simp)); have HR5 := Lib.hid (HRY.out.keep k5)
          have HZT := Lib.hid (show W3.heap.size ≤ zt by rw [hzt]; exact KA.out.size)
          clear hw5 hzt k5
          have hHeld := K5.out
          obtain ⟨w6, hw6⟩ : ∃ w6, w6 = putAll w5 zt 0 [.int .i64 y0, .int .i64 y1, .slice y2 y4.length y3, .int .i64 y5] := ⟨_, rfl⟩
          have k6 : Kept W3 w6 [] := by rw [hw6]; exact putAll_keep K5.out HZT.out _
          have K6 := Lib.hid k6; have HW6 := Lib.hid hw6
          have G6 := Lib.hid (show w6.heap[zt]? = some (.cells #[.int .i64 y0, .int .i64 y1, .slice y2 y4.length y3, .int .i64 y5] 38 (0, 0)) by rw [hw6]; exact putAll_at G5.out rfl)
          have HR6 := Lib.hid (HR5.out.fo (show Fo (fun k => k = zt) w5 w6 by rw [hw6]; exact putAll_fo (O := fun k => k = zt) _ w5 0 (Fo.refl _ w5) (.inl rfl)) (one_noI G5.out (by decide)))
          obtain ⟨x0, x1, x2, x3⟩ := tk_cells G5.out
          obtain ⟨f0, f1, f2, f3⟩ := tk_frozen G5.out
          clear k6 hw6
          refine wpAnyH_ready (rs := [11]) (by kernel_rfl) (by simp) ?_
          refine AllReadyH.cons (o := _) rfl (fun K hK => ?_) AllReadyH.nil
          go_simp
          refine hK.out _ (putAll w5 zt 0 [.int .i64 y0, .int .i64 y1, .slice y2 y4.length y3, .int .i64 y5]) (by rw [← HW6.out]; exact K6.out) (fun hHeld => ?_)
          clear hK K
          rw [← HW6.out] at hHeld ⊢
          clear x0 x1 x2 x3 f0 f1 f2 f3
          refine wpAnyH_take (i := 12) (oi := _) (v := .bool ob2) rfl (by kernel_rfl) (by kernel_rfl) (by kernel_rfl) (fun _ _ _ h => h) (Or.inl ⟨by rfl, fun V hV => by go_simp⟩) hHeld ?_
          change wpAnyH _ _ _ _ _ _ _ (Act.put _ (some 9) _) _
          simp only [Act.put, List.setIfInBounds_toArray, List.set_cons_zero, List.set_cons_succ]
          refine wpAnyH_done (by kernel_rfl) ?_ _
          clear hHeld
          go_wp2_with fail
          go_meet
          exact ⟨w6, zt, y0, y1, y2, y3, y4, y5, rfl, rfl, rfl, K6, G6, HR6, HZT, HPL⟩
        · go_simp
          refine hK.out _ _ (((Kept.refl W3 []).drew).alloc zT4) (fun hHeld => ?_)
          clear hK K
          obtain ⟨zt, hzt⟩ : ∃ zt, zt = W3.heap.size := ⟨_, rfl⟩
          obtain ⟨w4, hw4⟩ : ∃ w4, w4 = (W3.alloc zT4).drew := ⟨_, rfl⟩
          have K4 := Lib.hid (show Kept W3 w4 [] by rw [hw4]; exact ((Kept.refl W3 []).alloc zT4).drew)
          have G4 := Lib.hid (show w4.heap[zt]? = some zT4 by rw [hw4, hzt]; exact heap_alloc_new W3 _)
          have HZT := Lib.hid (show W3.heap.size ≤ zt by rw [hzt]; exact Nat.le_refl _)
          have hHeld := K4.out
          rw [← hw4, ← hzt]
          clear hw4 hzt
          refine wpAnyH_ready (rs := [6]) (by kernel_rfl) (by simp) ?_
          refine AllReadyH.cons (o := _) rfl (fun K hK => ?_) AllReadyH.nil
          go_simp
          go_at_call 93
          refine (AF.out _ (K4.out)).mono ?_
          rintro r wa ⟨y, rfl, hpl, hry, hfy, ka⟩
          obtain ⟨y0, y1, y2, y3, y4, y5⟩ := y
          simp only [Tk.cs, Tk.op] at *
          have KA := Lib.hid ((K4.out).trans ka (by simp)); have HRY := Lib.hid hry; have HPL := Lib.hid hpl
          rw [← HO2.out]
          have G5 := Lib.hid (ka.heap (by simp) G4.out)
          clear hpl hry hfy ka
          go_wp2_with fail
          refine hK.out _ _ KA.out (fun hHeld => ?_)
          clear hK K
          obtain ⟨w5, hw5⟩ : ∃ w5, w5 = wa := ⟨_, rfl⟩
          subst hw5
          have K5 := KA; have HR5 := HRY
          obtain ⟨w6, hw6⟩ : ∃ w6, w6 = putAll w5 zt 0 [.int .i64 y0, .int .i64 y1, .slice y2 y4.length y3, .int .i64 y5] := ⟨_, rfl⟩
          have k6 : Kept W3 w6 [] := by rw [hw6]; exact putAll_keep K5.out HZT.out _
          have K6 := Lib.hid k6; have HW6 := Lib.hid hw6
          have G6 := Lib.hid (show w6.heap[zt]? = some (.cells #[.int .i64 y0, .int .i64 y1, .slice y2 y4.length y3, .int .i64 y5] 38 (0, 0)) by rw [hw6]; exact putAll_at G5.out rfl)
          have HR6 := Lib.hid (HR5.out.fo (show Fo (fun k => k = zt) w5 w6 by rw [hw6]; exact putAll_fo (O := fun k => k = zt) _ w5 0 (Fo.refl _ w5) (.inl rfl)) (one_noI G5.out (by decide)))
          obtain ⟨x0, x1, x2, x3⟩ := tk_cells G5.out
          obtain ⟨f0, f1, f2, f3⟩ := tk_frozen G5.out
          clear k6 hw6
          refine wpAnyH_take (i := 7) (oi := _) (v := .tuple #[.agg #[.int .i64 y0, .int .i64 y1, .slice y2 y4.length y3, .int .i64 y5], .bool ob2]) rfl (by kernel_rfl) (by kernel_rfl) (by kernel_rfl) (fun _ _ _ h => h) (Or.inl ⟨by rfl, fun V hV => by go_simp⟩) hHeld ?_
          change wpAnyH _ _ _ _ _ _ _ (Act.put _ (some 26) _) _
          simp only [Act.put, List.setIfInBounds_toArray, List.set_cons_zero, List.set_cons_succ]
          refine wpAnyH_take (i := 8) (oi := _) (v := .agg #[.int .i64 y0, .int .i64 y1, .slice y2 y4.length y3, .int .i64 y5]) rfl (by kernel_rfl) (by kernel_rfl) (by kernel_rfl) (fun _ _ _ h => h) (Or.inl ⟨by rfl, fun V hV => by go_simp⟩) hHeld ?_
          change wpAnyH _ _ _ _ _ _ _ (Act.put _ (some 34) _) _
          simp only [Act.put, List.setIfInBounds_toArray, List.set_cons_zero, List.set_cons_succ]
          refine wpAnyH_take (i := 9) (oi := _) (v := .bool ob2) rfl (by kernel_rfl) (by kernel_rfl) (by kernel_rfl) (fun _ _ _ h => h) (Or.inl ⟨by rfl, fun V hV => by go_simp⟩) hHeld ?_
          change wpAnyH _ _ _ _ _ _ _ (Act.put _ (some 35) _) _
          simp only [Act.put, List.setIfInBounds_toArray, List.set_cons_zero, List.set_cons_succ]
          refine wpAnyH_ready (rs := [11]) (by kernel_rfl) (by simp) ?_
          refine AllReadyH.cons (o := _) rfl (fun K hK => ?_) AllReadyH.nil
          go_simp
          refine hK.out _ (putAll w5 zt 0 [.int .i64 y0, .int .i64 y1, .slice y2 y4.length y3, .int .i64 y5]) (by rw [← HW6.out]; exact K6.out) (fun hHeld => ?_)
          clear hK K
          rw [← HW6.out] at hHeld ⊢
          clear x0 x1 x2 x3 f0 f1 f2 f3
          refine wpAnyH_take (i := 12) (oi := _) (v := .bool ob2) rfl (by kernel_rfl) (by kernel_rfl) (by kernel_rfl) (fun _ _ _ h => h) (Or.inl ⟨by rfl, fun V hV => by go_simp⟩) hHeld ?_
          change wpAnyH _ _ _ _ _ _ _ (Act.put _ (some 9) _) _
          simp only [Act.put, List.setIfInBounds_toArray, List.set_cons_zero, List.set_cons_succ]
          refine wpAnyH_done (by kernel_rfl) ?_ _
          clear hHeld
          go_wp2_with fail
          go_meet
          exact ⟨w6, zt, y0, y1, y2, y3, y4, y5, rfl, rfl, rfl, K6, G6, HR6, HZT, HPL⟩
      case' rest => obtain ⟨w6, zt, y0, y1, y2, y3, y4, y5, rfl, rfl, rfl, K6, G6, HR6, HZT, HPL⟩ := hcut
      cases hs : aftS q.ps b1 with
      | none =>
        have r1 : nxtP q n = zeroP ∧ nxtE q n = 9 ∧ nxtQ q n = q := by simp [nxtP, nxtE, nxtQ, nxtO, HG.out, hs]
        have RR := Lib.hid r1
        clear r1
        have hob : ob2 = false := by rw [HO2.out, hs]; rfl
        subst hob
        clear hs
        obtain ⟨x0, x1, x2, x3⟩ := tk_cells (K6.out.heap (by simp) GB.out)
        obtain ⟨f0, f1, f2, f3⟩ := tk_frozen (K6.out.heap (by simp) GB.out)
        go_wp2
        refine bodyPost_ret (v := .tuple #[.agg #[.int .i64 0, .int .i64 0, .slice none 0 0, .int .i64 0], .int .i64 9]) (by simp [results, Tryz.results29, go_sem, *]) rfl ?_
        obtain ⟨r1, r2, r3⟩ := RR.out
        rw [r1, r2, r3]
        exact ⟨Tk.zero, rfl, rfl, RdT.nil _, KXPost.same S.out (BX.out _ _ _ _ _ (K3.out.trans K6.out (by simp)))⟩
      | some p =>
        have hob : ob2 = true := by rw [HO2.out, hs]; rfl
        subst hob
        have hp : (⟨y0, y1, y4, y5⟩ : Pt) = p := by have := HPL.out; rw [hs] at this; exact this
        have r1 : nxtP q n = ⟨y0, y1, y4, y5⟩ ∧ nxtE q n = 0 ∧ nxtQ q n = { q with cs := opnL q.cs n y0 } := by subst hp; simp [nxtP, nxtE, nxtQ, nxtO, HG.out, hs]
        have RR := Lib.hid r1
        clear r1
        have k6 := KQ.out.keep (K3.out.trans K6.out (by simp))
        have kd6 : Kept w6 w6.drew [] := (Kept.refl w6 []).drew
        have S6 := Lib.hid (And.intro (kd6.heap (by simp) k6.hh) (kd6.heap (by simp) G6.out))
        have OPN := Lib.hid (copn_any (k6.keep kd6).cu OC.out n y0)
        have NT : RowKit.Hid (¬ kfoot a d zt ∧ w.heap.size ≤ zt ∧ zt ≠ zb) := Lib.hid ⟨fun hk => by have := (S.out.lt zt hk).2; have := HZT.out; have := K3.out.size; have := ZW1.out; have := HZB.out; omega, by have := HZT.out; have := K3.out.size; have := ZW1.out; have := HZB.out; omega, by have := HZT.out; have := K3.out.size; have := ZW1.out; omega⟩
        have KQ6 := Lib.hid k6; have MG6 := Lib.hid (MG.out.keep (K3.out.trans K6.out (by simp))); have KD6 := Lib.hid kd6
        clear hs hp k6 kd6
        go_upto_region 9 with fail
        refine wp_region_held_drew (S := fun Z => Z.heap[a.h]? = some (.cells (kR a d) quT (0, 0)) ∧ Z.heap[zt]? = some (.cells #[.int .i64 y0, .int .i64 y1, .slice y2 y4.length y3, .int .i64 y5] 38 (0, 0))) (by kernel_rfl) S6.out (fun hHeld => ?_)
        refine wpAnyH_take (i := 0) (oi := _) (v := .pointer (some ⟨a.h, 0, none⟩)) rfl (by kernel_rfl) (by kernel_rfl) (by kernel_rfl) (fun _ _ _ h => h) (Or.inl ⟨by rfl, fun V hV => by go_simp⟩) hHeld ?_
        change wpAnyH _ _ _ _ _ _ _ (Act.put _ (some 39) _) _
        simp only [Act.put, List.setIfInBounds_toArray, List.set_cons_zero, List.set_cons_succ]
        refine wpAnyH_take (i := 1) (oi := _) (v := .pointer (some ⟨a.h, 0, none⟩)) rfl (by kernel_rfl) (by kernel_rfl) (by kernel_rfl) (fun _ _ _ h => h) (Or.inl ⟨by rfl, fun V hV => by go_simp⟩) hHeld ?_
        change wpAnyH _ _ _ _ _ _ _ (Act.put _ (some 40) _) _
        simp only [Act.put, List.setIfInBounds_toArray, List.set_cons_zero, List.set_cons_succ]
        refine wpAnyH_take (i := 2) (oi := _) (v := .pointer (some ⟨a.h, 3, none⟩)) rfl (by kernel_rfl) (by kernel_rfl) (by kernel_rfl) (fun _ _ _ h => h) (Or.inl ⟨by rfl, fun V hV => by go_simp⟩) hHeld ?_
        change wpAnyH _ _ _ _ _ _ _ (Act.put _ (some 41) _) _
        simp only [Act.put, List.setIfInBounds_toArray, List.set_cons_zero, List.set_cons_succ]
        refine wpAnyH_take (i := 3) (oi := _) (v := .pointer (some ⟨a.hc, 0, none⟩)) rfl (by kernel_rfl) (by kernel_rfl) (by kernel_rfl) (fun _ _ _ h => h) (Or.inl ⟨by rfl, fun V hV => by (obtain ⟨q0, q1, q2, q3, q4⟩ := kR_cells hV.1; clear hV; go_simp)⟩) hHeld ?_
        change wpAnyH _ _ _ _ _ _ _ (Act.put _ (some 42) _) _
        simp only [Act.put, List.setIfInBounds_toArray, List.set_cons_zero, List.set_cons_succ]
        refine wpAnyH_take (i := 4) (oi := _) (v := .string n) rfl (by kernel_rfl) (by kernel_rfl) (by kernel_rfl) (fun _ _ _ h => h) (Or.inl ⟨by rfl, fun V hV => by go_simp⟩) hHeld ?_
        change wpAnyH _ _ _ _ _ _ _ (Act.put _ (some 43) _) _
        simp only [Act.put, List.setIfInBounds_toArray, List.set_cons_zero, List.set_cons_succ]
        refine wpAnyH_take (i := 5) (oi := _) (v := .pointer (some ⟨zt, 0, none⟩)) rfl (by kernel_rfl) (by kernel_rfl) (by kernel_rfl) (fun _ _ _ h => h) (Or.inl ⟨by rfl, fun V hV => by go_simp⟩) hHeld ?_
        change wpAnyH _ _ _ _ _ _ _ (Act.put _ (some 44) _) _
        simp only [Act.put, List.setIfInBounds_toArray, List.set_cons_zero, List.set_cons_succ]
        refine wpAnyH_take (i := 6) (oi := _) (v := .int .i64 y0) rfl (by kernel_rfl) (by kernel_rfl) (by kernel_rfl) (fun _ _ _ h => h) (Or.inl ⟨by rfl, fun V hV => by (obtain ⟨q0, q1, q2, q3⟩ := tk_cells hV.2; clear hV; go_simp)⟩) hHeld ?_
        change wpAnyH _ _ _ _ _ _ _ (Act.put _ (some 45) _) _
        simp only [Act.put, List.setIfInBounds_toArray, List.set_cons_zero, List.set_cons_succ]
        refine wpAnyH_ready (rs := [7]) (by kernel_rfl) (by simp) ?_
        refine AllReadyH.cons (o := _) rfl (fun K hK => ?_) AllReadyH.nil
        go_simp
        go_at_call 94
        refine (OPN.out).mono ?_
        rintro r w9 ⟨rfl, V9, h1, h3⟩
        obtain ⟨k9, t9⟩ := (KQ6.out.keep KD6.out).ofCursors h1 h3
        have S9 : RowKit.Hid (w9.heap[a.h]? = some (.cells (kR a d) quT (0, 0)) ∧ w9.heap[zt]? = some (.cells #[.int .i64 y0, .int .i64 y1, .slice y2 y4.length y3, .int .i64 y5] 38 (0, 0))) := Lib.hid ⟨k9.hh, t9.1.heap NT.out.1 S6.out.2⟩
        have PP9 := Lib.hid (KXPost.of (q := { q with cs := opnL q.cs n y0 }) KQ6.out MG6.out ⟨k9, t9.afterK KD6.out⟩ E1.out E2.out)
        have GB9 := Lib.hid (t9.1.heap NF.out (KD6.out.heap (by simp) (K6.out.heap (by simp) GB.out)))
        have HR9 := Lib.hid ((HR6.out.keep KD6.out).fo t9.1 (KQ6.out.keep KD6.out).noI)
        generalize opnE q.cs n y0 = EE at *
        clear h1 h3 k9 t9
        go_wp2_with fail
        refine hK.out _ _ S9.out (fun hHeld => ?_)
        clear hK K
        refine wpAnyH_done (by kernel_rfl) ?_ _
        clear hHeld
        obtain ⟨x0, x1, x2, x3⟩ := tk_cells S9.out.2
        obtain ⟨y0', y1', y2', y3'⟩ := tk_cells GB9.out
        obtain ⟨f0, f1, f2, f3⟩ := tk_frozen GB9.out
        have NE := NT.out.2.2
        clear c2
        go_wp2
        refine bodyPost_ret (v := .tuple #[.agg #[.int .i64 y0, .int .i64 y1, .slice y2 y4.length y3, .int .i64 y5], .int .i64 0]) (by simp [results, Tryz.results29, go_sem, *]) rfl ?_
        obtain ⟨r1, r2, r3⟩ := RR.out
        rw [r1, r2, r3]
        have f7 : Fo (fun k => k = zb) w9 (putAll w9 zb 0 [.int .i64 y0, .int .i64 y1, .slice y2 y4.length y3, .int .i64 y5]) := putAll_fo (O := fun k => k = zb) _ w9 0 (Fo.refl _ w9) (.inl rfl)
        refine ⟨⟨y0, y1, y2, y3, y4, y5⟩, rfl, rfl, HR9.out.fo f7 (one_noI GB9.out (by decide)), KXPost.boxed S.out K1.out ?_ GB9.out (by decide) (by decide) (by rw [HZB.out]; omega) (by have := ZW1.out; omega) f7⟩
        obtain ⟨O', p1, p2⟩ := PP9.out
        exact ⟨O', p1, p2.afterK (K3.out.trans K6.out (by simp))⟩
    · have r1 : nxtP q n = zeroP ∧ nxtE q n = 7 ∧ nxtQ q n = q := by
        have : 0 < b2 := by have := OP0.out; omega
        simp [nxtP, nxtE, nxtQ, nxtO, HG.out, this]
      have RR := Lib.hid r1
      have hb : (b2 == 0) = false := by rw [beq_eq_false_iff_ne]; exact h2
      clear r1 h2 c0 c1
      obtain ⟨x0, x1, x2, x3⟩ := tk_cells GB.out
      obtain ⟨f0, f1, f2, f3⟩ := tk_frozen GB.out
      go_wp2
      refine bodyPost_ret (v := .tuple #[.agg #[.int .i64 0, .int .i64 0, .slice none 0 0, .int .i64 0], .int .i64 7]) (by simp [results, Tryz.results29, go_sem, *]) rfl ?_
      obtain ⟨r1, r2, r3⟩ := RR.out
      rw [r1, r2, r3]
      exact ⟨Tk.zero, rfl, rfl, RdT.nil _, KXPost.same S.out (BX.out W3 _ _ _ _ K3.out)⟩

end Go.Proofs.YticiofkiffgclaaGreat
