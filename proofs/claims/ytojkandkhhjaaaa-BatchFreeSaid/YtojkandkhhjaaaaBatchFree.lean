/-
  Proved: whatever the arguments are, carrierlaw12.BatchFree answers true and leaves its arguments as they were. No condition.
-/
import Derived.Test.YtojkandkhhjaaaaBn
namespace Go.Proofs.Ytojkandkhhjaaaa.batchFree
open Go.ChangeShapes Go.WideShapes Go.ChangeAt Go.RowKit
set_option linter.unusedVariables false

theorem own : ownKnob Try.prog.godebug = none := by kernel_rfl
theorem laidOut : laidOutB Try.prog = true := by kernel_rfl

set_option maxHeartbeats 8000000 in
set_option maxRecDepth 100000 in
theorem walk (a0 : Option Addr) (len cap : Nat) (f : Nat → ActD) (a1 : Option Addr) (n1 c1 : Nat) (z1 : List Int) (a2 a3 a4 : Int) (a5 : Option Addr) (n5 c5 : Nat) (z5 : List Int) (W : World)
    (w0 : IsActs W W.heap.size a0 len f ∧ len ≤ maxLen) (w1 : IsRow .u8 W a1 n1 c1 z1) (w2 : (Lit.int .u8 a2).wf = true) (w3 : (Lit.int .u8 a3).wf = true) (w4 : (Lit.int .u8 a4).wf = true) (w5 : IsRow .u8 W a5 n5 c5 z5) :
    Calls Try.prog 6 #[.slice a0 len cap, .slice a1 n1 c1, .int .u8 a2, .int .u8 a3, .int .u8 a4, .slice a5 n5 c5] W fun e w' => e = .returned (.bool true) ∧ Below W.heap.size W w' := by
  obtain ⟨q, hq⟩ : ∃ n : Nat, a2 = n := ⟨a2.toNat, by have := bounds_u8 w2; omega⟩
  have q8 : q < 256 := by have := bounds_u8 w2; omega
  subst hq
  obtain ⟨r, hr⟩ : ∃ n : Nat, a3 = n := ⟨a3.toNat, by have := bounds_u8 w3; omega⟩
  have r8 : r < 256 := by have := bounds_u8 w3; omega
  subst hr
  obtain ⟨s, hs⟩ : ∃ n : Nat, a4 = n := ⟨a4.toNat, by have := bounds_u8 w4; omega⟩
  have s8 : s < 256 := by have := bounds_u8 w4; omega
  subst hs
  obtain ⟨bs, ebs, hbs⟩ := isRow_rd w1
  subst ebs
  have Hbs := Lib.hid hbs
  obtain ⟨os, eos, hos⟩ := isRow_rd w5
  subst eos
  have Hos := Lib.hid hos
  have HA := Lib.hid w0.1
  have hlm : len ≤ 9223372036854775807 := by have := w0.2; unfold maxLen at this; omega
  obtain ⟨m, hm9⟩ : ∃ m : Nat, (r : Int) % 9 = (m : Int) := ⟨r % 9, by omega⟩
  have hm9t : (r : Int).tmod 9 = (m : Int) := by rw [Int.tmod_eq_emod_of_nonneg (by omega)]; exact hm9
  have hm8 : m < 9 := by omega
  clear w0 w1 w2 w3 w4 w5 hbs hos
  by_cases hg0 : 60 < len
  · have xg0 : (60 : Int) < (len : Int) := by omega
    go_enter Try.func6, Try.ntmps6
    go_wp2_with fail
    refine (seen_any W).mono ?_
    rintro e w1 ⟨rfl, k1⟩
    have K1 := Lib.hid k1; clear k1
    go_wp2_with fail
    refine (seen_any w1).mono ?_
    rintro e w2 ⟨rfl, k2⟩
    have K2 := Lib.hid (K1.out.trans k2 (by simp)); clear k2
    go_wp2
    go_ret
    exact ⟨rfl, K2.out.below (Nat.le_refl _) (by simp)⟩
  have xg0 : ¬ (60 : Int) < (len : Int) := by omega
  by_cases hg1 : 30 < bs.length
  · have xg1 : (30 : Int) < (bs.length : Int) := by omega
    go_enter Try.func6, Try.ntmps6
    go_wp2_with fail
    refine (seen_any W).mono ?_
    rintro e w1 ⟨rfl, k1⟩
    have K1 := Lib.hid k1; clear k1
    go_wp2_with fail
    refine (seen_any w1).mono ?_
    rintro e w2 ⟨rfl, k2⟩
    have K2 := Lib.hid (K1.out.trans k2 (by simp)); clear k2
    go_wp2
    go_ret
    exact ⟨rfl, K2.out.below (Nat.le_refl _) (by simp)⟩
  have xg1 : ¬ (30 : Int) < (bs.length : Int) := by omega
  by_cases hg2 : 10 < os.length
  · have xg2 : (10 : Int) < (os.length : Int) := by omega
    go_enter Try.func6, Try.ntmps6
    go_wp2_with fail
    refine (seen_any W).mono ?_
    rintro e w1 ⟨rfl, k1⟩
    have K1 := Lib.hid k1; clear k1
    go_wp2_with fail
    refine (seen_any w1).mono ?_
    rintro e w2 ⟨rfl, k2⟩
    have K2 := Lib.hid (K1.out.trans k2 (by simp)); clear k2
    go_wp2
    go_ret
    exact ⟨rfl, K2.out.below (Nat.le_refl _) (by simp)⟩
  have xg2 : ¬ (10 : Int) < (os.length : Int) := by omega
  go_enter Try.func6, Try.ntmps6
  go_wp2_with fail
  refine (seen_any W).mono ?_
  rintro e w1 ⟨rfl, k1⟩
  have K1 := Lib.hid k1; clear k1
  have hm := Lib.hid (managers_any _ bs w1 (Hbs.out.kept K1.out (by simp)) (by omega))
  go_wp2_with fail
  refine hm.out.mono ?_
  rintro e w2 ⟨p, g, st, rfl, t2⟩
  have M2 := Lib.hid t2.man
  have K2 := Lib.hid (K1.out.trans t2.k (by simp)); clear t2 hm
  have ho1 := Lib.hid (of_any q _ os w2 (Hos.out.kept K2.out (by simp)) (by omega))
  go_wp2_with fail
  refine ho1.out.mono ?_
  rintro e w3 ⟨A, vA, la, rfl, hA, _, _, rA, k3⟩
  obtain ⟨uA, cA, hvA, _⟩ := id rA
  subst hvA
  have RA := Lib.hid rA
  have Ew3 := Lib.hid k3
  have K3 := Lib.hid (K2.out.trans k3 (by simp))
  have BA : 1 ≤ A ∧ A ≤ 40 := by omega
  clear k3 rA hA ho1
  obtain ⟨A1, A40⟩ := BA
  obtain ⟨W4, hW1⟩ : ∃ W', W' = w3.alloc (.cells #[.int .i64 A, .slice uA la.length cA] 31) := ⟨_, rfl⟩
  have k1 : Kept w3 W4 [] := by rw [hW1]; exact (Kept.refl w3 []).alloc _
  have g1 : W4.heap[w3.heap.size]? = some (.cells #[.int .i64 A, .slice uA la.length cA] 31 (0, 0)) := by rw [hW1]; exact heap_alloc_new w3 _
  have HW1 := Lib.hid hW1; have KB1 := Lib.hid k1; have GB1 := Lib.hid g1
  have K4 := Lib.hid (K3.out.trans k1 (by simp))
  obtain ⟨y0, y1⟩ := two_cells g1
  clear hW1 k1 g1
  go_upto_region 5 with fail
  rw [← HW1.out]
  obtain ⟨Y, hY⟩ : ∃ Y : Int, A + (m : Int) = Y := ⟨_, rfl⟩
  have Y1 : 1 ≤ Y := by omega
  have Y49 : Y ≤ 49 := by omega
  have HY := Lib.hid (show A ≤ Y by omega)
  obtain ⟨W5, hW2⟩ : ∃ W', W' = W4.alloc (.cells #[.int .i64 Y, .slice none 0 0] 31) := ⟨_, rfl⟩
  have k2 : Kept W4 W5 [] := by rw [hW2]; exact (Kept.refl W4 []).alloc _
  have g2 : W5.heap[W4.heap.size]? = some (.cells #[.int .i64 Y, .slice none 0 0] 31 (0, 0)) := by rw [hW2]; exact heap_alloc_new W4 _
  have HW2 := Lib.hid hW2; have KB2 := Lib.hid k2; have GB2 := Lib.hid g2
  have K5 := Lib.hid (K4.out.trans k2 (by simp))
  obtain ⟨y0, y1⟩ := two_cells g2
  clear hW2 k2 g2
  go_upto_region 6 with fail
  rw [← HW2.out]
  clear hY
  obtain ⟨T, hT⟩ : ∃ T : Int, Y + (s : Int) = T := ⟨_, rfl⟩
  obtain ⟨W6, hW3⟩ : ∃ W', W' = W5.alloc (.cells #[.int .i64 T, .slice none 0 0] 31) := ⟨_, rfl⟩
  have k3 : Kept W5 W6 [] := by rw [hW3]; exact (Kept.refl W5 []).alloc _
  have g3 : W6.heap[W5.heap.size]? = some (.cells #[.int .i64 T, .slice none 0 0] 31 (0, 0)) := by rw [hW3]; exact heap_alloc_new W5 _
  have HW3 := Lib.hid hW3; have KB3 := Lib.hid k3; have GB3 := Lib.hid g3
  have K6 := Lib.hid (K5.out.trans k3 (by simp))
  obtain ⟨y0, y1⟩ := two_cells g3
  clear hW3 k3 g3
  go_upto_region 7 with fail
  rw [← HW3.out]
  clear hT y0 y1
  have kx := KB1.out.trans (KB2.out.trans KB3.out (by simp)) (by simp)
  have he := Lib.hid (events_any (cap := cap) (HA.out.kept K6.out) (by omega))
  go_wp2_with fail
  refine he.out.mono ?_
  rintro e w7 ⟨v7, rfl, o7, k7⟩
  obtain ⟨a6, c6, hv6⟩ := o7.shape
  subst hv6
  rw [evsA_length] at o7 ⊢
  have HL := Lib.hid (show len < 1000000 by omega)
  have hc6 : len ≤ c6 := by obtain ⟨_, _, e, h, _⟩ := o7.rd; rw [evsA_length] at e h; cases e; exact h
  have CE := Lib.hid (fun Z (hZ : Kept w7 Z []) => (o7.kept hZ (by simp)).rd)
  have CM := Lib.hid (fun Z (hZ : Kept w7 Z []) => M2.out.1.keep (Ew3.out.trans (kx.trans (k7.trans hZ (by simp)) (by simp)) (by simp)))
  have CA := Lib.hid (fun Z (hZ : Kept w7 Z []) => RA.out.keep (kx.trans (k7.trans hZ (by simp)) (by simp)))
  have CF := Lib.hid (fun Z (hZ : Kept w7 Z []) => And.intro (two_cells ((KB2.out.trans (KB3.out.trans (k7.trans hZ (by simp)) (by simp)) (by simp)).heap (by simp) GB1.out)) (And.intro (two_cells ((KB3.out.trans (k7.trans hZ (by simp)) (by simp)).heap (by simp) GB2.out)) (two_cells ((k7.trans hZ (by simp)).heap (by simp) GB3.out))))
  have K7 := Lib.hid (K6.out.trans k7 (by simp))
  obtain ⟨j0, hi0, hz0, hz1, hzb⟩ := info_parts Try.infoSp
  have I := Lib.hid (And.intro hi0 (And.intro hz0 (And.intro hz1 hzb)))
  clear o7 k7 he kx hi0 hz0 hz1 hzb
  go_wp2
  go_loopg [19] len (fun kx s19 wr => ∃ i : Nat, s19 = .int .i64 i ∧ i ≤ len ∧ len - i ≤ kx ∧ RowKit.Hid (Kept w7 wr []))
  case atStart => exact ⟨0, rfl, by omega, by omega, Kept.refl _ _⟩
  case round =>
    obtain ⟨i, rfl, hi, hkx, HK⟩ := hrel
    obtain ⟨wc, hwc⟩ : ∃ wc, wc = wr := ⟨_, rfl⟩
    subst hwc
    by_cases hlt : i < len
    · have x1 : (i : Int) < (len : Int) := by omega
      have x2 : (i : Int) + 1 ≤ (c6 : Int) := by omega
      have x3 : (i : Int) ≤ (c6 : Int) := by omega
      have x4 : (i : Int) < (c6 : Int) := by omega
      have hx := evsA_get (f := f) hlt
      have hwf := evsA_wf f len _ (List.mem_of_getElem? hx)
      obtain ⟨bm, om, ham, _⟩ := (CE.out _ HK.out).one hx
      subst ham
      have CX := Lib.hid (fun Z (hZ : Kept wc Z []) => (CE.out Z (HK.out.trans hZ (by simp))).eight hx)
      have C1 := Lib.hid (fun Z (hZ : Kept wc Z []) => (show RdE Z (.slice (some ⟨bm, om + i * 8, none⟩) 1 (c6 - i)) [evA f i] from by
        obtain ⟨bb, oo, e9, h1⟩ := (CE.out Z (HK.out.trans hZ (by simp))).one hx
        simp only [Option.some.injEq, Addr.mk.injEq] at e9
        obtain ⟨rfl, rfl, _⟩ := e9
        exact h1 _ (by omega)))
      have HWf := Lib.hid (show ∀ e ∈ [evA f i], (Lit.int .i64 e.tx).wf = true from by intro e he; simp only [List.mem_singleton] at he; subst he; exact hwf)
      have CO := Lib.hid (fun Z (hZ : Kept wc Z []) => bof_any (evA f i).ow (C1.out Z hZ) (by simp) (CM.out Z (HK.out.trans hZ (by simp))) (CA.out Z (HK.out.trans hZ (by simp))) (RdI.nil Z) HWf.out (A := A) (B := T))
      have CP := Lib.hid (fun Z (hZ : Kept wc Z []) => bof_any (evA f i).ow (C1.out Z hZ) (by simp) (CM.out Z (HK.out.trans hZ (by simp))) (RdI.nil Z) (RdI.nil Z) HWf.out (A := Y) (B := T))
      have CN := Lib.hid (fun Z (hZ : Kept wc Z []) sv (hs : RdS Z sv [⟨A, .slice uA la.length cA, la⟩]) => bfree_any (C1.out Z hZ) (by simp) (CM.out Z (HK.out.trans hZ (by simp))) hs (by simp) HWf.out)
      obtain ⟨y, hy⟩ : ∃ y, freeB st [⟨A, .slice uA la.length cA, la⟩] [evA f i] = y := ⟨_, rfl⟩
      rw [hy] at CN
      have HQ := Lib.hid (fun h => free_told (T := T) (o := (evA f i).ow) (show freeB st [⟨A, .slice uA la.length cA, la⟩] [evA f i] = true from hy.trans h) HY.out)
      generalize evA f i = x at CX C1 CO CP HWf HQ
      obtain ⟨b0, b1, b2, b3, b4, b5, b6, b7⟩ := x
      simp only at CX CO CP
      clear hx hwf hy
      obtain ⟨wB, hwB⟩ : ∃ wB, wB = wc.drew.alloc (.cells #[.int .i64 A, .slice uA la.length cA] 31) := ⟨_, rfl⟩
      have kB : Kept wc wB [] := by rw [hwB]; exact ((Kept.refl wc []).drew).alloc _
      have gB : wB.heap[wc.heap.size]? = some (.cells #[.int .i64 A, .slice uA la.length cA] 31 (0, 0)) := by rw [hwB]; exact heap_alloc_new wc.drew _
      have SB := Lib.hid (rdS_one gB (CA.out wB (HK.out.trans kB (by simp))))
      have HwB := Lib.hid hwB
      clear hwB gB
      go_upto_region 12 with fail
      refine wp_region_held_drew (S := fun Z => Kept wc Z []) (by kernel_rfl) (Kept.refl wc []).drew (fun hHeld => ?_)
      refine wpAnyH_take (i := 0) (oi := _) (v := .slice (some ⟨bm, om + i * 8, none⟩) 1 (c6 - i)) rfl (by kernel_rfl) (by kernel_rfl) (by kernel_rfl) (fun _ _ _ h => h) (Or.inl ⟨by rfl, fun V hV => by go_simp⟩) hHeld ?_
      change wpAnyH _ _ _ _ _ _ _ (Act.put _ (some 73) _) _
      simp only [Act.put, List.setIfInBounds_toArray, List.set_cons_zero, List.set_cons_succ]
      refine wpAnyH_take (i := 1) (oi := _) (v := .pointer (some ⟨p, 0, none⟩)) rfl (by kernel_rfl) (by kernel_rfl) (by kernel_rfl) (fun _ _ _ h => h) (Or.inl ⟨by rfl, fun V hV => by go_simp⟩) hHeld ?_
      change wpAnyH _ _ _ _ _ _ _ (Act.put _ (some 74) _) _
      simp only [Act.put, List.setIfInBounds_toArray, List.set_cons_zero, List.set_cons_succ]
      refine wpAnyH_take (i := 2) (oi := _) (v := .agg #[.int .i64 A, .slice uA la.length cA]) rfl (by kernel_rfl) (by kernel_rfl) (by kernel_rfl) (fun _ _ _ h => h) (Or.inl ⟨by rfl, fun V hV => by (obtain ⟨⟨y0, y1⟩, ⟨y2, y3⟩, y4, y5⟩ := CF.out V (HK.out.trans hV (by simp)); clear hV; go_simp)⟩) hHeld ?_
      change wpAnyH _ _ _ _ _ _ _ (Act.put _ (some 75) _) _
      simp only [Act.put, List.setIfInBounds_toArray, List.set_cons_zero, List.set_cons_succ]
      refine wpAnyH_ready (rs := [3]) (by kernel_rfl) (by simp) ?_
      refine AllReadyH.cons (o := _) rfl (fun K hK => ?_) AllReadyH.nil
      refine step_buildSlice_one _ rfl 44 (.tmp 75) rfl 31 j0 _ 2 Try.underlying44 I.out.1 I.out.2.1 I.out.2.2.1 (by decide) (by decide) [.int .i64 A, .slice uA la.length cA] rfl rfl ?_
      rw [← HwB.out]
      refine hK.out _ _ kB (fun hHeld => ?_)
      clear hK K
      refine wpAnyH_ready (rs := [4]) (by kernel_rfl) (by simp) ?_
      refine AllReadyH.cons (o := _) rfl (fun K hK => ?_) AllReadyH.nil
      go_simp
      go_at_call 18
      refine (CN.out _ kB _ SB.out).mono ?_
      rintro e wa ⟨rfl, ka⟩
      have ka := kB.trans ka (by simp)
      go_wp2_with fail
      refine hK.out _ _ ka (fun hHeld => ?_)
      clear hK K
      cases y
      · refine wpAnyH_take (i := 5) (oi := _) (v := .bool false) rfl (by kernel_rfl) (by kernel_rfl) (by kernel_rfl) (fun _ _ _ h => h) (Or.inl ⟨by rfl, fun V hV => by go_simp⟩) hHeld ?_
        change wpAnyH _ _ _ _ _ _ _ (Act.put _ (some 78) _) _
        simp only [Act.put, List.setIfInBounds_toArray, List.set_cons_zero, List.set_cons_succ]
        refine wpAnyH_take (i := 6) (oi := _) (v := undef) rfl (by kernel_rfl) (by kernel_rfl) (by kernel_rfl) (fun _ _ _ h => h) (Or.inr ⟨by rfl, rfl⟩) hHeld ?_
        change wpAnyH _ _ _ _ _ _ _ (Act.put _ (some 79) _) _
        simp only [Act.put, List.setIfInBounds_toArray, List.set_cons_zero, List.set_cons_succ]
        refine wpAnyH_take (i := 7) (oi := _) (v := undef) rfl (by kernel_rfl) (by kernel_rfl) (by kernel_rfl) (fun _ _ _ h => h) (Or.inr ⟨by rfl, rfl⟩) hHeld ?_
        change wpAnyH _ _ _ _ _ _ _ (Act.put _ (some 80) _) _
        simp only [Act.put, List.setIfInBounds_toArray, List.set_cons_zero, List.set_cons_succ]
        refine wpAnyH_take (i := 8) (oi := _) (v := undef) rfl (by kernel_rfl) (by kernel_rfl) (by kernel_rfl) (fun _ _ _ h => h) (Or.inr ⟨by rfl, rfl⟩) hHeld ?_
        change wpAnyH _ _ _ _ _ _ _ (Act.put _ (some 81) _) _
        simp only [Act.put, List.setIfInBounds_toArray, List.set_cons_zero, List.set_cons_succ]
        refine wpAnyH_take (i := 9) (oi := _) (v := undef) rfl (by kernel_rfl) (by kernel_rfl) (by kernel_rfl) (fun _ _ _ h => h) (Or.inr ⟨by rfl, rfl⟩) hHeld ?_
        change wpAnyH _ _ _ _ _ _ _ (Act.put _ (some 82) _) _
        simp only [Act.put, List.setIfInBounds_toArray, List.set_cons_zero, List.set_cons_succ]
        refine wpAnyH_take (i := 10) (oi := _) (v := undef) rfl (by kernel_rfl) (by kernel_rfl) (by kernel_rfl) (fun _ _ _ h => h) (Or.inr ⟨by rfl, rfl⟩) hHeld ?_
        change wpAnyH _ _ _ _ _ _ _ (Act.put _ (some 83) _) _
        simp only [Act.put, List.setIfInBounds_toArray, List.set_cons_zero, List.set_cons_succ]
        refine wpAnyH_take (i := 11) (oi := _) (v := undef) rfl (by kernel_rfl) (by kernel_rfl) (by kernel_rfl) (fun _ _ _ h => h) (Or.inr ⟨by rfl, rfl⟩) hHeld ?_
        change wpAnyH _ _ _ _ _ _ _ (Act.put _ (some 84) _) _
        simp only [Act.put, List.setIfInBounds_toArray, List.set_cons_zero, List.set_cons_succ]
        refine wpAnyH_take (i := 12) (oi := _) (v := undef) rfl (by kernel_rfl) (by kernel_rfl) (by kernel_rfl) (fun _ _ _ h => h) (Or.inr ⟨by rfl, rfl⟩) hHeld ?_
        change wpAnyH _ _ _ _ _ _ _ (Act.put _ (some 85) _) _
        simp only [Act.put, List.setIfInBounds_toArray, List.set_cons_zero, List.set_cons_succ]
        refine wpAnyH_take (i := 13) (oi := _) (v := undef) rfl (by kernel_rfl) (by kernel_rfl) (by kernel_rfl) (fun _ _ _ h => h) (Or.inr ⟨by rfl, rfl⟩) hHeld ?_
        change wpAnyH _ _ _ _ _ _ _ (Act.put _ (some 86) _) _
        simp only [Act.put, List.setIfInBounds_toArray, List.set_cons_zero, List.set_cons_succ]
        refine wpAnyH_take (i := 14) (oi := _) (v := undef) rfl (by kernel_rfl) (by kernel_rfl) (by kernel_rfl) (fun _ _ _ h => h) (Or.inr ⟨by rfl, rfl⟩) hHeld ?_
        change wpAnyH _ _ _ _ _ _ _ (Act.put _ (some 87) _) _
        simp only [Act.put, List.setIfInBounds_toArray, List.set_cons_zero, List.set_cons_succ]
        refine wpAnyH_take (i := 15) (oi := _) (v := undef) rfl (by kernel_rfl) (by kernel_rfl) (by kernel_rfl) (fun _ _ _ h => h) (Or.inr ⟨by rfl, rfl⟩) hHeld ?_
        change wpAnyH _ _ _ _ _ _ _ (Act.put _ (some 88) _) _
        simp only [Act.put, List.setIfInBounds_toArray, List.set_cons_zero, List.set_cons_succ]
        refine wpAnyH_take (i := 16) (oi := _) (v := undef) rfl (by kernel_rfl) (by kernel_rfl) (by kernel_rfl) (fun _ _ _ h => h) (Or.inr ⟨by rfl, rfl⟩) hHeld ?_
        change wpAnyH _ _ _ _ _ _ _ (Act.put _ (some 89) _) _
        simp only [Act.put, List.setIfInBounds_toArray, List.set_cons_zero, List.set_cons_succ]
        refine wpAnyH_take (i := 17) (oi := _) (v := undef) rfl (by kernel_rfl) (by kernel_rfl) (by kernel_rfl) (fun _ _ _ h => h) (Or.inr ⟨by rfl, rfl⟩) hHeld ?_
        change wpAnyH _ _ _ _ _ _ _ (Act.put _ (some 90) _) _
        simp only [Act.put, List.setIfInBounds_toArray, List.set_cons_zero, List.set_cons_succ]
        refine wpAnyH_take (i := 18) (oi := _) (v := undef) rfl (by kernel_rfl) (by kernel_rfl) (by kernel_rfl) (fun _ _ _ h => h) (Or.inr ⟨by rfl, rfl⟩) hHeld ?_
        change wpAnyH _ _ _ _ _ _ _ (Act.put _ (some 91) _) _
        simp only [Act.put, List.setIfInBounds_toArray, List.set_cons_zero, List.set_cons_succ]
        refine wpAnyH_take (i := 19) (oi := _) (v := undef) rfl (by kernel_rfl) (by kernel_rfl) (by kernel_rfl) (fun _ _ _ h => h) (Or.inr ⟨by rfl, rfl⟩) hHeld ?_
        change wpAnyH _ _ _ _ _ _ _ (Act.put _ (some 92) _) _
        simp only [Act.put, List.setIfInBounds_toArray, List.set_cons_zero, List.set_cons_succ]
        refine wpAnyH_take (i := 20) (oi := _) (v := undef) rfl (by kernel_rfl) (by kernel_rfl) (by kernel_rfl) (fun _ _ _ h => h) (Or.inr ⟨by rfl, rfl⟩) hHeld ?_
        change wpAnyH _ _ _ _ _ _ _ (Act.put _ (some 93) _) _
        simp only [Act.put, List.setIfInBounds_toArray, List.set_cons_zero, List.set_cons_succ]
        refine wpAnyH_take (i := 21) (oi := _) (v := undef) rfl (by kernel_rfl) (by kernel_rfl) (by kernel_rfl) (fun _ _ _ h => h) (Or.inr ⟨by rfl, rfl⟩) hHeld ?_
        change wpAnyH _ _ _ _ _ _ _ (Act.put _ (some 94) _) _
        simp only [Act.put, List.setIfInBounds_toArray, List.set_cons_zero, List.set_cons_succ]
        refine wpAnyH_take (i := 22) (oi := _) (v := undef) rfl (by kernel_rfl) (by kernel_rfl) (by kernel_rfl) (fun _ _ _ h => h) (Or.inr ⟨by rfl, rfl⟩) hHeld ?_
        change wpAnyH _ _ _ _ _ _ _ (Act.put _ (some 95) _) _
        simp only [Act.put, List.setIfInBounds_toArray, List.set_cons_zero, List.set_cons_succ]
        refine wpAnyH_take (i := 23) (oi := _) (v := undef) rfl (by kernel_rfl) (by kernel_rfl) (by kernel_rfl) (fun _ _ _ h => h) (Or.inr ⟨by rfl, rfl⟩) hHeld ?_
        change wpAnyH _ _ _ _ _ _ _ (Act.put _ (some 96) _) _
        simp only [Act.put, List.setIfInBounds_toArray, List.set_cons_zero, List.set_cons_succ]
        refine wpAnyH_take (i := 24) (oi := _) (v := undef) rfl (by kernel_rfl) (by kernel_rfl) (by kernel_rfl) (fun _ _ _ h => h) (Or.inr ⟨by rfl, rfl⟩) hHeld ?_
        change wpAnyH _ _ _ _ _ _ _ (Act.put _ (some 97) _) _
        simp only [Act.put, List.setIfInBounds_toArray, List.set_cons_zero, List.set_cons_succ]
        refine wpAnyH_take (i := 25) (oi := _) (v := undef) rfl (by kernel_rfl) (by kernel_rfl) (by kernel_rfl) (fun _ _ _ h => h) (Or.inr ⟨by rfl, rfl⟩) hHeld ?_
        change wpAnyH _ _ _ _ _ _ _ (Act.put _ (some 98) _) _
        simp only [Act.put, List.setIfInBounds_toArray, List.set_cons_zero, List.set_cons_succ]
        refine wpAnyH_take (i := 26) (oi := _) (v := undef) rfl (by kernel_rfl) (by kernel_rfl) (by kernel_rfl) (fun _ _ _ h => h) (Or.inr ⟨by rfl, rfl⟩) hHeld ?_
        change wpAnyH _ _ _ _ _ _ _ (Act.put _ (some 99) _) _
        simp only [Act.put, List.setIfInBounds_toArray, List.set_cons_zero, List.set_cons_succ]
        refine wpAnyH_take (i := 27) (oi := _) (v := undef) rfl (by kernel_rfl) (by kernel_rfl) (by kernel_rfl) (fun _ _ _ h => h) (Or.inr ⟨by rfl, rfl⟩) hHeld ?_
        change wpAnyH _ _ _ _ _ _ _ (Act.put _ (some 100) _) _
        simp only [Act.put, List.setIfInBounds_toArray, List.set_cons_zero, List.set_cons_succ]
        refine wpAnyH_take (i := 28) (oi := _) (v := undef) rfl (by kernel_rfl) (by kernel_rfl) (by kernel_rfl) (fun _ _ _ h => h) (Or.inr ⟨by rfl, rfl⟩) hHeld ?_
        change wpAnyH _ _ _ _ _ _ _ (Act.put _ (some 101) _) _
        simp only [Act.put, List.setIfInBounds_toArray, List.set_cons_zero, List.set_cons_succ]
        refine wpAnyH_take (i := 29) (oi := _) (v := undef) rfl (by kernel_rfl) (by kernel_rfl) (by kernel_rfl) (fun _ _ _ h => h) (Or.inr ⟨by rfl, rfl⟩) hHeld ?_
        change wpAnyH _ _ _ _ _ _ _ (Act.put _ (some 102) _) _
        simp only [Act.put, List.setIfInBounds_toArray, List.set_cons_zero, List.set_cons_succ]
        refine wpAnyH_take (i := 30) (oi := _) (v := undef) rfl (by kernel_rfl) (by kernel_rfl) (by kernel_rfl) (fun _ _ _ h => h) (Or.inr ⟨by rfl, rfl⟩) hHeld ?_
        change wpAnyH _ _ _ _ _ _ _ (Act.put _ (some 103) _) _
        simp only [Act.put, List.setIfInBounds_toArray, List.set_cons_zero, List.set_cons_succ]
        refine wpAnyH_take (i := 31) (oi := _) (v := undef) rfl (by kernel_rfl) (by kernel_rfl) (by kernel_rfl) (fun _ _ _ h => h) (Or.inr ⟨by rfl, rfl⟩) hHeld ?_
        change wpAnyH _ _ _ _ _ _ _ (Act.put _ (some 104) _) _
        simp only [Act.put, List.setIfInBounds_toArray, List.set_cons_zero, List.set_cons_succ]
        refine wpAnyH_take (i := 32) (oi := _) (v := .bool false) rfl (by kernel_rfl) (by kernel_rfl) (by kernel_rfl) (fun _ _ _ h => h) (Or.inl ⟨by rfl, fun V hV => by go_simp⟩) hHeld ?_
        change wpAnyH _ _ _ _ _ _ _ (Act.put _ (some 105) _) _
        simp only [Act.put, List.setIfInBounds_toArray, List.set_cons_zero, List.set_cons_succ]
        refine wpAnyH_done (by kernel_rfl) ?_ _
        have KB := Lib.hid (HK.out.trans ka (by simp))
        clear ka hHeld kB
        go_wp2
        go_roundg (len - (i + 1))
        case measure => omega
        case rel => exact ⟨i + 1, by go_num, by omega, by omega, KB⟩
      · have Q1 := (HQ.out rfl).1; have Q2 := (HQ.out rfl).2
        rw [Q1] at CO; rw [Q2] at CP
        clear Q1 Q2
        refine wpAnyH_take (i := 5) (oi := _) (v := .bool true) rfl (by kernel_rfl) (by kernel_rfl) (by kernel_rfl) (fun _ _ _ h => h) (Or.inl ⟨by rfl, fun V hV => by go_simp⟩) hHeld ?_
        change wpAnyH _ _ _ _ _ _ _ (Act.put _ (some 78) _) _
        simp only [Act.put, List.setIfInBounds_toArray, List.set_cons_zero, List.set_cons_succ]
        refine wpAnyH_take (i := 6) (oi := _) (v := .slice (some ⟨bm, om + i * 8, none⟩) 1 (c6 - i)) rfl (by kernel_rfl) (by kernel_rfl) (by kernel_rfl) (fun _ _ _ h => h) (Or.inl ⟨by rfl, fun V hV => by go_simp⟩) hHeld ?_
        change wpAnyH _ _ _ _ _ _ _ (Act.put _ (some 79) _) _
        simp only [Act.put, List.setIfInBounds_toArray, List.set_cons_zero, List.set_cons_succ]
        refine wpAnyH_take (i := 7) (oi := _) (v := .pointer (some ⟨p, 0, none⟩)) rfl (by kernel_rfl) (by kernel_rfl) (by kernel_rfl) (fun _ _ _ h => h) (Or.inl ⟨by rfl, fun V hV => by go_simp⟩) hHeld ?_
        change wpAnyH _ _ _ _ _ _ _ (Act.put _ (some 80) _) _
        simp only [Act.put, List.setIfInBounds_toArray, List.set_cons_zero, List.set_cons_succ]
        refine wpAnyH_take (i := 8) (oi := _) (v := .agg #[.int .i64 A, .slice uA la.length cA]) rfl (by kernel_rfl) (by kernel_rfl) (by kernel_rfl) (fun _ _ _ h => h) (Or.inl ⟨by rfl, fun V hV => by (obtain ⟨⟨y0, y1⟩, ⟨y2, y3⟩, y4, y5⟩ := CF.out V (HK.out.trans hV (by simp)); clear hV; go_simp)⟩) hHeld ?_
        change wpAnyH _ _ _ _ _ _ _ (Act.put _ (some 81) _) _
        simp only [Act.put, List.setIfInBounds_toArray, List.set_cons_zero, List.set_cons_succ]
        refine wpAnyH_take (i := 9) (oi := _) (v := .agg #[.int .i64 T, .slice none 0 0]) rfl (by kernel_rfl) (by kernel_rfl) (by kernel_rfl) (fun _ _ _ h => h) (Or.inl ⟨by rfl, fun V hV => by (obtain ⟨⟨y0, y1⟩, ⟨y2, y3⟩, y4, y5⟩ := CF.out V (HK.out.trans hV (by simp)); clear hV; go_simp)⟩) hHeld ?_
        change wpAnyH _ _ _ _ _ _ _ (Act.put _ (some 82) _) _
        simp only [Act.put, List.setIfInBounds_toArray, List.set_cons_zero, List.set_cons_succ]
        refine wpAnyH_take (i := 10) (oi := _) (v := .slice (some ⟨bm, om, none⟩) len c6) rfl (by kernel_rfl) (by kernel_rfl) (by kernel_rfl) (fun _ _ _ h => h) (Or.inl ⟨by rfl, fun V hV => by go_simp⟩) hHeld ?_
        change wpAnyH _ _ _ _ _ _ _ (Act.put _ (some 83) _) _
        simp only [Act.put, List.setIfInBounds_toArray, List.set_cons_zero, List.set_cons_succ]
        refine wpAnyH_take (i := 11) (oi := _) (v := .int .i64 i) rfl (by kernel_rfl) (by kernel_rfl) (by kernel_rfl) (fun _ _ _ h => h) (Or.inl ⟨by rfl, fun V hV => by go_simp⟩) hHeld ?_
        change wpAnyH _ _ _ _ _ _ _ (Act.put _ (some 84) _) _
        simp only [Act.put, List.setIfInBounds_toArray, List.set_cons_zero, List.set_cons_succ]
        refine wpAnyH_take (i := 12) (oi := _) (v := .pointer (some ⟨bm, om + i * 8, none⟩)) rfl (by kernel_rfl) (by kernel_rfl) (by kernel_rfl) (fun _ _ _ h => h) (Or.inl ⟨by rfl, fun V hV => by go_simp⟩) hHeld ?_
        change wpAnyH _ _ _ _ _ _ _ (Act.put _ (some 85) _) _
        simp only [Act.put, List.setIfInBounds_toArray, List.set_cons_zero, List.set_cons_succ]
        refine wpAnyH_take (i := 13) (oi := _) (v := .pointer (some ⟨bm, om + i * 8 + 2, none⟩)) rfl (by kernel_rfl) (by kernel_rfl) (by kernel_rfl) (fun _ _ _ h => h) (Or.inl ⟨by rfl, fun V hV => by go_simp⟩) hHeld ?_
        change wpAnyH _ _ _ _ _ _ _ (Act.put _ (some 86) _) _
        simp only [Act.put, List.setIfInBounds_toArray, List.set_cons_zero, List.set_cons_succ]
        refine wpAnyH_take (i := 14) (oi := _) (v := .string b2) rfl (by kernel_rfl) (by kernel_rfl) (by kernel_rfl) (fun _ _ _ h => h) (Or.inl ⟨by rfl, fun V hV => by (obtain ⟨bb, oo, e9, p0, p1, p2, p3, p4, p5, p6, p7⟩ := CX.out V hV; simp only [Option.some.injEq, Addr.mk.injEq] at e9; obtain ⟨rfl, rfl, _⟩ := e9; clear hV; go_simp)⟩) hHeld ?_
        change wpAnyH _ _ _ _ _ _ _ (Act.put _ (some 87) _) _
        simp only [Act.put, List.setIfInBounds_toArray, List.set_cons_zero, List.set_cons_succ]
        refine wpAnyH_ready (rs := [15]) (by kernel_rfl) (by simp) ?_
        refine AllReadyH.cons (o := _) rfl (fun K hK => ?_) AllReadyH.nil
        go_simp
        go_at_call 14
        refine (CO.out _ ka).mono ?_
        rintro e wb ⟨vb, rfl, ob, kb⟩
        have kb := ka.trans kb (by simp)
        obtain ⟨ub, nb, hvb⟩ := ob.shape
        subst hvb
        clear ka ob
        go_wp2_with fail
        refine hK.out _ _ kb (fun hHeld => ?_)
        clear hK K
        refine wpAnyH_take (i := 16) (oi := _) (v := .int .i64 0) rfl (by kernel_rfl) (by kernel_rfl) (by kernel_rfl) (fun _ _ _ h => h) (Or.inl ⟨by rfl, fun V hV => by go_simp⟩) hHeld ?_
        change wpAnyH _ _ _ _ _ _ _ (Act.put _ (some 89) _) _
        simp only [Act.put, List.setIfInBounds_toArray, List.set_cons_zero, List.set_cons_succ]
        refine wpAnyH_take (i := 17) (oi := _) (v := .bool false) rfl (by kernel_rfl) (by kernel_rfl) (by kernel_rfl) (fun _ _ _ h => h) (Or.inl ⟨by rfl, fun V hV => by go_simp⟩) hHeld ?_
        change wpAnyH _ _ _ _ _ _ _ (Act.put _ (some 90) _) _
        simp only [Act.put, List.setIfInBounds_toArray, List.set_cons_zero, List.set_cons_succ]
        refine wpAnyH_take (i := 18) (oi := _) (v := .bool false) rfl (by kernel_rfl) (by kernel_rfl) (by kernel_rfl) (fun _ _ _ h => h) (Or.inl ⟨by rfl, fun V hV => by go_simp⟩) hHeld ?_
        change wpAnyH _ _ _ _ _ _ _ (Act.put _ (some 91) _) _
        simp only [Act.put, List.setIfInBounds_toArray, List.set_cons_zero, List.set_cons_succ]
        refine wpAnyH_take (i := 19) (oi := _) (v := .slice (some ⟨bm, om + i * 8, none⟩) 1 (c6 - i)) rfl (by kernel_rfl) (by kernel_rfl) (by kernel_rfl) (fun _ _ _ h => h) (Or.inl ⟨by rfl, fun V hV => by go_simp⟩) hHeld ?_
        change wpAnyH _ _ _ _ _ _ _ (Act.put _ (some 92) _) _
        simp only [Act.put, List.setIfInBounds_toArray, List.set_cons_zero, List.set_cons_succ]
        refine wpAnyH_take (i := 20) (oi := _) (v := .pointer (some ⟨p, 0, none⟩)) rfl (by kernel_rfl) (by kernel_rfl) (by kernel_rfl) (fun _ _ _ h => h) (Or.inl ⟨by rfl, fun V hV => by go_simp⟩) hHeld ?_
        change wpAnyH _ _ _ _ _ _ _ (Act.put _ (some 93) _) _
        simp only [Act.put, List.setIfInBounds_toArray, List.set_cons_zero, List.set_cons_succ]
        refine wpAnyH_take (i := 21) (oi := _) (v := .agg #[.int .i64 Y, .slice none 0 0]) rfl (by kernel_rfl) (by kernel_rfl) (by kernel_rfl) (fun _ _ _ h => h) (Or.inl ⟨by rfl, fun V hV => by (obtain ⟨⟨y0, y1⟩, ⟨y2, y3⟩, y4, y5⟩ := CF.out V (HK.out.trans hV (by simp)); clear hV; go_simp)⟩) hHeld ?_
        change wpAnyH _ _ _ _ _ _ _ (Act.put _ (some 94) _) _
        simp only [Act.put, List.setIfInBounds_toArray, List.set_cons_zero, List.set_cons_succ]
        refine wpAnyH_take (i := 22) (oi := _) (v := .agg #[.int .i64 T, .slice none 0 0]) rfl (by kernel_rfl) (by kernel_rfl) (by kernel_rfl) (fun _ _ _ h => h) (Or.inl ⟨by rfl, fun V hV => by (obtain ⟨⟨y0, y1⟩, ⟨y2, y3⟩, y4, y5⟩ := CF.out V (HK.out.trans hV (by simp)); clear hV; go_simp)⟩) hHeld ?_
        change wpAnyH _ _ _ _ _ _ _ (Act.put _ (some 95) _) _
        simp only [Act.put, List.setIfInBounds_toArray, List.set_cons_zero, List.set_cons_succ]
        refine wpAnyH_take (i := 23) (oi := _) (v := .slice (some ⟨bm, om, none⟩) len c6) rfl (by kernel_rfl) (by kernel_rfl) (by kernel_rfl) (fun _ _ _ h => h) (Or.inl ⟨by rfl, fun V hV => by go_simp⟩) hHeld ?_
        change wpAnyH _ _ _ _ _ _ _ (Act.put _ (some 96) _) _
        simp only [Act.put, List.setIfInBounds_toArray, List.set_cons_zero, List.set_cons_succ]
        refine wpAnyH_take (i := 24) (oi := _) (v := .int .i64 i) rfl (by kernel_rfl) (by kernel_rfl) (by kernel_rfl) (fun _ _ _ h => h) (Or.inl ⟨by rfl, fun V hV => by go_simp⟩) hHeld ?_
        change wpAnyH _ _ _ _ _ _ _ (Act.put _ (some 97) _) _
        simp only [Act.put, List.setIfInBounds_toArray, List.set_cons_zero, List.set_cons_succ]
        refine wpAnyH_take (i := 25) (oi := _) (v := .pointer (some ⟨bm, om + i * 8, none⟩)) rfl (by kernel_rfl) (by kernel_rfl) (by kernel_rfl) (fun _ _ _ h => h) (Or.inl ⟨by rfl, fun V hV => by go_simp⟩) hHeld ?_
        change wpAnyH _ _ _ _ _ _ _ (Act.put _ (some 98) _) _
        simp only [Act.put, List.setIfInBounds_toArray, List.set_cons_zero, List.set_cons_succ]
        refine wpAnyH_take (i := 26) (oi := _) (v := .pointer (some ⟨bm, om + i * 8 + 2, none⟩)) rfl (by kernel_rfl) (by kernel_rfl) (by kernel_rfl) (fun _ _ _ h => h) (Or.inl ⟨by rfl, fun V hV => by go_simp⟩) hHeld ?_
        change wpAnyH _ _ _ _ _ _ _ (Act.put _ (some 99) _) _
        simp only [Act.put, List.setIfInBounds_toArray, List.set_cons_zero, List.set_cons_succ]
        refine wpAnyH_take (i := 27) (oi := _) (v := .string b2) rfl (by kernel_rfl) (by kernel_rfl) (by kernel_rfl) (fun _ _ _ h => h) (Or.inl ⟨by rfl, fun V hV => by (obtain ⟨bb, oo, e9, p0, p1, p2, p3, p4, p5, p6, p7⟩ := CX.out V hV; simp only [Option.some.injEq, Addr.mk.injEq] at e9; obtain ⟨rfl, rfl, _⟩ := e9; clear hV; go_simp)⟩) hHeld ?_
        change wpAnyH _ _ _ _ _ _ _ (Act.put _ (some 100) _) _
        simp only [Act.put, List.setIfInBounds_toArray, List.set_cons_zero, List.set_cons_succ]
        refine wpAnyH_ready (rs := [28]) (by kernel_rfl) (by simp) ?_
        refine AllReadyH.cons (o := _) rfl (fun K hK => ?_) AllReadyH.nil
        go_simp
        go_at_call 14
        refine (CP.out _ kb).mono ?_
        rintro e wd ⟨vd, rfl, od, kd⟩
        have kd := kb.trans kd (by simp)
        obtain ⟨ud, nd, hvd⟩ := od.shape
        subst hvd
        clear kb od
        go_wp2_with fail
        refine hK.out _ _ kd (fun hHeld => ?_)
        clear hK K
        refine wpAnyH_take (i := 29) (oi := _) (v := .int .i64 0) rfl (by kernel_rfl) (by kernel_rfl) (by kernel_rfl) (fun _ _ _ h => h) (Or.inl ⟨by rfl, fun V hV => by go_simp⟩) hHeld ?_
        change wpAnyH _ _ _ _ _ _ _ (Act.put _ (some 102) _) _
        simp only [Act.put, List.setIfInBounds_toArray, List.set_cons_zero, List.set_cons_succ]
        refine wpAnyH_take (i := 30) (oi := _) (v := .bool false) rfl (by kernel_rfl) (by kernel_rfl) (by kernel_rfl) (fun _ _ _ h => h) (Or.inl ⟨by rfl, fun V hV => by go_simp⟩) hHeld ?_
        change wpAnyH _ _ _ _ _ _ _ (Act.put _ (some 103) _) _
        simp only [Act.put, List.setIfInBounds_toArray, List.set_cons_zero, List.set_cons_succ]
        refine wpAnyH_take (i := 31) (oi := _) (v := .bool false) rfl (by kernel_rfl) (by kernel_rfl) (by kernel_rfl) (fun _ _ _ h => h) (Or.inl ⟨by rfl, fun V hV => by go_simp⟩) hHeld ?_
        change wpAnyH _ _ _ _ _ _ _ (Act.put _ (some 104) _) _
        simp only [Act.put, List.setIfInBounds_toArray, List.set_cons_zero, List.set_cons_succ]
        refine wpAnyH_take (i := 32) (oi := _) (v := .bool false) rfl (by kernel_rfl) (by kernel_rfl) (by kernel_rfl) (fun _ _ _ h => h) (Or.inl ⟨by rfl, fun V hV => by go_simp⟩) hHeld ?_
        change wpAnyH _ _ _ _ _ _ _ (Act.put _ (some 105) _) _
        simp only [Act.put, List.setIfInBounds_toArray, List.set_cons_zero, List.set_cons_succ]
        refine wpAnyH_done (by kernel_rfl) ?_ _
        have KB := Lib.hid (HK.out.trans kd (by simp))
        clear kd hHeld kB
        go_wp2
        go_roundg (len - (i + 1))
        case measure => omega
        case rel => exact ⟨i + 1, by go_num, by omega, by omega, KB⟩
    · have x1 : ¬ (i : Int) < (len : Int) := by omega
      go_wp2
      go_ret
      exact ⟨rfl, (K7.out.trans HK.out (by simp)).below (Nat.le_refl _) (by simp)⟩

set_option maxRecDepth 100000 in
theorem lifted (os : Os) (started : os.Started) (H : Type) (enc : TypeId × Value → H) :
    ReturnsInHanded {} Try.checked os 6 .any (Rows.batchFreeSpec.pre6 enc Try.prog Try.f6 Rows.batchFreeRow.domain false) (Rows.batchFreeSpec.post enc Try.prog Try.f6 false true false false) := by
  refine returnsInHanded_of_change (C := Try.checked) own started (by kernel_rfl) Try.func6
    (ChangeSpec.witness6 (enc := enc) (C := Try.checked) false ⟨#[], #[.slice none 0 0, .slice none 0 0, .int .u8 0, .int .u8 0, .int .u8 0, .slice none 0 0], []⟩ 8 (by kernel_rfl) (by kernel_rfl) (by kernel_rfl) (by kernel_rfl)) ?_
  intro W base args ds gs before hval0 hW hcnd _
  have hval : ∀ (j : Nat) t v, Try.f6.params[j]? = some t → args[j]? = some v → Value.okWide Try.prog W .any base t v := hval0
  have hW' := hW
  obtain ⟨p, q, hA0, hV, rfl, hfz, hnd⟩ := hW
  have hA : DataW.TrodAll enc Try.prog W 0 (fun _ => true) true Try.f6.params.toList args.toList ds p := hA0
  rw [Try.params6] at hA hval
  obtain ⟨v0, vs0, d0, ds0, p0, q0, hargs, rfl, rfl, h0, r0⟩ := trodAll_cons hA
  obtain ⟨v1, vs1, d1, ds1, p1, q1, rfl, rfl, rfl, h1, r1⟩ := trodAll_cons r0
  obtain ⟨v2, vs2, d2, ds2, p2, q2, rfl, rfl, rfl, h2, r2⟩ := trodAll_cons r1
  obtain ⟨v3, vs3, d3, ds3, p3, q3, rfl, rfl, rfl, h3, r3⟩ := trodAll_cons r2
  obtain ⟨v4, vs4, d4, ds4, p4, q4, rfl, rfl, rfl, h4, r4⟩ := trodAll_cons r3
  obtain ⟨v5, vs5, d5, ds5, p5, q5, rfl, rfl, rfl, h5, r5⟩ := trodAll_cons r4
  obtain ⟨rfl, rfl, rfl⟩ := trodAll_nil r5
  obtain rfl : args = #[v0, v1, v2, v3, v4, v5] := by cases args; simp_all
  obtain ⟨rfl, rfl⟩ := trodVars_none hV
  obtain ⟨a0, len0, cap0, rfl⟩ := okWide_slice Try.underlying22 (hval 0 22 v0 rfl rfl)
  have k0 := h0
  have lt0 : ∀ x ∈ p0, x.block < W.heap.size := by obtain ⟨m, hm⟩ := k0; exact DataW.trod_lt m _ _ _ hm
  obtain ⟨z0, w0⟩ : ∃ f, IsActs W W.heap.size a0 len0 f ∧ len0 ≤ maxLen := by
    obtain ⟨fuel, hf⟩ := h0
    exact acts_open (by simpa [Value.cells] using hf)
  obtain ⟨a1, len1, cap1, rfl⟩ := okWide_slice Try.underlying23 (hval 1 23 v1 rfl rfl)
  have k1 := h1
  have lt1 : ∀ x ∈ p1, x.block < W.heap.size := by obtain ⟨m, hm⟩ := k1; exact DataW.trod_lt m _ _ _ hm
  obtain ⟨z1, w1⟩ : ∃ zs, IsRow .u8 W a1 len1 cap1 zs := by
    obtain ⟨fuel, hf⟩ := h1
    rcases open_ints Try.underlying23 Try.underlying5 (by kernel_rfl) hf with ⟨hcs, _⟩ | ⟨x, l, c, zs, hcs, _, hl, hm, hz, _, hcell, hwz⟩
    · simp [Value.cells] at hcs
      obtain ⟨rfl, rfl, rfl⟩ := hcs
      exact ⟨[], .inl ⟨rfl, rfl, rfl, rfl⟩⟩
    · simp [Value.cells] at hcs
      obtain ⟨rfl, rfl, rfl⟩ := hcs
      exact ⟨zs, .inr ⟨_, rfl, hl, hm, by simpa using hz, hcell, hwz⟩⟩
  obtain ⟨a2, rfl, rfl, rfl, w2⟩ := open_int Try.underlying5 (hval 2 5 v2 rfl rfl) h2
  obtain ⟨a3, rfl, rfl, rfl, w3⟩ := open_int Try.underlying5 (hval 3 5 v3 rfl rfl) h3
  obtain ⟨a4, rfl, rfl, rfl, w4⟩ := open_int Try.underlying5 (hval 4 5 v4 rfl rfl) h4
  obtain ⟨a5, len5, cap5, rfl⟩ := okWide_slice Try.underlying23 (hval 5 23 v5 rfl rfl)
  have k5 := h5
  have lt5 : ∀ x ∈ p5, x.block < W.heap.size := by obtain ⟨m, hm⟩ := k5; exact DataW.trod_lt m _ _ _ hm
  obtain ⟨z5, w5⟩ : ∃ zs, IsRow .u8 W a5 len5 cap5 zs := by
    obtain ⟨fuel, hf⟩ := h5
    rcases open_ints Try.underlying23 Try.underlying5 (by kernel_rfl) hf with ⟨hcs, _⟩ | ⟨x, l, c, zs, hcs, _, hl, hm, hz, _, hcell, hwz⟩
    · simp [Value.cells] at hcs
      obtain ⟨rfl, rfl, rfl⟩ := hcs
      exact ⟨[], .inl ⟨rfl, rfl, rfl, rfl⟩⟩
    · simp [Value.cells] at hcs
      obtain ⟨rfl, rfl, rfl⟩ := hcs
      exact ⟨zs, .inr ⟨_, rfl, hl, hm, by simpa using hz, hcell, hwz⟩⟩
  clear hA0 hval0
  refine (walk a0 len0 cap0 z0 a1 len1 cap1 z1 a2 a3 a4 a5 len5 cap5 z5 W w0 w1 w2 w3 w4 w5).mono fun e W' ⟨he, bel⟩ => ?_
  subst he
  exact ⟨_, rfl, _, _, _, [], _, [], hW', trodAll_mk1 (shut_bool Try.underlying4 _), (trodAll_cons_mk (Below.trod laidOut (by kernel_rfl) (of_decide_eq_true (by kernel_rfl)) k0 bel lt0) (trodAll_cons_mk (Below.trod laidOut (by kernel_rfl) (of_decide_eq_true (by kernel_rfl)) k1 bel lt1) (trodAll_cons_mk (shut_int Try.underlying5 w2) (trodAll_cons_mk (shut_int Try.underlying5 w3) (trodAll_cons_mk (shut_int Try.underlying5 w4) (trodAll_cons_mk (Below.trod laidOut (by kernel_rfl) (of_decide_eq_true (by kernel_rfl)) k5 bel lt5) trodAll_mk0)))))), rfl, bel.frame _, fun h => by cases h⟩

theorem over : Rows.batchFreeRow.holds Try.pinned (OpenSpec.ofChange Rows.batchFreeSpec) :=
  OpenClaim.holds_of_wide 6 Try.f6 rfl rfl rfl rfl rfl rfl rfl ⟨rfl, rfl, rfl, rfl, rfl⟩ rfl rfl rfl rfl rfl (by kernel_rfl) Try.func6 (by kernel_rfl)
    (of_decide_eq_true (by kernel_rfl)) (by unfold Func.isWrapper; first | (rw [if_pos (by decide +kernel)]; kernel_rfl) | (rw [if_neg (by decide +kernel)]; exact ⟨rfl, rfl⟩))
    (fun os started H enc _ => lifted os started H enc)

theorem proved : Rows.BatchFreeSaid :=
  over
end Go.Proofs.Ytojkandkhhjaaaa.batchFree

namespace Go.Proofs.Ytojkandkhhjaaaa
theorem batchFree_holds : Rows.BatchFreeSaid := batchFree.proved
#print axioms batchFree_holds
end Go.Proofs.Ytojkandkhhjaaaa

