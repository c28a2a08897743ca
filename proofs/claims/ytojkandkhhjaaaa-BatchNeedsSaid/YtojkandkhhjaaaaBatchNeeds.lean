/-
  Proved: whatever the arguments are, carrierlaw12.BatchNeeds answers true and leaves its arguments as they were. No condition.
-/
import Derived.Test.YtojkandkhhjaaaaBm
namespace Go.Proofs.Ytojkandkhhjaaaa.batchNeeds
open Go.ChangeShapes Go.WideShapes Go.ChangeAt Go.RowKit
set_option linter.unusedVariables false

theorem own : ownKnob Try.prog.godebug = none := by kernel_rfl
theorem laidOut : laidOutB Try.prog = true := by kernel_rfl

theorem rdS_two {w : World} {z : Nat} {A B : Int} {va vb : Value} {la lb : List Int} {fz : Nat × Nat} (h : w.heap[z]? = some (.cells #[.int .i64 A, va, .int .i64 B, vb] 31 fz)) (ha : RdI w va la) (hb : RdI w vb lb) {m : Nat} (hm : m ≤ 2) :
    RdS w (.slice (some ⟨z, 0, none⟩) m 2) ([Sv.mk A va la, Sv.mk B vb lb].take m) := by
  have c0 : w.cell? ⟨z, 0, none⟩ = some (.int .i64 A) := by rw [cell_of_row _ _ _ _ _ _ h]; rfl
  have c1 : w.cell? ⟨z, 1, none⟩ = some va := by rw [cell_of_row _ _ _ _ _ _ h]; rfl
  have c2 : w.cell? ⟨z, 2, none⟩ = some (.int .i64 B) := by rw [cell_of_row _ _ _ _ _ _ h]; rfl
  have c3 : w.cell? ⟨z, 3, none⟩ = some vb := by rw [cell_of_row _ _ _ _ _ _ h]; rfl
  have hl : ([Sv.mk A va la, Sv.mk B vb lb].take m).length = m := by rw [List.length_take]; simp; omega
  refine ⟨some ⟨z, 0, none⟩, 2, by rw [hl], fun i s hs => ?_, fun s hs => ?_⟩
  · rw [List.getElem?_take] at hs
    split at hs
    · match i, hs with
      | 0, hs =>
        simp only [List.getElem?_cons_zero, Option.some.injEq] at hs
        subst hs
        exact ⟨z, 0, rfl, c0, c1⟩
      | 1, hs =>
        simp only [List.getElem?_cons_succ, List.getElem?_cons_zero, Option.some.injEq] at hs
        subst hs
        exact ⟨z, 0, rfl, c2, c3⟩
      | i + 2, hs => simp at hs
    · cases hs
  · have := List.mem_of_mem_take hs
    simp only [List.mem_cons, List.not_mem_nil, or_false] at this
    rcases this with rfl | rfl
    · exact ha
    · exact hb

set_option maxHeartbeats 8000000 in
set_option maxRecDepth 100000 in
theorem walk (a0 : Option Addr) (len cap : Nat) (f : Nat → ActD) (a1 : Option Addr) (n1 c1 : Nat) (z1 : List Int) (a2 a3 : Int) (a4 : Option Addr) (n4 c4 : Nat) (z4 : List Int) (a5 : Option Addr) (n5 c5 : Nat) (z5 : List Int) (a6 : Int) (W : World)
    (w0 : IsActs W W.heap.size a0 len f ∧ len ≤ maxLen) (w1 : IsRow .u8 W a1 n1 c1 z1) (w2 : (Lit.int .u8 a2).wf = true) (w3 : (Lit.int .u8 a3).wf = true) (w4 : IsRow .u8 W a4 n4 c4 z4) (w5 : IsRow .u8 W a5 n5 c5 z5) (w6 : (Lit.int .u8 a6).wf = true) :
    Calls Try.prog 5 #[.slice a0 len cap, .slice a1 n1 c1, .int .u8 a2, .int .u8 a3, .slice a4 n4 c4, .slice a5 n5 c5, .int .u8 a6] W fun e w' => e = .returned (.bool true) ∧ Below W.heap.size W w' := by
  obtain ⟨q, hq⟩ : ∃ n : Nat, a2 = n := ⟨a2.toNat, by have := bounds_u8 w2; omega⟩
  have q8 : q < 256 := by have := bounds_u8 w2; omega
  subst hq
  obtain ⟨r, hr⟩ : ∃ n : Nat, a3 = n := ⟨a3.toNat, by have := bounds_u8 w3; omega⟩
  have r8 : r < 256 := by have := bounds_u8 w3; omega
  subst hr
  obtain ⟨s, hs⟩ : ∃ n : Nat, a6 = n := ⟨a6.toNat, by have := bounds_u8 w6; omega⟩
  have s8 : s < 256 := by have := bounds_u8 w6; omega
  subst hs
  obtain ⟨bs, ebs, hbs⟩ := isRow_rd w1
  subst ebs
  have Hbs := Lib.hid hbs
  obtain ⟨os, eos, hos⟩ := isRow_rd w4
  subst eos
  have Hos := Lib.hid hos
  obtain ⟨ps, eps, hps⟩ := isRow_rd w5
  subst eps
  have Hps := Lib.hid hps
  have HA := Lib.hid w0.1
  have hlm : len ≤ 9223372036854775807 := by have := w0.2; unfold maxLen at this; omega
  obtain ⟨m, hm3⟩ : ∃ m : Nat, (s : Int) % 3 = (m : Int) := ⟨s % 3, by omega⟩
  have hm3t : (s : Int).tmod 3 = (m : Int) := by rw [Int.tmod_eq_emod_of_nonneg (by omega)]; exact hm3
  have hm2 : m ≤ 2 := by omega
  clear w0 w1 w2 w3 w4 w5 w6 hbs hos hps
  by_cases hg0 : 60 < len
  · have xg0 : (60 : Int) < (len : Int) := by omega
    go_enter Try.func5, Try.ntmps5
    go_wp2_with fail
    refine (seen_any W).mono ?_
    rintro e w1 ⟨rfl, k1⟩
    have K1 := Lib.hid k1; clear k1
    go_wp2_with fail
    refine (seen_any w1).mono ?_
    rintro e w2 ⟨rfl, k2⟩
    have K2 := Lib.hid (K1.out.trans k2 (by simp)); clear k2
    go_wp2
    go_ret
    exact ⟨rfl, K2.out.below (Nat.le_refl _) (by simp)⟩
  have xg0 : ¬ (60 : Int) < (len : Int) := by omega
  by_cases hg1 : 30 < bs.length
  · have xg1 : (30 : Int) < (bs.length : Int) := by omega
    go_enter Try.func5, Try.ntmps5
    go_wp2_with fail
    refine (seen_any W).mono ?_
    rintro e w1 ⟨rfl, k1⟩
    have K1 := Lib.hid k1; clear k1
    go_wp2_with fail
    refine (seen_any w1).mono ?_
    rintro e w2 ⟨rfl, k2⟩
    have K2 := Lib.hid (K1.out.trans k2 (by simp)); clear k2
    go_wp2
    go_ret
    exact ⟨rfl, K2.out.below (Nat.le_refl _) (by simp)⟩
  have xg1 : ¬ (30 : Int) < (bs.length : Int) := by omega
  by_cases hg2 : 10 < os.length
  · have xg2 : (10 : Int) < (os.length : Int) := by omega
    go_enter Try.func5, Try.ntmps5
    go_wp2_with fail
    refine (seen_any W).mono ?_
    rintro e w1 ⟨rfl, k1⟩
    have K1 := Lib.hid k1; clear k1
    go_wp2_with fail
    refine (seen_any w1).mono ?_
    rintro e w2 ⟨rfl, k2⟩
    have K2 := Lib.hid (K1.out.trans k2 (by simp)); clear k2
    go_wp2
    go_ret
    exact ⟨rfl, K2.out.below (Nat.le_refl _) (by simp)⟩
  have xg2 : ¬ (10 : Int) < (os.length : Int) := by omega
  by_cases hg3 : 10 < ps.length
  · have xg3 : (10 : Int) < (ps.length : Int) := by omega
    go_enter Try.func5, Try.ntmps5
    go_wp2_with fail
    refine (seen_any W).mono ?_
    rintro e w1 ⟨rfl, k1⟩
    have K1 := Lib.hid k1; clear k1
    go_wp2_with fail
    refine (seen_any w1).mono ?_
    rintro e w2 ⟨rfl, k2⟩
    have K2 := Lib.hid (K1.out.trans k2 (by simp)); clear k2
    go_wp2
    go_ret
    exact ⟨rfl, K2.out.below (Nat.le_refl _) (by simp)⟩
  have xg3 : ¬ (10 : Int) < (ps.length : Int) := by omega
  go_enter Try.func5, Try.ntmps5
  go_wp2_with fail
  refine (seen_any W).mono ?_
  rintro e w1 ⟨rfl, k1⟩
  have K1 := Lib.hid k1; clear k1
  have hm := Lib.hid (managers_any _ bs w1 (Hbs.out.kept K1.out (by simp)) (by omega))
  go_wp2_with fail
  refine hm.out.mono ?_
  rintro e w2 ⟨p, g, st, rfl, t2⟩
  have M2 := Lib.hid t2.man
  have K2 := Lib.hid (K1.out.trans t2.k (by simp)); clear t2 hm
  have ho1 := Lib.hid (of_any q _ os w2 (Hos.out.kept K2.out (by simp)) (by omega))
  go_wp2_with fail
  refine ho1.out.mono ?_
  rintro e w3 ⟨A, vA, la, rfl, hA, _, _, rA, k3⟩
  obtain ⟨uA, cA, hvA, _⟩ := id rA
  subst hvA
  have RA := Lib.hid rA
  have Ew3 := Lib.hid k3
  have K3 := Lib.hid (K2.out.trans k3 (by simp))
  have BA : 1 ≤ A ∧ A ≤ 40 := by omega
  clear k3 rA hA ho1
  have ho2 := Lib.hid (of_any r _ ps w3 (Hps.out.kept K3.out (by simp)) (by omega))
  go_wp2_with fail
  refine ho2.out.mono ?_
  rintro e w4 ⟨B, vB, lb, rfl, hB, _, _, rB, k3⟩
  obtain ⟨uB, cB, hvB, _⟩ := id rB
  subst hvB
  have RB := Lib.hid rB
  have Ew4 := Lib.hid k3
  have K4 := Lib.hid (K3.out.trans k3 (by simp))
  have BB : 1 ≤ B ∧ B ≤ 40 := by omega
  clear k3 rB hB ho2
  obtain ⟨W5, hW5⟩ : ∃ W5, W5 = w4.alloc (.cells #[.int .i64 A, .slice uA la.length cA, .int .i64 B, .slice uB lb.length cB] 31) := ⟨_, rfl⟩
  have k5 : Kept w4 W5 [] := by rw [hW5]; exact (Kept.refl w4 []).alloc _
  have g1 : W5.heap[w4.heap.size]? = some (.cells #[.int .i64 A, .slice uA la.length cA, .int .i64 B, .slice uB lb.length cB] 31 (0, 0)) := by rw [hW5]; exact heap_alloc_new w4 _
  have HW5 := Lib.hid hW5
  have K5 := Lib.hid (K4.out.trans k5 (by simp))
  have k25 := Ew3.out.trans (Ew4.out.trans k5 (by simp)) (by simp)
  have M5 := Lib.hid (And.intro (M2.out.1.keep k25) (M2.out.2.keep k25))
  have S5 := Lib.hid (rdS_two g1 (RA.out.keep (Ew4.out.trans k5 (by simp))) (RB.out.keep k5) hm2)
  have he := Lib.hid (events_any (cap := cap) (HA.out.kept K5.out) (by omega))
  obtain ⟨ss, hss⟩ : ∃ ss, ss = [Sv.mk A (.slice uA la.length cA) la, Sv.mk B (.slice uB lb.length cB) lb].take m := ⟨_, rfl⟩
  rw [← hss] at S5
  have LS := Lib.hid (show ss.length < 1000000 by rw [hss, List.length_take]; simp; omega)
  clear hW5 k5 g1 k25 hss
  go_upto_region 5 with fail
  rw [← HW5.out]
  go_wp2_with fail
  refine he.out.mono ?_
  rintro e w6 ⟨v6, rfl, o6, k6⟩
  obtain ⟨a6, c6, hv6⟩ := o6.shape
  subst hv6
  rw [evsA_length] at o6 ⊢
  have HL := Lib.hid (show len < 1000000 by omega)
  have CE := Lib.hid (fun Z (hZ : Kept w6 Z []) => (o6.kept hZ (by simp)).rd)
  have M6 := Lib.hid (fun Z (hZ : Kept w6 Z []) => And.intro (M5.out.1.keep (k6.trans hZ (by simp))) (M5.out.2.keep (k6.trans hZ (by simp))))
  have S6 := Lib.hid (fun Z (hZ : Kept w6 Z []) => S5.out.keep (k6.trans hZ (by simp)))
  have K6 := Lib.hid (K5.out.trans k6 (by simp))
  clear o6 k6 he S5 M5
  go_wp2
  go_loopg [19] len (fun kx s19 wr => ∃ i : Nat, s19 = .int .i64 i ∧ i ≤ len ∧ len - i ≤ kx ∧ RowKit.Hid (Kept w6 wr []))
  case atStart => exact ⟨0, rfl, by omega, by omega, Kept.refl _ _⟩
  case round =>
    obtain ⟨i, rfl, hi, hkx, HK⟩ := hrel
    obtain ⟨wc, hwc⟩ : ∃ wc, wc = wr := ⟨_, rfl⟩
    subst hwc
    by_cases hlt : i < len
    · have x1 : (i : Int) < (len : Int) := by omega
      have hx := evsA_get (f := f) hlt
      have hwf := evsA_wf f len _ (List.mem_of_getElem? hx)
      obtain ⟨bm, om, ham, _⟩ := (CE.out _ HK.out).eight hx
      subst ham
      have CX := Lib.hid (fun Z (hZ : Kept wc Z []) => (CE.out Z (HK.out.trans hZ (by simp))).eight hx)
      have CN := Lib.hid (fun Z (hZ : Kept wc Z []) => bneeds_any (evA f i) (M6.out Z (HK.out.trans hZ (by simp))).1 (S6.out Z (HK.out.trans hZ (by simp))) LS.out hwf)
      have CR := Lib.hid (fun Z (hZ : Kept wc Z []) => rneeds_any (evA f i) (M6.out Z (HK.out.trans hZ (by simp))).2 (S6.out Z (HK.out.trans hZ (by simp))) LS.out)
      generalize evA f i = x at CX CN CR
      generalize needB st ss x = y at CN CR
      obtain ⟨b0, b1, b2, b3, b4, b5, b6, b7⟩ := x
      simp only [Ev.cs] at CX CN CR
      clear hx hwf
      go_upto_region 9 with fail
      refine wp_region_held_drew (S := fun Z => Kept wc Z []) (by kernel_rfl) (Kept.refl wc []).drew (fun hHeld => ?_)
      refine wpAnyH_take (i := 0) (oi := _) (v := .slice (some ⟨bm, om, none⟩) len c6) rfl (by kernel_rfl) (by kernel_rfl) (by kernel_rfl) (fun _ _ _ h => h) (Or.inl ⟨by rfl, fun V hV => by go_simp⟩) hHeld ?_
      change wpAnyH _ _ _ _ _ _ _ (Act.put _ (some 66) _) _
      simp only [Act.put, List.setIfInBounds_toArray, List.set_cons_zero, List.set_cons_succ]
      refine wpAnyH_take (i := 1) (oi := _) (v := .int .i64 i) rfl (by kernel_rfl) (by kernel_rfl) (by kernel_rfl) (fun _ _ _ h => h) (Or.inl ⟨by rfl, fun V hV => by go_simp⟩) hHeld ?_
      change wpAnyH _ _ _ _ _ _ _ (Act.put _ (some 67) _) _
      simp only [Act.put, List.setIfInBounds_toArray, List.set_cons_zero, List.set_cons_succ]
      refine wpAnyH_take (i := 2) (oi := _) (v := .pointer (some ⟨bm, om + i * 8, none⟩)) rfl (by kernel_rfl) (by kernel_rfl) (by kernel_rfl) (fun _ _ _ h => h) (Or.inl ⟨by rfl, fun V hV => by go_simp⟩) hHeld ?_
      change wpAnyH _ _ _ _ _ _ _ (Act.put _ (some 68) _) _
      simp only [Act.put, List.setIfInBounds_toArray, List.set_cons_zero, List.set_cons_succ]
      refine wpAnyH_take (i := 3) (oi := _) (v := .agg #[.int .i64 b0, .int .i64 b1, .string b2, .int .i64 b3, .int .i64 b4, .int .u8 b5, .int .i64 b6, .string b7]) rfl (by kernel_rfl) (by kernel_rfl) (by kernel_rfl) (fun _ _ _ h => h) (Or.inl ⟨by rfl, fun V hV => by (obtain ⟨bb, oo, e9, p0, p1, p2, p3, p4, p5, p6, p7⟩ := CX.out V hV; simp only [Option.some.injEq, Addr.mk.injEq] at e9; obtain ⟨rfl, rfl, _⟩ := e9; clear hV; go_simp)⟩) hHeld ?_
      change wpAnyH _ _ _ _ _ _ _ (Act.put _ (some 69) _) _
      simp only [Act.put, List.setIfInBounds_toArray, List.set_cons_zero, List.set_cons_succ]
      refine wpAnyH_take (i := 4) (oi := _) (v := .pointer (some ⟨p, 0, none⟩)) rfl (by kernel_rfl) (by kernel_rfl) (by kernel_rfl) (fun _ _ _ h => h) (Or.inl ⟨by rfl, fun V hV => by go_simp⟩) hHeld ?_
      change wpAnyH _ _ _ _ _ _ _ (Act.put _ (some 70) _) _
      simp only [Act.put, List.setIfInBounds_toArray, List.set_cons_zero, List.set_cons_succ]
      refine wpAnyH_take (i := 5) (oi := _) (v := .slice (some ⟨w4.heap.size, 0, none⟩) m 2) rfl (by kernel_rfl) (by kernel_rfl) (by kernel_rfl) (fun _ _ _ h => h) (Or.inl ⟨by rfl, fun V hV => by go_simp⟩) hHeld ?_
      change wpAnyH _ _ _ _ _ _ _ (Act.put _ (some 71) _) _
      simp only [Act.put, List.setIfInBounds_toArray, List.set_cons_zero, List.set_cons_succ]
      refine wpAnyH_take (i := 7) (oi := _) (v := .slice (some ⟨bm, om, none⟩) len c6) rfl (by kernel_rfl) (by kernel_rfl) (by kernel_rfl) (fun _ _ _ h => h) (Or.inl ⟨by rfl, fun V hV => by go_simp⟩) hHeld ?_
      change wpAnyH _ _ _ _ _ _ _ (Act.put _ (some 73) _) _
      simp only [Act.put, List.setIfInBounds_toArray, List.set_cons_zero, List.set_cons_succ]
      refine wpAnyH_take (i := 8) (oi := _) (v := .int .i64 i) rfl (by kernel_rfl) (by kernel_rfl) (by kernel_rfl) (fun _ _ _ h => h) (Or.inl ⟨by rfl, fun V hV => by go_simp⟩) hHeld ?_
      change wpAnyH _ _ _ _ _ _ _ (Act.put _ (some 74) _) _
      simp only [Act.put, List.setIfInBounds_toArray, List.set_cons_zero, List.set_cons_succ]
      refine wpAnyH_take (i := 9) (oi := _) (v := .pointer (some ⟨bm, om + i * 8, none⟩)) rfl (by kernel_rfl) (by kernel_rfl) (by kernel_rfl) (fun _ _ _ h => h) (Or.inl ⟨by rfl, fun V hV => by go_simp⟩) hHeld ?_
      change wpAnyH _ _ _ _ _ _ _ (Act.put _ (some 75) _) _
      simp only [Act.put, List.setIfInBounds_toArray, List.set_cons_zero, List.set_cons_succ]
      refine wpAnyH_take (i := 10) (oi := _) (v := .agg #[.int .i64 b0, .int .i64 b1, .string b2, .int .i64 b3, .int .i64 b4, .int .u8 b5, .int .i64 b6, .string b7]) rfl (by kernel_rfl) (by kernel_rfl) (by kernel_rfl) (fun _ _ _ h => h) (Or.inl ⟨by rfl, fun V hV => by (obtain ⟨bb, oo, e9, p0, p1, p2, p3, p4, p5, p6, p7⟩ := CX.out V hV; simp only [Option.some.injEq, Addr.mk.injEq] at e9; obtain ⟨rfl, rfl, _⟩ := e9; clear hV; go_simp)⟩) hHeld ?_
      change wpAnyH _ _ _ _ _ _ _ (Act.put _ (some 76) _) _
      simp only [Act.put, List.setIfInBounds_toArray, List.set_cons_zero, List.set_cons_succ]
      refine wpAnyH_take (i := 11) (oi := _) (v := .pointer (some ⟨g, 0, none⟩)) rfl (by kernel_rfl) (by kernel_rfl) (by kernel_rfl) (fun _ _ _ h => h) (Or.inl ⟨by rfl, fun V hV => by go_simp⟩) hHeld ?_
      change wpAnyH _ _ _ _ _ _ _ (Act.put _ (some 77) _) _
      simp only [Act.put, List.setIfInBounds_toArray, List.set_cons_zero, List.set_cons_succ]
      refine wpAnyH_take (i := 12) (oi := _) (v := .slice (some ⟨w4.heap.size, 0, none⟩) m 2) rfl (by kernel_rfl) (by kernel_rfl) (by kernel_rfl) (fun _ _ _ h => h) (Or.inl ⟨by rfl, fun V hV => by go_simp⟩) hHeld ?_
      change wpAnyH _ _ _ _ _ _ _ (Act.put _ (some 78) _) _
      simp only [Act.put, List.setIfInBounds_toArray, List.set_cons_zero, List.set_cons_succ]
      refine wpAnyH_ready (rs := [6]) (by kernel_rfl) (by simp) ?_
      refine AllReadyH.cons (o := _) rfl (fun K hK => ?_) AllReadyH.nil
      go_simp
      go_at_call 16
      refine (CN.out _ (Kept.refl wc []).drew).mono ?_
      rintro e wa ⟨rfl, ka⟩
      have ka := (Kept.refl wc []).drew.trans ka (by simp)
      go_wp2_with fail
      refine hK.out _ _ ka (fun hHeld => ?_)
      clear hK K
      refine wpAnyH_ready (rs := [13]) (by kernel_rfl) (by simp) ?_
      refine AllReadyH.cons (o := _) rfl (fun K hK => ?_) AllReadyH.nil
      go_simp
      go_at_call 17
      refine (CR.out _ ka).mono ?_
      rintro e wb ⟨rfl, kb⟩
      have kb := ka.trans kb (by simp)
      clear ka
      go_wp2_with fail
      refine hK.out _ _ kb (fun hHeld => ?_)
      clear hK K
      refine wpAnyH_take (i := 14) (oi := _) (v := .bool false) rfl (by kernel_rfl) (by kernel_rfl) (by kernel_rfl) (fun _ _ _ h => h) (Or.inl ⟨by rfl, fun V hV => by go_simp⟩) hHeld ?_
      change wpAnyH _ _ _ _ _ _ _ (Act.put _ (some 80) _) _
      simp only [Act.put, List.setIfInBounds_toArray, List.set_cons_zero, List.set_cons_succ]
      refine wpAnyH_done (by kernel_rfl) ?_ _
      have KB := Lib.hid (HK.out.trans kb (by simp))
      clear kb hHeld
      go_wp2
      go_roundg (len - (i + 1))
      case measure => omega
      case rel => exact ⟨i + 1, by go_num, by omega, by omega, KB⟩
    · have x1 : ¬ (i : Int) < (len : Int) := by omega
      have CN := Lib.hid (fun Z (hZ : Kept wc Z []) => bfree_any (CE.out Z (HK.out.trans hZ (by simp))) (by rw [evsA_length]; exact HL.out) (M6.out Z (HK.out.trans hZ (by simp))).1 (S6.out Z (HK.out.trans hZ (by simp))) LS.out (evsA_wf f len))
      have CR := Lib.hid (fun Z (hZ : Kept wc Z []) => rfree_any (CE.out Z (HK.out.trans hZ (by simp))) (by rw [evsA_length]; exact HL.out) (M6.out Z (HK.out.trans hZ (by simp))).2 (S6.out Z (HK.out.trans hZ (by simp))) LS.out)
      have C0 := Lib.hid (fun Z (hZ : Kept wc Z []) => bfree_any (RdE.nil Z) (by decide) (M6.out Z (HK.out.trans hZ (by simp))).1 (S6.out Z (HK.out.trans hZ (by simp))) LS.out (by simp))
      generalize freeB st ss (evsA f len) = y at CN CR
      rw [show freeB st ss [] = true from rfl] at C0
      go_wp2_with fail
      refine (CN.out _ (Kept.refl _ _)).mono ?_
      rintro e wa ⟨rfl, ka⟩
      have KA := Lib.hid ka; clear ka
      go_wp2_with fail
      refine (CR.out _ KA.out).mono ?_
      rintro e wb ⟨rfl, kb⟩
      have KB := Lib.hid (KA.out.trans kb (by simp)); clear kb
      go_wp2_with fail
      refine (C0.out _ KB.out).mono ?_
      rintro e wd ⟨rfl, kd⟩
      have KD := Lib.hid (HK.out.trans (KB.out.trans kd (by simp)) (by simp)); clear kd
      go_wp2
      go_ret
      exact ⟨by simp, (K6.out.trans KD.out (by simp)).below (Nat.le_refl _) (by simp)⟩

set_option maxRecDepth 100000 in
theorem lifted (os : Os) (started : os.Started) (H : Type) (enc : TypeId × Value → H) :
    ReturnsInHanded {} Try.checked os 5 .any (Rows.batchNeedsSpec.pre6 enc Try.prog Try.f5 Rows.batchNeedsRow.domain false) (Rows.batchNeedsSpec.post enc Try.prog Try.f5 false true false false) := by
  refine returnsInHanded_of_change (C := Try.checked) own started (by kernel_rfl) Try.func5
    (ChangeSpec.witness6 (enc := enc) (C := Try.checked) false ⟨#[], #[.slice none 0 0, .slice none 0 0, .int .u8 0, .int .u8 0, .slice none 0 0, .slice none 0 0, .int .u8 0], []⟩ 8 (by kernel_rfl) (by kernel_rfl) (by kernel_rfl) (by kernel_rfl)) ?_
  intro W base args ds gs before hval0 hW hcnd _
  have hval : ∀ (j : Nat) t v, Try.f5.params[j]? = some t → args[j]? = some v → Value.okWide Try.prog W .any base t v := hval0
  have hW' := hW
  obtain ⟨p, q, hA0, hV, rfl, hfz, hnd⟩ := hW
  have hA : DataW.TrodAll enc Try.prog W 0 (fun _ => true) true Try.f5.params.toList args.toList ds p := hA0
  rw [Try.params5] at hA hval
  obtain ⟨v0, vs0, d0, ds0, p0, q0, hargs, rfl, rfl, h0, r0⟩ := trodAll_cons hA
  obtain ⟨v1, vs1, d1, ds1, p1, q1, rfl, rfl, rfl, h1, r1⟩ := trodAll_cons r0
  obtain ⟨v2, vs2, d2, ds2, p2, q2, rfl, rfl, rfl, h2, r2⟩ := trodAll_cons r1
  obtain ⟨v3, vs3, d3, ds3, p3, q3, rfl, rfl, rfl, h3, r3⟩ := trodAll_cons r2
  obtain ⟨v4, vs4, d4, ds4, p4, q4, rfl, rfl, rfl, h4, r4⟩ := trodAll_cons r3
  obtain ⟨v5, vs5, d5, ds5, p5, q5, rfl, rfl, rfl, h5, r5⟩ := trodAll_cons r4
  obtain ⟨v6, vs6, d6, ds6, p6, q6, rfl, rfl, rfl, h6, r6⟩ := trodAll_cons r5
  obtain ⟨rfl, rfl, rfl⟩ := trodAll_nil r6
  obtain rfl : args = #[v0, v1, v2, v3, v4, v5, v6] := by cases args; simp_all
  obtain ⟨rfl, rfl⟩ := trodVars_none hV
  obtain ⟨a0, len0, cap0, rfl⟩ := okWide_slice Try.underlying22 (hval 0 22 v0 rfl rfl)
  have k0 := h0
  have lt0 : ∀ x ∈ p0, x.block < W.heap.size := by obtain ⟨m, hm⟩ := k0; exact DataW.trod_lt m _ _ _ hm
  obtain ⟨z0, w0⟩ : ∃ f, IsActs W W.heap.size a0 len0 f ∧ len0 ≤ maxLen := by
    obtain ⟨fuel, hf⟩ := h0
    exact acts_open (by simpa [Value.cells] using hf)
  obtain ⟨a1, len1, cap1, rfl⟩ := okWide_slice Try.underlying23 (hval 1 23 v1 rfl rfl)
  have k1 := h1
  have lt1 : ∀ x ∈ p1, x.block < W.heap.size := by obtain ⟨m, hm⟩ := k1; exact DataW.trod_lt m _ _ _ hm
  obtain ⟨z1, w1⟩ : ∃ zs, IsRow .u8 W a1 len1 cap1 zs := by
    obtain ⟨fuel, hf⟩ := h1
    rcases open_ints Try.underlying23 Try.underlying5 (by kernel_rfl) hf with ⟨hcs, _⟩ | ⟨x, l, c, zs, hcs, _, hl, hm, hz, _, hcell, hwz⟩
    · simp [Value.cells] at hcs
      obtain ⟨rfl, rfl, rfl⟩ := hcs
      exact ⟨[], .inl ⟨rfl, rfl, rfl, rfl⟩⟩
    · simp [Value.cells] at hcs
      obtain ⟨rfl, rfl, rfl⟩ := hcs
      exact ⟨zs, .inr ⟨_, rfl, hl, hm, by simpa using hz, hcell, hwz⟩⟩
  obtain ⟨a2, rfl, rfl, rfl, w2⟩ := open_int Try.underlying5 (hval 2 5 v2 rfl rfl) h2
  obtain ⟨a3, rfl, rfl, rfl, w3⟩ := open_int Try.underlying5 (hval 3 5 v3 rfl rfl) h3
  obtain ⟨a4, len4, cap4, rfl⟩ := okWide_slice Try.underlying23 (hval 4 23 v4 rfl rfl)
  have k4 := h4
  have lt4 : ∀ x ∈ p4, x.block < W.heap.size := by obtain ⟨m, hm⟩ := k4; exact DataW.trod_lt m _ _ _ hm
  obtain ⟨z4, w4⟩ : ∃ zs, IsRow .u8 W a4 len4 cap4 zs := by
    obtain ⟨fuel, hf⟩ := h4
    rcases open_ints Try.underlying23 Try.underlying5 (by kernel_rfl) hf with ⟨hcs, _⟩ | ⟨x, l, c, zs, hcs, _, hl, hm, hz, _, hcell, hwz⟩
    · simp [Value.cells] at hcs
      obtain ⟨rfl, rfl, rfl⟩ := hcs
      exact ⟨[], .inl ⟨rfl, rfl, rfl, rfl⟩⟩
    · simp [Value.cells] at hcs
      obtain ⟨rfl, rfl, rfl⟩ := hcs
      exact ⟨zs, .inr ⟨_, rfl, hl, hm, by simpa using hz, hcell, hwz⟩⟩
  obtain ⟨a5, len5, cap5, rfl⟩ := okWide_slice Try.underlying23 (hval 5 23 v5 rfl rfl)
  have k5 := h5
  have lt5 : ∀ x ∈ p5, x.block < W.heap.size := by obtain ⟨m, hm⟩ := k5; exact DataW.trod_lt m _ _ _ hm
  obtain ⟨z5, w5⟩ : ∃ zs, IsRow .u8 W a5 len5 cap5 zs := by
    obtain ⟨fuel, hf⟩ := h5
    rcases open_ints Try.underlying23 Try.underlying5 (by kernel_rfl) hf with ⟨hcs, _⟩ | ⟨x, l, c, zs, hcs, _, hl, hm, hz, _, hcell, hwz⟩
    · simp [Value.cells] at hcs
      obtain ⟨rfl, rfl, rfl⟩ := hcs
      exact ⟨[], .inl ⟨rfl, rfl, rfl, rfl⟩⟩
    · simp [Value.cells] at hcs
      obtain ⟨rfl, rfl, rfl⟩ := hcs
      exact ⟨zs, .inr ⟨_, rfl, hl, hm, by simpa using hz, hcell, hwz⟩⟩
  obtain ⟨a6, rfl, rfl, rfl, w6⟩ := open_int Try.underlying5 (hval 6 5 v6 rfl rfl) h6
  clear hA0 hval0
  refine (walk a0 len0 cap0 z0 a1 len1 cap1 z1 a2 a3 a4 len4 cap4 z4 a5 len5 cap5 z5 a6 W w0 w1 w2 w3 w4 w5 w6).mono fun e W' ⟨he, bel⟩ => ?_
  subst he
  exact ⟨_, rfl, _, _, _, [], _, [], hW', trodAll_mk1 (shut_bool Try.underlying4 _), (trodAll_cons_mk (Below.trod laidOut (by kernel_rfl) (of_decide_eq_true (by kernel_rfl)) k0 bel lt0) (trodAll_cons_mk (Below.trod laidOut (by kernel_rfl) (of_decide_eq_true (by kernel_rfl)) k1 bel lt1) (trodAll_cons_mk (shut_int Try.underlying5 w2) (trodAll_cons_mk (shut_int Try.underlying5 w3) (trodAll_cons_mk (Below.trod laidOut (by kernel_rfl) (of_decide_eq_true (by kernel_rfl)) k4 bel lt4) (trodAll_cons_mk (Below.trod laidOut (by kernel_rfl) (of_decide_eq_true (by kernel_rfl)) k5 bel lt5) (trodAll_cons_mk (shut_int Try.underlying5 w6) trodAll_mk0))))))), rfl, bel.frame _, fun h => by cases h⟩

theorem over : Rows.batchNeedsRow.holds Try.pinned (OpenSpec.ofChange Rows.batchNeedsSpec) :=
  OpenClaim.holds_of_wide 5 Try.f5 rfl rfl rfl rfl rfl rfl rfl ⟨rfl, rfl, rfl, rfl, rfl⟩ rfl rfl rfl rfl rfl (by kernel_rfl) Try.func5 (by kernel_rfl)
    (of_decide_eq_true (by kernel_rfl)) (by unfold Func.isWrapper; first | (rw [if_pos (by decide +kernel)]; kernel_rfl) | (rw [if_neg (by decide +kernel)]; exact ⟨rfl, rfl⟩))
    (fun os started H enc _ => lifted os started H enc)

theorem proved : Rows.BatchNeedsSaid :=
  over
end Go.Proofs.Ytojkandkhhjaaaa.batchNeeds

namespace Go.Proofs.Ytojkandkhhjaaaa
theorem batchNeeds_holds : Rows.BatchNeedsSaid := batchNeeds.proved
#print axioms batchNeeds_holds
end Go.Proofs.Ytojkandkhhjaaaa

