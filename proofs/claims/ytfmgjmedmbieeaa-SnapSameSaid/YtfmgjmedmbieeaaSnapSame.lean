/-
  Proved: whatever the arguments are, carrierlaw05.SnapSame answers true and leaves its arguments as they were. No condition.
-/
import Derived.Test.YtfmgjmedmbieeaaSnJ
namespace Go.Proofs.Ytfmgjmedmbieeaa.snapSame
open Go.ChangeShapes Go.WideShapes Go.ChangeAt Go.RowKit
set_option linter.unusedVariables false

theorem own : ownKnob Try.prog.godebug = none := by kernel_rfl
theorem laidOut : laidOutB Try.prog = true := by kernel_rfl

set_option maxHeartbeats 4000000 in
set_option maxRecDepth 100000 in
theorem walk (a0 : Int) (a1 : Int) (a2 : Option Addr) (len2 cap2 : Nat) (z2 : List Int) (a3 : Option Addr) (len3 cap3 : Nat) (z3 : List Int) (W : World) (w0 : (Lit.int .u8 a0).wf = true) (w1 : (Lit.int .u8 a1).wf = true) (w2 : IsRow .u8 W a2 len2 cap2 z2) (w3 : IsRow .u8 W a3 len3 cap3 z3) :
    Calls Try.prog 7 #[.int .u8 a0, .int .u8 a1, .slice a2 len2 cap2, .slice a3 len3 cap3] W fun e w' => e = .returned (.bool true) ∧ Below W.heap.size W w' := by
  obtain ⟨a, rfl, ha⟩ := u8_nat w0
  obtain ⟨b, rfl, hb⟩ := u8_nat w1
  obtain ⟨os, rfl, hro⟩ := isRow_rd w2
  obtain ⟨ps, rfl, hrp⟩ := isRow_rd w3
  have Ro := Lib.hid hro; have Rp := Lib.hid hrp
  clear w0 w1 w2 w3 hro hrp
  by_cases h1 : (20 : Int) < (os.length : Int)
  · go_enter Try.func7, Try.ntmps7
    go_wp2_with fail
    refine (five_any W).mono ?_
    rintro e w1 ⟨rfl, hk⟩
    have K := Lib.hid hk; clear hk
    go_wp2
    go_ret
    exact ⟨rfl, K.out.below (Nat.le_refl _) (by simp)⟩
  by_cases h2 : (20 : Int) < (ps.length : Int)
  · go_enter Try.func7, Try.ntmps7
    go_wp2_with fail
    refine (five_any W).mono ?_
    rintro e w1 ⟨rfl, hk⟩
    have K := Lib.hid hk; clear hk
    go_wp2
    go_ret
    exact ⟨rfl, K.out.below (Nat.le_refl _) (by simp)⟩
  go_enter Try.func7, Try.ntmps7
  go_wp2_with fail
  refine (of_any a _ os W Ro.out (by omega)).mono ?_
  rintro e w1 ⟨M, v, l, rfl, hM, hR, _, hrd, hk⟩
  have R1 := Lib.hid hrd; have K1 := Lib.hid hk
  obtain ⟨av, cv, rfl⟩ := hrd.slice
  have hM40 : 1 ≤ M ∧ M ≤ 40 := by omega
  clear hR hk hrd hM
  go_wp2_with fail
  refine (of_any b _ ps w1 (Rp.out.kept K1.out (by simp)) (by omega)).mono ?_
  rintro e w2 ⟨N, u, m, rfl, hN, hR, _, hrd, hk⟩
  have R2 := Lib.hid hrd; have K2 := Lib.hid (K1.out.trans hk (by simp)); have R1 := Lib.hid (R1.out.keep hk)
  obtain ⟨au, cu, rfl⟩ := hrd.slice
  have hN40 : 1 ≤ N ∧ N ≤ 40 := by omega
  clear hR hk hrd hN
  obtain ⟨W3, hW3⟩ : ∃ W3, W3 = ((w2.alloc (.cells #[.int .i64 M, .slice av l.length cv] 25)).alloc (.cells #[.int .i64 N, .slice au m.length cu] 25)).alloc (.cells #[.int .i64 (M + 1), .slice av l.length cv] 25) := ⟨_, rfl⟩
  have kk : Kept w2 W3 [] := by rw [hW3]; exact (((Kept.refl w2 []).alloc _).alloc _).alloc _
  have s1 := two_cells (heap_alloc_new w2 (.cells #[.int .i64 M, .slice av l.length cv] 25))
  have s2 := two_cells (heap_alloc_new (w2.alloc (.cells #[.int .i64 M, .slice av l.length cv] 25)) (.cells #[.int .i64 N, .slice au m.length cu] 25))
  have s3 := two_cells (heap_alloc_new ((w2.alloc (.cells #[.int .i64 M, .slice av l.length cv] 25)).alloc (.cells #[.int .i64 N, .slice au m.length cu] 25)) (.cells #[.int .i64 (M + 1), .slice av l.length cv] 25))
  have s1 := (((Kept.refl (w2.alloc (.cells #[.int .i64 M, .slice av l.length cv] 25)) []).alloc (.cells #[.int .i64 N, .slice au m.length cu] 25)).alloc (.cells #[.int .i64 (M + 1), .slice av l.length cv] 25)).two s1
  have s2 := ((Kept.refl ((w2.alloc (.cells #[.int .i64 M, .slice av l.length cv] 25)).alloc (.cells #[.int .i64 N, .slice au m.length cu] 25)) []).alloc (.cells #[.int .i64 (M + 1), .slice av l.length cv] 25)).two s2
  have e1 : (w2.alloc (.cells #[.int .i64 M, .slice av l.length cv] 25)).heap.size = w2.heap.size + 1 := by simp
  have e2 : ((w2.alloc (.cells #[.int .i64 M, .slice av l.length cv] 25)).alloc (.cells #[.int .i64 N, .slice au m.length cu] 25)).heap.size = w2.heap.size + 1 + 1 := by simp
  rw [e1] at s2
  rw [e2] at s3
  rw [← hW3] at s1 s2 s3
  have Z := Lib.hid (And.intro s1 (And.intro s2 s3))
  have K3 := Lib.hid (K2.out.trans kk (by simp)); have R1 := Lib.hid (R1.out.keep kk); have R2 := Lib.hid (R2.out.keep kk)
  clear kk s1 s2 s3 e1 e2
  have H5 : Hid (∀ V, Kept W3 V [] → Calls Try.prog 9 #[] V fun e w' => e = .returned (.bool true) ∧ Kept W3 w' []) := Lib.hid (fun V hV => by
    refine (five_any V).mono ?_
    rintro e w' ⟨rfl, h⟩
    exact ⟨rfl, hV.trans h (by simp)⟩)
  have HI : Hid (∀ V, Kept W3 V [] → Calls Try.prog 20 #[.slice av l.length cv, .slice au m.length cu] V fun e w' => e = .returned (.bool (l == m)) ∧ Kept W3 w' []) := Lib.hid (fun V hV => by
    refine (ints_any _ _ l m V (R1.out.keep hV) (R2.out.keep hV)).mono ?_
    rintro e w' ⟨rfl, h⟩
    exact ⟨rfl, hV.trans h (by simp)⟩)
  have HE : Hid (∀ V (Mx Nx : Int) (a b : Option Addr) (l m : List Int) (c d : Nat), RdI W3 (.slice a l.length c) l → RdI W3 (.slice b m.length d) m → Kept W3 V [] → Calls Try.prog 14 #[.agg #[.int .i64 Mx, .slice a l.length c], .agg #[.int .i64 Nx, .slice b m.length d]] V fun e w' => e = .returned (.bool (sameB Mx Nx l m)) ∧ Kept W3 w' []) := Lib.hid (fun V Mx Nx a b l m c d h1 h2 hV => by
    refine (same_any Mx Nx _ _ l m V (h1.keep hV) (h2.keep hV)).mono ?_
    rintro e w' ⟨rfl, h⟩
    exact ⟨rfl, hV.trans h (by simp)⟩)
  have rr1 := R1.out
  have rr2 := R2.out
  have hs2 : sameB M (M + 1) l l = false := by
    have hne : (M == M + 1) = false := by rw [beq_eq_false_iff_ne]; omega
    simp [sameB, hne]
  have k8 := (Kept.refl W3 []).drew
  have y2 := And.intro (k8.two Z.out.1) (And.intro (k8.two Z.out.2.1) (k8.two Z.out.2.2))
  go_wp2_with fail
  (try rw [← hW3])
  clear hW3
  by_cases hMN : M = N
  · subst hMN
    have hs : sameB M M l m = (l == m) := by simp [sameB]
    go_region_held3 (fun V => (V.cell? ⟨w2.heap.size, 0, none⟩ = some (.int .i64 M) ∧ V.cell? ⟨w2.heap.size, 1, none⟩ = some (.slice av l.length cv)) ∧ (V.cell? ⟨w2.heap.size + 1, 0, none⟩ = some (.int .i64 M) ∧ V.cell? ⟨w2.heap.size + 1, 1, none⟩ = some (.slice au m.length cu)) ∧ (V.cell? ⟨w2.heap.size + 1 + 1, 0, none⟩ = some (.int .i64 (M + 1)) ∧ V.cell? ⟨w2.heap.size + 1 + 1, 1, none⟩ = some (.slice av l.length cv))) (exact y2)
      (first
        | (go_at_call 9; refine (H5.out _ ?_).mono ?_; assumption; rintro e w8 ⟨rfl, k8⟩; have y2 := And.intro (k8.two Z.out.1) (And.intro (k8.two Z.out.2.1) (k8.two Z.out.2.2)))
        | (go_at_call 20; refine (HI.out _ ?_).mono ?_; assumption; rintro e w8 ⟨rfl, k8⟩; have y2 := And.intro (k8.two Z.out.1) (And.intro (k8.two Z.out.2.1) (k8.two Z.out.2.2)))
        | (go_at_call 14; refine (HE.out _ _ _ _ _ _ _ _ _ ?_ ?_ ?_).mono ?_; assumption; assumption; assumption; rintro e w8 ⟨rfl, k8⟩; (first | rw [hs2] | rw [hs]); have y2 := And.intro (k8.two Z.out.1) (And.intro (k8.two Z.out.2.1) (k8.two Z.out.2.2))))
    all_goals go_wp2
    all_goals go_ret
    all_goals exact ⟨rfl, (K3.out.trans k8 (by simp)).below (Nat.le_refl _) (by simp)⟩
  · have hMN2 : (M == N) = false := by simpa using hMN
    have hs : sameB M N l m = false := by simp [sameB, hMN2]
    refine wp_region_held_drew (S := fun V => (V.cell? ⟨w2.heap.size, 0, none⟩ = some (.int .i64 M) ∧ V.cell? ⟨w2.heap.size, 1, none⟩ = some (.slice av l.length cv)) ∧ (V.cell? ⟨w2.heap.size + 1, 0, none⟩ = some (.int .i64 N) ∧ V.cell? ⟨w2.heap.size + 1, 1, none⟩ = some (.slice au m.length cu)) ∧ (V.cell? ⟨w2.heap.size + 1 + 1, 0, none⟩ = some (.int .i64 (M + 1)) ∧ V.cell? ⟨w2.heap.size + 1 + 1, 1, none⟩ = some (.slice av l.length cv))) (by kernel_rfl) y2 (fun hHeld => ?_)
    refine wpAnyH_ready (rs := [0]) (by kernel_rfl) (by simp) ?_
    refine AllReadyH.cons (o := _) rfl (fun K hK => ?_) AllReadyH.nil
    go_simp
    refine (H5.out _ k8).mono ?_
    rintro e w5 ⟨rfl, hk⟩
    have k8 := hk
    clear hk
    dsimp only
    refine hK.out _ _ (And.intro (k8.two Z.out.1) (And.intro (k8.two Z.out.2.1) (k8.two Z.out.2.2))) (fun hHeld => ?_)
    clear hK K
    refine wpAnyH_take (i := 1) (oi := _) (v := .bool true) rfl (by kernel_rfl) (by kernel_rfl) (by kernel_rfl) (fun _ _ _ h => h) (Or.inl ⟨by rfl, fun w hSw => by (try dsimp only at hSw); go_simp⟩) hHeld ?_
    change wpAnyH _ _ _ _ _ _ _ (Act.put _ (some 33) _) _
    simp only [Act.put, List.setIfInBounds_toArray, List.set_cons_zero, List.set_cons_succ]
    refine wpAnyH_take (i := 2) (oi := _) (v := .agg #[.int .i64 M, .slice av l.length cv]) rfl (by kernel_rfl) (by kernel_rfl) (by kernel_rfl) (fun _ _ _ h => h) (Or.inl ⟨by rfl, fun w hSw => by (try dsimp only at hSw); go_simp⟩) hHeld ?_
    change wpAnyH _ _ _ _ _ _ _ (Act.put _ (some 34) _) _
    simp only [Act.put, List.setIfInBounds_toArray, List.set_cons_zero, List.set_cons_succ]
    refine wpAnyH_take (i := 3) (oi := _) (v := .agg #[.int .i64 N, .slice au m.length cu]) rfl (by kernel_rfl) (by kernel_rfl) (by kernel_rfl) (fun _ _ _ h => h) (Or.inl ⟨by rfl, fun w hSw => by (try dsimp only at hSw); go_simp⟩) hHeld ?_
    change wpAnyH _ _ _ _ _ _ _ (Act.put _ (some 35) _) _
    simp only [Act.put, List.setIfInBounds_toArray, List.set_cons_zero, List.set_cons_succ]
    refine wpAnyH_take (i := 5) (oi := _) (v := .pointer (some ⟨w2.heap.size, 0, none⟩)) rfl (by kernel_rfl) (by kernel_rfl) (by kernel_rfl) (fun _ _ _ h => h) (Or.inl ⟨by rfl, fun w hSw => by (try dsimp only at hSw); go_simp⟩) hHeld ?_
    change wpAnyH _ _ _ _ _ _ _ (Act.put _ (some 37) _) _
    simp only [Act.put, List.setIfInBounds_toArray, List.set_cons_zero, List.set_cons_succ]
    refine wpAnyH_take (i := 6) (oi := _) (v := .int .i64 M) rfl (by kernel_rfl) (by kernel_rfl) (by kernel_rfl) (fun _ _ _ h => h) (Or.inl ⟨by rfl, fun w hSw => by (try dsimp only at hSw); go_simp⟩) hHeld ?_
    change wpAnyH _ _ _ _ _ _ _ (Act.put _ (some 38) _) _
    simp only [Act.put, List.setIfInBounds_toArray, List.set_cons_zero, List.set_cons_succ]
    refine wpAnyH_take (i := 7) (oi := _) (v := .pointer (some ⟨w2.heap.size + 1, 0, none⟩)) rfl (by kernel_rfl) (by kernel_rfl) (by kernel_rfl) (fun _ _ _ h => h) (Or.inl ⟨by rfl, fun w hSw => by (try dsimp only at hSw); go_simp⟩) hHeld ?_
    change wpAnyH _ _ _ _ _ _ _ (Act.put _ (some 39) _) _
    simp only [Act.put, List.setIfInBounds_toArray, List.set_cons_zero, List.set_cons_succ]
    refine wpAnyH_take (i := 8) (oi := _) (v := .int .i64 N) rfl (by kernel_rfl) (by kernel_rfl) (by kernel_rfl) (fun _ _ _ h => h) (Or.inl ⟨by rfl, fun w hSw => by (try dsimp only at hSw); go_simp⟩) hHeld ?_
    change wpAnyH _ _ _ _ _ _ _ (Act.put _ (some 40) _) _
    simp only [Act.put, List.setIfInBounds_toArray, List.set_cons_zero, List.set_cons_succ]
    refine wpAnyH_take (i := 9) (oi := _) (v := .bool false) rfl (by kernel_rfl) (by kernel_rfl) (by kernel_rfl) (fun _ _ _ h => h) (Or.inl ⟨by rfl, fun w hSw => by (try dsimp only at hSw); go_simp⟩) hHeld ?_
    change wpAnyH _ _ _ _ _ _ _ (Act.put _ (some 41) _) _
    simp only [Act.put, List.setIfInBounds_toArray, List.set_cons_zero, List.set_cons_succ]
    refine wpAnyH_ready (rs := [4]) (by kernel_rfl) (by simp) ?_
    refine AllReadyH.cons (o := _) rfl (fun K hK => ?_) AllReadyH.nil
    go_simp
    refine ((HE.out _ M N _ _ l m _ _ rr1 rr2 k8)).mono ?_
    rw [hs]
    rintro e w6 ⟨rfl, hk⟩
    have k8 := hk
    clear hk
    dsimp only
    refine hK.out _ _ (And.intro (k8.two Z.out.1) (And.intro (k8.two Z.out.2.1) (k8.two Z.out.2.2))) (fun hHeld => ?_)
    clear hK K
    refine wpAnyH_take (i := 10) (oi := _) (v := .bool false) rfl (by kernel_rfl) (by kernel_rfl) (by kernel_rfl) (fun _ _ _ h => h) (Or.inl ⟨by rfl, fun w hSw => by (try dsimp only at hSw); go_simp⟩) hHeld ?_
    change wpAnyH _ _ _ _ _ _ _ (Act.put _ (some 42) _) _
    simp only [Act.put, List.setIfInBounds_toArray, List.set_cons_zero, List.set_cons_succ]
    refine wpAnyH_take (i := 11) (oi := _) (v := undef) rfl (by kernel_rfl) (by kernel_rfl) (by kernel_rfl) (fun _ _ _ h => h) (Or.inr ⟨by rfl, rfl⟩) hHeld ?_
    change wpAnyH _ _ _ _ _ _ _ (Act.put _ (some 43) _) _
    simp only [Act.put, List.setIfInBounds_toArray, List.set_cons_zero, List.set_cons_succ]
    refine wpAnyH_take (i := 12) (oi := _) (v := undef) rfl (by kernel_rfl) (by kernel_rfl) (by kernel_rfl) (fun _ _ _ h => h) (Or.inr ⟨by rfl, rfl⟩) hHeld ?_
    change wpAnyH _ _ _ _ _ _ _ (Act.put _ (some 44) _) _
    simp only [Act.put, List.setIfInBounds_toArray, List.set_cons_zero, List.set_cons_succ]
    refine wpAnyH_take (i := 13) (oi := _) (v := undef) rfl (by kernel_rfl) (by kernel_rfl) (by kernel_rfl) (fun _ _ _ h => h) (Or.inr ⟨by rfl, rfl⟩) hHeld ?_
    change wpAnyH _ _ _ _ _ _ _ (Act.put _ (some 45) _) _
    simp only [Act.put, List.setIfInBounds_toArray, List.set_cons_zero, List.set_cons_succ]
    refine wpAnyH_take (i := 14) (oi := _) (v := undef) rfl (by kernel_rfl) (by kernel_rfl) (by kernel_rfl) (fun _ _ _ h => h) (Or.inr ⟨by rfl, rfl⟩) hHeld ?_
    change wpAnyH _ _ _ _ _ _ _ (Act.put _ (some 46) _) _
    simp only [Act.put, List.setIfInBounds_toArray, List.set_cons_zero, List.set_cons_succ]
    refine wpAnyH_take (i := 15) (oi := _) (v := undef) rfl (by kernel_rfl) (by kernel_rfl) (by kernel_rfl) (fun _ _ _ h => h) (Or.inr ⟨by rfl, rfl⟩) hHeld ?_
    change wpAnyH _ _ _ _ _ _ _ (Act.put _ (some 47) _) _
    simp only [Act.put, List.setIfInBounds_toArray, List.set_cons_zero, List.set_cons_succ]
    refine wpAnyH_take (i := 16) (oi := _) (v := .bool false) rfl (by kernel_rfl) (by kernel_rfl) (by kernel_rfl) (fun _ _ _ h => h) (Or.inl ⟨by rfl, fun w hSw => by (try dsimp only at hSw); go_simp⟩) hHeld ?_
    change wpAnyH _ _ _ _ _ _ _ (Act.put _ (some 48) _) _
    simp only [Act.put, List.setIfInBounds_toArray, List.set_cons_zero, List.set_cons_succ]
    refine wpAnyH_take (i := 17) (oi := _) (v := .bool true) rfl (by kernel_rfl) (by kernel_rfl) (by kernel_rfl) (fun _ _ _ h => h) (Or.inl ⟨by rfl, fun w hSw => by (try dsimp only at hSw); go_simp⟩) hHeld ?_
    change wpAnyH _ _ _ _ _ _ _ (Act.put _ (some 49) _) _
    simp only [Act.put, List.setIfInBounds_toArray, List.set_cons_zero, List.set_cons_succ]
    refine wpAnyH_take (i := 18) (oi := _) (v := .bool true) rfl (by kernel_rfl) (by kernel_rfl) (by kernel_rfl) (fun _ _ _ h => h) (Or.inl ⟨by rfl, fun w hSw => by (try dsimp only at hSw); go_simp⟩) hHeld ?_
    change wpAnyH _ _ _ _ _ _ _ (Act.put _ (some 50) _) _
    simp only [Act.put, List.setIfInBounds_toArray, List.set_cons_zero, List.set_cons_succ]
    refine wpAnyH_take (i := 19) (oi := _) (v := .bool true) rfl (by kernel_rfl) (by kernel_rfl) (by kernel_rfl) (fun _ _ _ h => h) (Or.inl ⟨by rfl, fun w hSw => by (try dsimp only at hSw); go_simp⟩) hHeld ?_
    change wpAnyH _ _ _ _ _ _ _ (Act.put _ (some 51) _) _
    simp only [Act.put, List.setIfInBounds_toArray, List.set_cons_zero, List.set_cons_succ]
    refine wpAnyH_take (i := 20) (oi := _) (v := .agg #[.int .i64 M, .slice av l.length cv]) rfl (by kernel_rfl) (by kernel_rfl) (by kernel_rfl) (fun _ _ _ h => h) (Or.inl ⟨by rfl, fun w hSw => by (try dsimp only at hSw); go_simp⟩) hHeld ?_
    change wpAnyH _ _ _ _ _ _ _ (Act.put _ (some 52) _) _
    simp only [Act.put, List.setIfInBounds_toArray, List.set_cons_zero, List.set_cons_succ]
    refine wpAnyH_take (i := 21) (oi := _) (v := .agg #[.int .i64 (M + 1), .slice av l.length cv]) rfl (by kernel_rfl) (by kernel_rfl) (by kernel_rfl) (fun _ _ _ h => h) (Or.inl ⟨by rfl, fun w hSw => by (try dsimp only at hSw); go_simp⟩) hHeld ?_
    change wpAnyH _ _ _ _ _ _ _ (Act.put _ (some 53) _) _
    simp only [Act.put, List.setIfInBounds_toArray, List.set_cons_zero, List.set_cons_succ]
    refine wpAnyH_ready (rs := [22]) (by kernel_rfl) (by simp) ?_
    refine AllReadyH.cons (o := _) rfl (fun K hK => ?_) AllReadyH.nil
    go_simp
    refine ((HE.out _ M (M + 1) _ _ l l _ _ rr1 rr1 k8)).mono ?_
    rw [hs2]
    rintro e w7 ⟨rfl, hk⟩
    have k8 := hk
    clear hk
    dsimp only
    refine hK.out _ _ (And.intro (k8.two Z.out.1) (And.intro (k8.two Z.out.2.1) (k8.two Z.out.2.2))) (fun hHeld => ?_)
    clear hK K
    refine wpAnyH_take (i := 23) (oi := _) (v := .bool true) rfl (by kernel_rfl) (by kernel_rfl) (by kernel_rfl) (fun _ _ _ h => h) (Or.inl ⟨by rfl, fun w hSw => by (try dsimp only at hSw); go_simp⟩) hHeld ?_
    change wpAnyH _ _ _ _ _ _ _ (Act.put _ (some 55) _) _
    simp only [Act.put, List.setIfInBounds_toArray, List.set_cons_zero, List.set_cons_succ]
    refine wpAnyH_take (i := 24) (oi := _) (v := .bool true) rfl (by kernel_rfl) (by kernel_rfl) (by kernel_rfl) (fun _ _ _ h => h) (Or.inl ⟨by rfl, fun w hSw => by (try dsimp only at hSw); go_simp⟩) hHeld ?_
    change wpAnyH _ _ _ _ _ _ _ (Act.put _ (some 56) _) _
    simp only [Act.put, List.setIfInBounds_toArray, List.set_cons_zero, List.set_cons_succ]
    refine wpAnyH_take (i := 25) (oi := _) (v := .bool true) rfl (by kernel_rfl) (by kernel_rfl) (by kernel_rfl) (fun _ _ _ h => h) (Or.inl ⟨by rfl, fun w hSw => by (try dsimp only at hSw); go_simp⟩) hHeld ?_
    change wpAnyH _ _ _ _ _ _ _ (Act.put _ (some 8) _) _
    simp only [Act.put, List.setIfInBounds_toArray, List.set_cons_zero, List.set_cons_succ]
    refine wpAnyH_done (by kernel_rfl) ?_ _
    go_wp2
    go_ret
    exact ⟨rfl, (K3.out.trans k8 (by simp)).below (Nat.le_refl _) (by simp)⟩

set_option maxRecDepth 100000 in
theorem lifted (os : Os) (started : os.Started) (H : Type) (enc : TypeId × Value → H) :
    ReturnsInHanded {} Try.checked os 7 .any (Rows.snapSameSpec.pre6 enc Try.prog Try.f7 Rows.snapSameRow.domain false) (Rows.snapSameSpec.post enc Try.prog Try.f7 false true false false) := by
  refine returnsInHanded_of_change (C := Try.checked) own started (by kernel_rfl) Try.func7
    (ChangeSpec.witness6 (enc := enc) (C := Try.checked) false ⟨#[], #[.int .u8 0, .int .u8 0, .slice none 0 0, .slice none 0 0], []⟩ 8 (by kernel_rfl) (by kernel_rfl) (by kernel_rfl) (by kernel_rfl)) ?_
  intro W base args ds gs before hval0 hW hcnd _
  have hval : ∀ (j : Nat) t v, Try.f7.params[j]? = some t → args[j]? = some v → Value.okWide Try.prog W .any base t v := hval0
  have hW' := hW
  obtain ⟨p, q, hA0, hV, rfl, hfz, hnd⟩ := hW
  have hA : DataW.TrodAll enc Try.prog W 0 (fun _ => true) true Try.f7.params.toList args.toList ds p := hA0
  rw [Try.params7] at hA hval
  obtain ⟨v0, vs0, d0, ds0, p0, q0, hargs, rfl, rfl, h0, r0⟩ := trodAll_cons hA
  obtain ⟨v1, vs1, d1, ds1, p1, q1, rfl, rfl, rfl, h1, r1⟩ := trodAll_cons r0
  obtain ⟨v2, vs2, d2, ds2, p2, q2, rfl, rfl, rfl, h2, r2⟩ := trodAll_cons r1
  obtain ⟨v3, vs3, d3, ds3, p3, q3, rfl, rfl, rfl, h3, r3⟩ := trodAll_cons r2
  obtain ⟨rfl, rfl, rfl⟩ := trodAll_nil r3
  obtain rfl : args = #[v0, v1, v2, v3] := by cases args; simp_all
  obtain ⟨rfl, rfl⟩ := trodVars_none hV
  obtain ⟨a0, rfl, rfl, rfl, w0⟩ := open_int Try.underlying5 (hval 0 5 v0 rfl rfl) h0
  obtain ⟨a1, rfl, rfl, rfl, w1⟩ := open_int Try.underlying5 (hval 1 5 v1 rfl rfl) h1
  obtain ⟨a2, len2, cap2, rfl⟩ := okWide_slice Try.underlying30 (hval 2 30 v2 rfl rfl)
  have k2 := h2
  have lt2 : ∀ x ∈ p2, x.block < W.heap.size := by obtain ⟨m, hm⟩ := k2; exact DataW.trod_lt m _ _ _ hm
  obtain ⟨z2, w2⟩ : ∃ zs, IsRow .u8 W a2 len2 cap2 zs := by
    obtain ⟨fuel, hf⟩ := h2
    rcases open_ints Try.underlying30 Try.underlying5 (by kernel_rfl) hf with ⟨hcs, _⟩ | ⟨x, l, c, zs, hcs, _, hl, hm, hz, _, hcell, hwz⟩
    · simp [Value.cells] at hcs
      obtain ⟨rfl, rfl, rfl⟩ := hcs
      exact ⟨[], .inl ⟨rfl, rfl, rfl, rfl⟩⟩
    · simp [Value.cells] at hcs
      obtain ⟨rfl, rfl, rfl⟩ := hcs
      exact ⟨zs, .inr ⟨_, rfl, hl, hm, by simpa using hz, hcell, hwz⟩⟩
  obtain ⟨a3, len3, cap3, rfl⟩ := okWide_slice Try.underlying30 (hval 3 30 v3 rfl rfl)
  have k3 := h3
  have lt3 : ∀ x ∈ p3, x.block < W.heap.size := by obtain ⟨m, hm⟩ := k3; exact DataW.trod_lt m _ _ _ hm
  obtain ⟨z3, w3⟩ : ∃ zs, IsRow .u8 W a3 len3 cap3 zs := by
    obtain ⟨fuel, hf⟩ := h3
    rcases open_ints Try.underlying30 Try.underlying5 (by kernel_rfl) hf with ⟨hcs, _⟩ | ⟨x, l, c, zs, hcs, _, hl, hm, hz, _, hcell, hwz⟩
    · simp [Value.cells] at hcs
      obtain ⟨rfl, rfl, rfl⟩ := hcs
      exact ⟨[], .inl ⟨rfl, rfl, rfl, rfl⟩⟩
    · simp [Value.cells] at hcs
      obtain ⟨rfl, rfl, rfl⟩ := hcs
      exact ⟨zs, .inr ⟨_, rfl, hl, hm, by simpa using hz, hcell, hwz⟩⟩
  clear hA0 hval0
  refine (walk a0 a1 a2 len2 cap2 z2 a3 len3 cap3 z3 W w0 w1 w2 w3).mono fun e W' ⟨he, bel⟩ => ?_
  subst he
  exact ⟨_, rfl, _, _, _, [], _, [], hW', trodAll_mk1 (shut_bool Try.underlying4 _), (trodAll_cons_mk (shut_int Try.underlying5 w0) (trodAll_cons_mk (shut_int Try.underlying5 w1) (trodAll_cons_mk (Below.trod laidOut (by kernel_rfl) (of_decide_eq_true (by kernel_rfl)) k2 bel lt2) (trodAll_cons_mk (Below.trod laidOut (by kernel_rfl) (of_decide_eq_true (by kernel_rfl)) k3 bel lt3) trodAll_mk0)))), rfl, bel.frame _, fun h => by cases h⟩

theorem over : Rows.snapSameRow.holds Try.pinned (OpenSpec.ofChange Rows.snapSameSpec) :=
  OpenClaim.holds_of_wide 7 Try.f7 rfl rfl rfl rfl rfl rfl rfl ⟨rfl, rfl, rfl, rfl, rfl⟩ rfl rfl rfl rfl rfl (by kernel_rfl) Try.func7 (by kernel_rfl)
    (of_decide_eq_true (by kernel_rfl)) (by unfold Func.isWrapper; first | (rw [if_pos (by decide +kernel)]; kernel_rfl) | (rw [if_neg (by decide +kernel)]; exact ⟨rfl, rfl⟩))
    (fun os started H enc _ => lifted os started H enc)

theorem proved : Rows.SnapSameSaid :=
  over
end Go.Proofs.Ytfmgjmedmbieeaa.snapSame

namespace Go.Proofs.Ytfmgjmedmbieeaa
theorem snapSame_holds : Rows.SnapSameSaid := snapSame.proved
#print axioms snapSame_holds
end Go.Proofs.Ytfmgjmedmbieeaa

