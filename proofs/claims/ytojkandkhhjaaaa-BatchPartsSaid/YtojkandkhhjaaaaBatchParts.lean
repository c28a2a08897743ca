/-
  Proved: whatever the arguments are, carrierlaw12.BatchParts answers true and leaves its arguments as they were. No condition.
-/
import Derived.Test.YtojkandkhhjaaaaBo
namespace Go.Proofs.Ytojkandkhhjaaaa.batchParts
open Go.ChangeShapes Go.WideShapes Go.ChangeAt Go.RowKit
set_option linter.unusedVariables false

theorem own : ownKnob Try.prog.godebug = none := by kernel_rfl
theorem laidOut : laidOutB Try.prog = true := by kernel_rfl

set_option maxHeartbeats 8000000 in
set_option maxRecDepth 100000 in
theorem walk (a0 : Option Addr) (len cap : Nat) (f : Nat → ActD) (a1 : Option Addr) (n1 c1 : Nat) (z1 : List Int) (a2 a3 a4 : Int) (a5 : Option Addr) (n5 c5 : Nat) (z5 : List Int) (W : World)
    (w0 : IsActs W W.heap.size a0 len f ∧ len ≤ maxLen) (w1 : IsRow .u8 W a1 n1 c1 z1) (w2 : (Lit.int .u8 a2).wf = true) (w3 : (Lit.int .u8 a3).wf = true) (w4 : (Lit.int .u8 a4).wf = true) (w5 : IsRow .u8 W a5 n5 c5 z5) :
    Calls Try.prog 4 #[.slice a0 len cap, .slice a1 n1 c1, .int .u8 a2, .int .u8 a3, .int .u8 a4, .slice a5 n5 c5] W fun e w' => e = .returned (.bool true) ∧ Below W.heap.size W w' := by
  obtain ⟨q, hq⟩ : ∃ n : Nat, a2 = n := ⟨a2.toNat, by have := bounds_u8 w2; omega⟩
  have q8 : q < 256 := by have := bounds_u8 w2; omega
  subst hq
  obtain ⟨r, hr⟩ : ∃ n : Nat, a3 = n := ⟨a3.toNat, by have := bounds_u8 w3; omega⟩
  have r8 : r < 256 := by have := bounds_u8 w3; omega
  subst hr
  obtain ⟨s, hs⟩ : ∃ n : Nat, a4 = n := ⟨a4.toNat, by have := bounds_u8 w4; omega⟩
  have s8 : s < 256 := by have := bounds_u8 w4; omega
  subst hs
  obtain ⟨bs, ebs, hbs⟩ := isRow_rd w1
  subst ebs
  have Hbs := Lib.hid hbs
  obtain ⟨os, eos, hos⟩ := isRow_rd w5
  subst eos
  have Hos := Lib.hid hos
  have HA := Lib.hid w0.1
  have hlm : len ≤ 9223372036854775807 := by have := w0.2; unfold maxLen at this; omega
  obtain ⟨m, hm1⟩ : ∃ m : Nat, (r : Int) % 10 = (m : Int) := ⟨r % 10, by omega⟩
  have hm1t : (r : Int).tmod 10 = (m : Int) := by rw [Int.tmod_eq_emod_of_nonneg (by omega)]; exact hm1
  have hm10 : m < 10 := by omega
  obtain ⟨t, ht1⟩ : ∃ t : Nat, (s : Int) % 10 = (t : Int) := ⟨s % 10, by omega⟩
  have ht1t : (s : Int).tmod 10 = (t : Int) := by rw [Int.tmod_eq_emod_of_nonneg (by omega)]; exact ht1
  have ht10 : t < 10 := by omega
  clear w0 w1 w2 w3 w4 w5 hbs hos
  by_cases hg0 : 60 < len
  · have xg0 : (60 : Int) < (len : Int) := by omega
    go_enter Try.func4, Try.ntmps4
    go_wp2_with fail
    refine (seen_any W).mono ?_
    rintro e w1 ⟨rfl, k1⟩
    have K1 := Lib.hid k1; clear k1
    go_wp2_with fail
    refine (seen_any w1).mono ?_
    rintro e w2 ⟨rfl, k2⟩
    have K2 := Lib.hid (K1.out.trans k2 (by simp)); clear k2
    go_wp2
    go_ret
    exact ⟨rfl, K2.out.below (Nat.le_refl _) (by simp)⟩
  have xg0 : ¬ (60 : Int) < (len : Int) := by omega
  by_cases hg1 : 30 < bs.length
  · have xg1 : (30 : Int) < (bs.length : Int) := by omega
    go_enter Try.func4, Try.ntmps4
    go_wp2_with fail
    refine (seen_any W).mono ?_
    rintro e w1 ⟨rfl, k1⟩
    have K1 := Lib.hid k1; clear k1
    go_wp2_with fail
    refine (seen_any w1).mono ?_
    rintro e w2 ⟨rfl, k2⟩
    have K2 := Lib.hid (K1.out.trans k2 (by simp)); clear k2
    go_wp2
    go_ret
    exact ⟨rfl, K2.out.below (Nat.le_refl _) (by simp)⟩
  have xg1 : ¬ (30 : Int) < (bs.length : Int) := by omega
  by_cases hg2 : 10 < os.length
  · have xg2 : (10 : Int) < (os.length : Int) := by omega
    go_enter Try.func4, Try.ntmps4
    go_wp2_with fail
    refine (seen_any W).mono ?_
    rintro e w1 ⟨rfl, k1⟩
    have K1 := Lib.hid k1; clear k1
    go_wp2_with fail
    refine (seen_any w1).mono ?_
    rintro e w2 ⟨rfl, k2⟩
    have K2 := Lib.hid (K1.out.trans k2 (by simp)); clear k2
    go_wp2
    go_ret
    exact ⟨rfl, K2.out.below (Nat.le_refl _) (by simp)⟩
  have xg2 : ¬ (10 : Int) < (os.length : Int) := by omega
  go_enter Try.func4, Try.ntmps4
  go_wp2_with fail
  refine (seen_any W).mono ?_
  rintro e w1 ⟨rfl, k1⟩
  have K1 := Lib.hid k1; clear k1
  have hm := Lib.hid (managers_any _ bs w1 (Hbs.out.kept K1.out (by simp)) (by omega))
  go_wp2_with fail
  refine hm.out.mono ?_
  rintro e w2 ⟨p, g, st, rfl, t2⟩
  have M2 := Lib.hid t2.man
  have K2 := Lib.hid (K1.out.trans t2.k (by simp)); clear t2 hm
  have ho1 := Lib.hid (of_any q _ os w2 (Hos.out.kept K2.out (by simp)) (by omega))
  go_wp2_with fail
  refine ho1.out.mono ?_
  rintro e w3 ⟨A, vA, la, rfl, hA, rtA, _, rA, k3⟩
  obtain ⟨uA, cA, hvA, _⟩ := id rA
  subst hvA
  have RA := Lib.hid rA
  have Ew3 := Lib.hid k3
  have K3 := Lib.hid (K2.out.trans k3 (by simp))
  have BA : 1 ≤ A ∧ A ≤ 40 := by omega
  clear k3 rA hA ho1
  obtain ⟨A1, A40⟩ := BA
  have hla : la.length ≤ 40 := by
    have h1 : upB A 0 la = true := by simp only [rightB, Bool.and_eq_true] at rtA; exact rtA.2
    have := upB_len h1 (by omega)
    omega
  clear rtA
  obtain ⟨W4, hW1⟩ : ∃ W', W' = w3.alloc (.cells #[.int .i64 A, .slice uA la.length cA] 31) := ⟨_, rfl⟩
  have k1 : Kept w3 W4 [] := by rw [hW1]; exact (Kept.refl w3 []).alloc _
  have g1 : W4.heap[w3.heap.size]? = some (.cells #[.int .i64 A, .slice uA la.length cA] 31 (0, 0)) := by rw [hW1]; exact heap_alloc_new w3 _
  have HW1 := Lib.hid hW1; have KB1 := Lib.hid k1; have GB1 := Lib.hid g1
  have K4 := Lib.hid (K3.out.trans k1 (by simp))
  obtain ⟨y0, y1⟩ := two_cells g1
  clear hW1 k1 g1
  go_upto_region 5 with fail
  rw [← HW1.out]
  obtain ⟨Y, hY⟩ : ∃ Y : Int, A + (m : Int) = Y := ⟨_, rfl⟩
  have Y1 : 1 ≤ Y := by omega
  have Y50 : Y ≤ 50 := by omega
  have HY := Lib.hid (show A ≤ Y by omega)
  obtain ⟨W5, hW2⟩ : ∃ W', W' = W4.alloc (.cells #[.int .i64 Y, .slice none 0 0] 31) := ⟨_, rfl⟩
  have g2 : W5.heap[W4.heap.size]? = some (.cells #[.int .i64 Y, .slice none 0 0] 31 (0, 0)) := by rw [hW2]; exact heap_alloc_new W4 _
  have HW2 := Lib.hid hW2
  have KB2 := Lib.hid (show Kept W4 W5 [] by rw [hW2]; exact (Kept.refl W4 []).alloc _)
  have D0 : RowKit.Hid (Sd W5 W4.heap.size W4.heap.size Y (.slice none 0 0) []) := Lib.hid { hp := g2, hv := World.ownsRow_nil _ _ _ _, bp := Nat.le_refl _ }
  clear hW2 g2
  go_upto_region 6 with fail
  rw [← HW2.out]
  clear hY y0 y1
  obtain ⟨i0, hi0, hz0, hz1, hzb⟩ := info_parts Try.infoI
  have I := Lib.hid (And.intro hi0 (And.intro hz0 (And.intro hz1 hzb)))
  have G4 := Lib.hid (fun V (hV : Kept W4 V []) => two_cells (hV.heap (by simp) GB1.out))
  have RA4 := Lib.hid (fun V (hV : Kept W4 V []) => RA.out.keep (KB1.out.trans hV (by simp)))
  clear hi0 hz0 hz1 hzb
  go_wp2
  go_loopg [17] (la.length + 2) (fun kx s17 wr => ∃ (i : Nat) (v : Value) (l : List Int), s17 = .int .i64 i ∧ i ≤ la.length + 1 ∧ la.length + 2 - i ≤ kx ∧ l.length ≤ i ∧ RowKit.Hid (Sd wr W4.heap.size W4.heap.size Y v l ∧ (∀ x ∈ l, x ∈ la) ∧ Kept W4 wr []))
  case atStart => exact ⟨0, _, [], rfl, by omega, by omega, by simp, D0.out, by simp, KB2.out⟩
  case round =>
    obtain ⟨i, v, l, rfl, hi, hkx, hll, HS⟩ := hrel
    obtain ⟨wc, hwc⟩ : ∃ wc, wc = wr := ⟨_, rfl⟩
    subst hwc
    obtain ⟨y0, y1⟩ := G4.out wc HS.out.2.2
    by_cases hlt : i < la.length
    · have x1 : (i : Int) < (la.length : Int) := by omega
      obtain ⟨a', c', e', _, _, _, hla2⟩ := RA4.out wc HS.out.2.2
      simp only [Value.slice.injEq, true_and] at e'
      obtain ⟨rfl, rfl⟩ := e'
      obtain ⟨ob, oo, rfl, hcell⟩ := hla2 (by rintro rfl; simp at hlt)
      have CX := Lib.hid (fun V (hV : Kept W4 V []) => (show V.cell? ⟨ob, oo + i, none⟩ = some (.int .i64 (la.getD i 0)) from by
        obtain ⟨a', c', e', _, _, _, h9⟩ := RA4.out V hV
        simp only [Value.slice.injEq, true_and] at e'
        obtain ⟨rfl, rfl⟩ := e'
        obtain ⟨ob2, oo2, e2, h2⟩ := h9 (by rintro rfl; simp at hlt)
        simp only [Option.some.injEq, Addr.mk.injEq] at e2
        obtain ⟨rfl, rfl, _⟩ := e2
        exact h2 i hlt))
      have hmem : la.getD i 0 ∈ la := by rw [List.getD, List.getElem?_eq_getElem hlt]; exact List.getElem_mem hlt
      have HM := Lib.hid hmem
      generalize la.getD i 0 = n0 at CX HM
      obtain ⟨va, vc, hv, _⟩ := owns_rdI HS.out.1.hv
      have HSv := Lib.hid HS.out
      subst hv
      have DD := Lib.hid (HS.out.1.keep (Kept.refl wc []).drew)
      obtain ⟨d0, d1⟩ := DD.out.cells
      have SB := src_one Try.underlying29 wc.drew (.int .i64 n0) rfl 2
      obtain ⟨wB, hwB⟩ : ∃ wB, wB = wc.drew.alloc (.cells #[.int .i64 n0] 2) := ⟨_, rfl⟩
      rw [← hwB] at SB
      have kB : Kept wc wB [] := by rw [hwB]; exact ((Kept.refl wc []).drew).alloc _
      have fB : Fr W4.heap.size [2] wc wB := Fr.ofKept kB _ _
      have DB := Lib.hid (HS.out.1.keep kB)
      have KW := Lib.hid (HS.out.2.2.trans kB (by simp))
      have hwB2 : wB = (wc.alloc (.cells #[.int .i64 n0] 2)).drew := by rw [hwB]; rfl
      have HwB := Lib.hid hwB2; have HSB := Lib.hid SB
      have hBs : W4.heap.size ≤ wB.heap.size := KW.out.size
      clear hwB hwB2 SB kB fB hcell hla2 hmem
      go_upto_region 9 with fail
      clear y0 y1
      refine wp_region_held_drew (S := fun Z => Kept W4 Z []) (by kernel_rfl) (HS.out.2.2.drew) (fun hHeld => ?_)
      refine wpAnyH_take (i := 0) (oi := _) (v := .pointer (some ⟨W4.heap.size, 1, none⟩)) rfl (by kernel_rfl) (by kernel_rfl) (by kernel_rfl) (fun _ _ _ h => h) (Or.inl ⟨by rfl, fun V hV => by go_simp⟩) hHeld ?_
      change wpAnyH _ _ _ _ _ _ _ (Act.put _ (some 68) _) _
      simp only [Act.put, List.setIfInBounds_toArray, List.set_cons_zero, List.set_cons_succ]
      refine wpAnyH_take (i := 2) (oi := _) (v := .pointer (some ⟨w3.heap.size, 1, none⟩)) rfl (by kernel_rfl) (by kernel_rfl) (by kernel_rfl) (fun _ _ _ h => h) (Or.inl ⟨by rfl, fun V hV => by go_simp⟩) hHeld ?_
      change wpAnyH _ _ _ _ _ _ _ (Act.put _ (some 70) _) _
      simp only [Act.put, List.setIfInBounds_toArray, List.set_cons_zero, List.set_cons_succ]
      refine wpAnyH_take (i := 3) (oi := _) (v := .slice (some ⟨ob, oo, none⟩) la.length cA) rfl (by kernel_rfl) (by kernel_rfl) (by kernel_rfl) (fun _ _ _ h => h) (Or.inl ⟨by rfl, fun V hV => by (obtain ⟨y0, y1⟩ := G4.out V hV; clear hV; go_simp)⟩) hHeld ?_
      change wpAnyH _ _ _ _ _ _ _ (Act.put _ (some 71) _) _
      simp only [Act.put, List.setIfInBounds_toArray, List.set_cons_zero, List.set_cons_succ]
      refine wpAnyH_take (i := 4) (oi := _) (v := .int .i64 i) rfl (by kernel_rfl) (by kernel_rfl) (by kernel_rfl) (fun _ _ _ h => h) (Or.inl ⟨by rfl, fun V hV => by go_simp⟩) hHeld ?_
      change wpAnyH _ _ _ _ _ _ _ (Act.put _ (some 72) _) _
      simp only [Act.put, List.setIfInBounds_toArray, List.set_cons_zero, List.set_cons_succ]
      refine wpAnyH_take (i := 5) (oi := _) (v := .pointer (some ⟨ob, oo + i, none⟩)) rfl (by kernel_rfl) (by kernel_rfl) (by kernel_rfl) (fun _ _ _ h => h) (Or.inl ⟨by rfl, fun V hV => by go_simp⟩) hHeld ?_
      change wpAnyH _ _ _ _ _ _ _ (Act.put _ (some 73) _) _
      simp only [Act.put, List.setIfInBounds_toArray, List.set_cons_zero, List.set_cons_succ]
      refine wpAnyH_take (i := 6) (oi := _) (v := .int .i64 n0) rfl (by kernel_rfl) (by kernel_rfl) (by kernel_rfl) (fun _ _ _ h => h) (Or.inl ⟨by rfl, fun V hV => by (have c9 := CX.out V hV; clear hV; go_simp)⟩) hHeld ?_
      change wpAnyH _ _ _ _ _ _ _ (Act.put _ (some 74) _) _
      simp only [Act.put, List.setIfInBounds_toArray, List.set_cons_zero, List.set_cons_succ]
      refine wpAnyH_ready (rs := [1, 7]) (by kernel_rfl) (by simp) ?_
      refine AllReadyH.cons (o := _) rfl (fun K hK => ?_) (AllReadyH.cons (o := _) rfl (fun K hK => ?_) AllReadyH.nil)
      · go_simp
        refine hK.out _ _ HS.out.2.2.drew (fun hHeld => ?_)
        clear hK K
        refine wpAnyH_ready (rs := [7]) (by kernel_rfl) (by simp) ?_
        refine AllReadyH.cons (o := _) rfl (fun K hK => ?_) AllReadyH.nil
        go_simp
        rw [← HwB.out]
        refine hK.out _ _ KW.out (fun hHeld => ?_)
        clear hK K
        refine wpAnyH_ready (rs := [8]) (by kernel_rfl) (by simp) ?_
        refine AllReadyH.cons (o := _) rfl (fun K hK => ?_) AllReadyH.nil
        refine step_append_fr _ rfl (.tmp 69) (.tmp 75) 29 29 rfl W4.heap.size 2 i0 (.int .i64 0) 1 8 Try.underlying29 I.out.1 I.out.2.1 I.out.2.2.1 I.out.2.2.2 rfl _ l.length (ic l) rfl DB.out.hv _ 1 [.int .i64 n0] rfl HSB.out (by unfold maxLen; omega) (by omega) hBs ?_
        intro v9 w9 ho9 hf9 _
        have ho : w9.ownsRow W4.heap.size 2 1 v9 (l ++ [n0]).length (ic (l ++ [n0])) := by rw [List.length_append, ic, List.map_append]; exact ho9
        obtain ⟨p2, p3⟩ := DB.out.put hf9 ho
        have k9 : Kept W4 w9 [] := ((Fr.ofKept KW.out 0 []).later hf9 (Nat.le_refl _)).kept
        have k10 : Kept W4 (w9.setCell ⟨W4.heap.size, 1, none⟩ v9) [] := ((Fr.ofKept KW.out 0 []).later p3 (Nat.le_refl _)).kept
        have hp9 := hf9.heap DB.out.hp (by decide)
        obtain ⟨c9, c10⟩ := two_cells hp9
        have f9 : w9.frozen? ⟨W4.heap.size, 1, none⟩ = false := frozen_of_row _ _ _ _ _ hp9
        obtain ⟨a9, q9, hv9, _⟩ := owns_rdI ho
        have P2 := Lib.hid p2; have K9 := Lib.hid k9; have K10 := Lib.hid k10
        clear ho9 hf9 ho p2 p3 k9 k10 hp9
        subst hv9
        have e9 : (l ++ [n0]).length = l.length + 1 := by simp
        rw [e9] at P2 K10
        clear e9
        refine hK.out _ _ K9.out (fun hHeld => ?_)
        clear hK K
        refine wpAnyH_take (i := 9) (oi := _) (v := .pointer (some ⟨W4.heap.size, 1, none⟩)) rfl (by kernel_rfl) (by kernel_rfl) (by kernel_rfl) (fun _ _ _ h => h) (Or.inl ⟨by rfl, fun V hV => by go_simp⟩) hHeld ?_
        refine wpAnyH_ready (rs := [10]) (by kernel_rfl) (by simp) ?_
        refine AllReadyH.cons (o := _) rfl (fun K hK => ?_) AllReadyH.nil
        go_simp
        refine hK.out _ _ K10.out (fun hHeld => ?_)
        clear hK K
        refine wpAnyH_done (by kernel_rfl) ?_ _
        clear hHeld c9 c10 f9
        go_wp2
        go_roundg (la.length - i)
        case measure => omega
        case rel =>
          refine ⟨i + 2, _, l ++ [n0], by go_num, by omega, by omega, by simp; omega, P2.out, fun x hx => ?_, K10.out⟩
          rcases List.mem_append.1 hx with h | h
          · exact HS.out.2.1 x h
          · simp only [List.mem_singleton] at h; subst h; exact HM.out
      · go_simp
        rw [← HwB.out]
        refine hK.out _ _ KW.out (fun hHeld => ?_)
        clear hK K
        obtain ⟨b0, b1⟩ := DB.out.cells
        refine wpAnyH_ready (rs := [1]) (by kernel_rfl) (by simp) ?_
        refine AllReadyH.cons (o := _) rfl (fun K hK => ?_) AllReadyH.nil
        go_simp
        refine hK.out _ _ KW.out (fun hHeld => ?_)
        clear hK K b0 b1
        refine wpAnyH_ready (rs := [8]) (by kernel_rfl) (by simp) ?_
        refine AllReadyH.cons (o := _) rfl (fun K hK => ?_) AllReadyH.nil
        refine step_append_fr _ rfl (.tmp 69) (.tmp 75) 29 29 rfl W4.heap.size 2 i0 (.int .i64 0) 1 8 Try.underlying29 I.out.1 I.out.2.1 I.out.2.2.1 I.out.2.2.2 rfl _ l.length (ic l) rfl DB.out.hv _ 1 [.int .i64 n0] rfl HSB.out (by unfold maxLen; omega) (by omega) hBs ?_
        intro v9 w9 ho9 hf9 _
        have ho : w9.ownsRow W4.heap.size 2 1 v9 (l ++ [n0]).length (ic (l ++ [n0])) := by rw [List.length_append, ic, List.map_append]; exact ho9
        obtain ⟨p2, p3⟩ := DB.out.put hf9 ho
        have k9 : Kept W4 w9 [] := ((Fr.ofKept KW.out 0 []).later hf9 (Nat.le_refl _)).kept
        have k10 : Kept W4 (w9.setCell ⟨W4.heap.size, 1, none⟩ v9) [] := ((Fr.ofKept KW.out 0 []).later p3 (Nat.le_refl _)).kept
        have hp9 := hf9.heap DB.out.hp (by decide)
        obtain ⟨c9, c10⟩ := two_cells hp9
        have f9 : w9.frozen? ⟨W4.heap.size, 1, none⟩ = false := frozen_of_row _ _ _ _ _ hp9
        obtain ⟨a9, q9, hv9, _⟩ := owns_rdI ho
        have P2 := Lib.hid p2; have K9 := Lib.hid k9; have K10 := Lib.hid k10
        clear ho9 hf9 ho p2 p3 k9 k10 hp9
        subst hv9
        have e9 : (l ++ [n0]).length = l.length + 1 := by simp
        rw [e9] at P2 K10
        clear e9
        refine hK.out _ _ K9.out (fun hHeld => ?_)
        clear hK K
        refine wpAnyH_take (i := 9) (oi := _) (v := .pointer (some ⟨W4.heap.size, 1, none⟩)) rfl (by kernel_rfl) (by kernel_rfl) (by kernel_rfl) (fun _ _ _ h => h) (Or.inl ⟨by rfl, fun V hV => by go_simp⟩) hHeld ?_
        refine wpAnyH_ready (rs := [10]) (by kernel_rfl) (by simp) ?_
        refine AllReadyH.cons (o := _) rfl (fun K hK => ?_) AllReadyH.nil
        go_simp
        refine hK.out _ _ K10.out (fun hHeld => ?_)
        clear hK K
        refine wpAnyH_done (by kernel_rfl) ?_ _
        clear hHeld c9 c10 f9
        go_wp2
        go_roundg (la.length - i)
        case measure => omega
        case rel =>
          refine ⟨i + 2, _, l ++ [n0], by go_num, by omega, by omega, by simp; omega, P2.out, fun x hx => ?_, K10.out⟩
          rcases List.mem_append.1 hx with h | h
          · exact HS.out.2.1 x h
          · simp only [List.mem_singleton] at h; subst h; exact HM.out
    · have x1 : ¬ (i : Int) < (la.length : Int) := by omega
      have hl : ∀ x ∈ l, x ∈ la := HS.out.2.1
      have RY := owns_rdI HS.out.1.hv
      have gy := HS.out.1.hp
      obtain ⟨va, vc, hv, _⟩ := id RY
      have HSk := Lib.hid HS.out.2.2
      clear HS
      subst hv
      obtain ⟨y2, y3⟩ := two_cells gy
      obtain ⟨Z, hZ⟩ : ∃ Z : Int, Y + (t : Int) = Z := ⟨_, rfl⟩
      have HZ := Lib.hid (show Y ≤ Z by omega)
      obtain ⟨W7, hW7⟩ : ∃ W', W' = wc.alloc (.cells #[.int .i64 Z, .slice none 0 0] 31) := ⟨_, rfl⟩
      have k7 : Kept wc W7 [] := by rw [hW7]; exact (Kept.refl wc []).alloc _
      have g7 : W7.heap[wc.heap.size]? = some (.cells #[.int .i64 Z, .slice none 0 0] 31 (0, 0)) := by rw [hW7]; exact heap_alloc_new wc _
      have HW7 := Lib.hid hW7; have K47 := Lib.hid (HSk.out.trans k7 (by simp)); have G7 := Lib.hid g7; have GY := Lib.hid (k7.heap (by simp) gy); have RY7 := Lib.hid (RY.keep k7)
      have HLl := Lib.hid hl
      have he := Lib.hid (events_any (cap := cap) (HA.out.kept (K4.out.trans K47.out (by simp))) (show len ≤ 60 by omega))
      clear hW7 k7 g7 gy RY hl hlt hkx hi hll
      go_upto_region 11 with fail
      rw [← HW7.out]
      clear hZ y0 y1 y2 y3
      go_wp2_with fail
      refine he.out.mono ?_
      rintro e w8 ⟨v8, rfl, o8, k8⟩
      obtain ⟨a8, c8, hv8⟩ := o8.shape
      subst hv8
      rw [evsA_length] at o8 ⊢
      have HL := Lib.hid (show len < 1000000 by omega)
      have CE := Lib.hid (fun U (hU : Kept w8 U []) => (o8.kept hU (by simp)).rd)
      have CM := Lib.hid (fun U (hU : Kept w8 U []) => M2.out.1.keep (Ew3.out.trans (KB1.out.trans (K47.out.trans (k8.trans hU (by simp)) (by simp)) (by simp)) (by simp)))
      have CX := Lib.hid (fun U (hU : Kept w8 U []) => RA4.out U (K47.out.trans (k8.trans hU (by simp)) (by simp)))
      have CY := Lib.hid (fun U (hU : Kept w8 U []) => RY7.out.keep (k8.trans hU (by simp)))
      have CF := Lib.hid (fun U (hU : Kept w8 U []) => And.intro (G4.out U (K47.out.trans (k8.trans hU (by simp)) (by simp))) (And.intro (two_cells ((k8.trans hU (by simp)).heap (by simp) GY.out)) (two_cells ((k8.trans hU (by simp)).heap (by simp) G7.out))))
      have C1 := Lib.hid (fun U (hU : Kept w8 U []) => bof_any ⟨#[97]⟩ (CE.out U hU) (by rw [evsA_length]; exact HL.out) (CM.out U hU) (CX.out U hU) (RdI.nil U) (evsA_wf f len) (A := A) (B := Z))
      have C2 := Lib.hid (fun U (hU : Kept w8 U []) => bof_any ⟨#[97]⟩ (CE.out U hU) (by rw [evsA_length]; exact HL.out) (CM.out U hU) (CX.out U hU) (CY.out U hU) (evsA_wf f len) (A := A) (B := Y))
      have C3 := Lib.hid (fun U (hU : Kept w8 U []) => bof_any ⟨#[97]⟩ (CE.out U hU) (by rw [evsA_length]; exact HL.out) (CM.out U hU) (CY.out U hU) (RdI.nil U) (evsA_wf f len) (A := Y) (B := Z))
      have K8 := Lib.hid (K4.out.trans (K47.out.trans k8 (by simp)) (by simp))
      clear o8 k8 he
      obtain ⟨⟨y0, y1⟩, ⟨y2, y3⟩, y4, y5⟩ := CF.out w8 (Kept.refl _ _)
      go_wp2_with fail
      refine (C1.out w8 (Kept.refl _ _)).mono ?_
      rintro e wa ⟨va1, rfl, oa, ka⟩
      have OA := Lib.hid oa.rd; have KA := Lib.hid ka
      obtain ⟨xa, ya, hva⟩ := oa.shape
      subst hva
      clear oa ka y0 y1 y2 y3 y4 y5
      obtain ⟨⟨y0, y1⟩, ⟨y2, y3⟩, y4, y5⟩ := CF.out wa KA.out
      go_wp2_with fail
      refine (C2.out wa KA.out).mono ?_
      rintro e wb ⟨vb1, rfl, ob, kb⟩
      have OB := Lib.hid ob.rd; have KB := Lib.hid kb
      obtain ⟨xb, yb, hvb⟩ := ob.shape
      subst hvb
      clear ob kb y0 y1 y2 y3 y4 y5
      have KAB := Lib.hid (KA.out.trans KB.out (by simp))
      obtain ⟨⟨y0, y1⟩, ⟨y2, y3⟩, y4, y5⟩ := CF.out wb KAB.out
      go_wp2_with fail
      refine (C3.out wb KAB.out).mono ?_
      rintro e wz ⟨vd1, rfl, od, kd⟩
      have OD := Lib.hid od.rd; have KD := Lib.hid kd
      obtain ⟨xd, yd, hvd⟩ := od.shape
      subst hvd
      clear od kd y0 y1 y2 y3 y4 y5
      have OA2 := Lib.hid ((OA.out.kept KB.out (by simp)).kept KD.out (by simp)); have OB2 := Lib.hid (OB.out.kept KD.out (by simp))
      have KZ := Lib.hid (K8.out.trans (KAB.out.trans KD.out (by simp)) (by simp))
      have PL := Lib.hid (parts_len (st := st) (o := ⟨#[97]⟩) HY.out HZ.out HLl.out (evsA f len))
      have PC := Lib.hid (fun i e h => parts_cnt (st := st) (o := ⟨#[97]⟩) HY.out HZ.out HLl.out (f := f) (n := len) (i := i) (e := e) h)
      have S1 := Lib.hid (fun i k x y h1 h2 h3 => @evsA_same f len (told st A la Z [] ⟨#[97]⟩) (told st A la Y l ⟨#[97]⟩) i k x y h1 h2 h3)
      have S2 := Lib.hid (fun i k x y h1 h2 h3 => @evsA_same f len (told st A la Z [] ⟨#[97]⟩) (told st Y l Z [] ⟨#[97]⟩) i k x y h1 h2 h3)
      have LL := fun P => (show (srt byId ((evsA f len).filter P)).length ≤ len by rw [srt_length]; have := List.length_filter_le P (evsA f len); rw [evsA_length] at this; exact this)
      have LA := LL (told st A la Z [] ⟨#[97]⟩); have LB := LL (told st A la Y l ⟨#[97]⟩); have LD := LL (told st Y l Z [] ⟨#[97]⟩)
      clear LL CE CM CX CY CF C1 C2 C3 OA OB KA KB KAB KD G4 RA4 GY RY7 G7
      generalize srt byId ((evsA f len).filter (told st A la Z [] ⟨#[97]⟩)) = ma at *
      generalize srt byId ((evsA f len).filter (told st A la Y l ⟨#[97]⟩)) = mb at *
      generalize srt byId ((evsA f len).filter (told st Y l Z [] ⟨#[97]⟩)) = md at *
      obtain ⟨na, hna⟩ : ∃ n, n = ma.length := ⟨_, rfl⟩
      obtain ⟨nb, hnb⟩ : ∃ n, n = mb.length := ⟨_, rfl⟩
      obtain ⟨nd, hnd⟩ : ∃ n, n = md.length := ⟨_, rfl⟩
      have NN := Lib.hid (show na = nb + nd from by rw [hna, hnb, hnd]; exact PL.out)
      rw [← hna] at LA ⊢; rw [← hnb] at LB ⊢; rw [← hnd] at LD ⊢
      have HNA := Lib.hid hna; have HNB := Lib.hid hnb; have HND := Lib.hid hnd
      clear hna hnb hnd PL
      go_wp2
      go_loopg [23, 24, 25, 26, 27] na (fun kx s23 s24 _ _ _ wr => ∃ i : Nat, s23 = .int .i64 i ∧ s24 = .int .i64 i ∧ i ≤ na ∧ na - i ≤ kx ∧ RowKit.Hid (Kept wz wr []))
      case atStart => exact ⟨0, rfl, rfl, by omega, by omega, Kept.refl _ _⟩
      case round =>
        obtain ⟨i, rfl, rfl, hi, hkx, HK⟩ := hrel
        obtain ⟨wo, hwo⟩ : ∃ wo, wo = wr := ⟨_, rfl⟩
        subst hwo
        by_cases hlt : i < na
        · have x1 : (i : Int) < (na : Int) := by omega
          obtain ⟨e, he⟩ : ∃ e, ma[i]? = some e := ⟨_, List.getElem?_eq_getElem (by rw [← HNA.out]; exact hlt)⟩
          have HE := Lib.hid he
          have HC := Lib.hid (PC.out i e he)
          have CA := Lib.hid (fun U (hU : Kept wz U []) => (OA2.out.kept hU (by simp)).eight he)
          obtain ⟨ba, oa, hba, _⟩ := CA.out wz (Kept.refl _ _)
          subst hba
          obtain ⟨b0, b1, b2, b3, b4, b5, b6, b7⟩ := e
          simp only at CA
          clear he
          go_wp2
          go_loopg [25, 26] nb (fun kx s25 s26 wr => ∃ k c : Nat, s25 = .int .i64 c ∧ s26 = .int .i64 k ∧ k ≤ nb ∧ nb - k ≤ kx ∧ c < 1000 ∧ RowKit.Hid (Kept wo wr [] ∧ c = cnt (mb.take k) ⟨b0, b1, b2, b3, b4, b5, b6, b7⟩))
          case atStart => exact ⟨0, 0, rfl, rfl, by omega, by omega, by omega, Kept.refl _ _, by simp [cnt]⟩
          case round =>
            obtain ⟨k, c, rfl, rfl, hk, hkk, hc3, HI⟩ := hrel
            by_cases hlk : k < nb
            · have x2 : (k : Int) < (nb : Int) := by omega
              have KI := Lib.hid (HK.out.trans HI.out.1 (by simp))
              obtain ⟨y, hy⟩ : ∃ y, mb[k]? = some y := ⟨_, List.getElem?_eq_getElem (by rw [← HNB.out]; exact hlk)⟩
              have hst := cnt_step (e := ⟨b0, b1, b2, b3, b4, b5, b6, b7⟩) hy
              have hsm := S1.out i k _ _ HE.out hy
              obtain ⟨bb, ob, hbb, p0, p1, p2, p3, p4, p5, p6, p7⟩ := (OB2.out.kept KI.out (by simp)).eight hy
              subst hbb
              obtain ⟨bb2, oo2, e9, q0, q1, q2, q3, q4, q5, q6, q7⟩ := CA.out wr KI.out
              simp only [Option.some.injEq, Addr.mk.injEq] at e9
              obtain ⟨rfl, rfl, _⟩ := e9
              obtain ⟨d0, d1, d2, d3, d4, d5, d6, d7⟩ := y
              simp only at p0 p1 p2 p3 p4 p5 p6 p7 hst hsm
              have hcl := cnt_le mb (k + 1) ⟨b0, b1, b2, b3, b4, b5, b6, b7⟩
              rw [← HNB.out] at hcl
              by_cases htb : d4 = b4
              · have hev := hsm htb.symm
                simp only [Ev.mk.injEq] at hev
                obtain ⟨rfl, rfl, rfl, rfl, _, rfl, rfl, rfl⟩ := hev
                subst htb
                rw [if_pos rfl] at hst
                have eqs := ev_eq b0 b1 b2 b3 d4 b5 b6 b7
                have hc5 : c + 1 < 1000 := by have := HI.out.2; omega
                have ST := Lib.hid hst
                clear hy hsm hst hcl
                go_wp2_with fail
                go_quiet (fail)
                have KN := Lib.hid (HI.out.1.drewN nq)
                clear p0 p1 p2 p3 p4 p5 p6 p7 q0 q1 q2 q3 q4 q5 q6 q7 eqs
                generalize wr.drewN nq = wn at KN ⊢
                go_wp2
                go_roundg (nb - (k + 1))
                case measure => omega
                case rel => exact ⟨k + 1, c + 1, by go_num, by go_num, by omega, by omega, hc5, KN.out, by have h1 := HI.out.2; have h2 := ST.out; omega⟩
              · rw [if_neg htb] at hst
                have eqs := ev_df d0 d1 d2 d3 d4 d5 d6 d7 b0 b1 b2 b3 b4 b5 b6 b7 htb
                have ST := Lib.hid hst
                clear hy hsm hst hcl htb
                go_wp2_with fail
                go_quiet (fail)
                have KN := Lib.hid (HI.out.1.drewN nq)
                clear p0 p1 p2 p3 p4 p5 p6 p7 q0 q1 q2 q3 q4 q5 q6 q7 eqs
                generalize wr.drewN nq = wn at KN ⊢
                go_wp2
                go_roundg (nb - (k + 1))
                case measure => omega
                case rel => exact ⟨k + 1, c, by go_num, by go_num, by omega, by omega, hc3, KN.out, by have h1 := HI.out.2; have h2 := ST.out; omega⟩
            · have x2 : ¬ (k : Int) < (nb : Int) := by omega
              obtain ⟨cc, hcc⟩ : ∃ cc, cc = c := ⟨_, rfl⟩
              subst hcc
              have HCC := Lib.hid (show cc = cnt mb ⟨b0, b1, b2, b3, b4, b5, b6, b7⟩ from by have h1 := HI.out.2; rw [List.take_of_length_le (by rw [← HNB.out]; omega)] at h1; exact h1)
              have hcc : cc ≤ len := by have h1 := HCC.out; have h2 := cnt_le mb nb ⟨b0, b1, b2, b3, b4, b5, b6, b7⟩; rw [List.take_of_length_le (by rw [← HNB.out]; omega), ← HNB.out] at h2; omega
              have KI1 := Lib.hid (HK.out.trans HI.out.1 (by simp))
              obtain ⟨w1o, hw1o⟩ : ∃ w1o, w1o = wr := ⟨_, rfl⟩
              subst hw1o
              clear hlk hkk hk hc3 HI
              go_wp2
              go_loopg [25, 27] nd (fun kx s25 s27 wr => ∃ k c : Nat, s25 = .int .i64 c ∧ s27 = .int .i64 k ∧ k ≤ nd ∧ nd - k ≤ kx ∧ c < 1000 ∧ RowKit.Hid (Kept w1o wr [] ∧ c = cc + cnt (md.take k) ⟨b0, b1, b2, b3, b4, b5, b6, b7⟩))
              case atStart => exact ⟨0, cc, rfl, rfl, by omega, by omega, by omega, Kept.refl _ _, by simp [cnt]⟩
              case round =>
                obtain ⟨k, c, rfl, rfl, hk, hkk, hc3, HI⟩ := hrel
                by_cases hlk : k < nd
                · have x2 : (k : Int) < (nd : Int) := by omega
                  have KI := Lib.hid (KI1.out.trans HI.out.1 (by simp))
                  obtain ⟨y, hy⟩ : ∃ y, md[k]? = some y := ⟨_, List.getElem?_eq_getElem (by rw [← HND.out]; exact hlk)⟩
                  have hst := cnt_step (e := ⟨b0, b1, b2, b3, b4, b5, b6, b7⟩) hy
                  have hsm := S2.out i k _ _ HE.out hy
                  obtain ⟨bb, ob, hbb, p0, p1, p2, p3, p4, p5, p6, p7⟩ := (OD.out.kept KI.out (by simp)).eight hy
                  subst hbb
                  obtain ⟨bb2, oo2, e9, q0, q1, q2, q3, q4, q5, q6, q7⟩ := CA.out wr KI.out
                  simp only [Option.some.injEq, Addr.mk.injEq] at e9
                  obtain ⟨rfl, rfl, _⟩ := e9
                  obtain ⟨d0, d1, d2, d3, d4, d5, d6, d7⟩ := y
                  simp only at p0 p1 p2 p3 p4 p5 p6 p7 hst hsm
                  have hcl := cnt_le md (k + 1) ⟨b0, b1, b2, b3, b4, b5, b6, b7⟩
                  rw [← HND.out] at hcl
                  by_cases htb : d4 = b4
                  · have hev := hsm htb.symm
                    simp only [Ev.mk.injEq] at hev
                    obtain ⟨rfl, rfl, rfl, rfl, _, rfl, rfl, rfl⟩ := hev
                    subst htb
                    rw [if_pos rfl] at hst
                    have eqs := ev_eq b0 b1 b2 b3 d4 b5 b6 b7
                    have hc5 : c + 1 < 1000 := by have := HI.out.2; have := hcc; omega
                    have ST := Lib.hid hst
                    clear hy hsm hst hcl
                    go_wp2_with fail
                    go_quiet (fail)
                    have KN := Lib.hid (HI.out.1.drewN nq)
                    clear p0 p1 p2 p3 p4 p5 p6 p7 q0 q1 q2 q3 q4 q5 q6 q7 eqs
                    generalize wr.drewN nq = wn at KN ⊢
                    go_wp2
                    go_roundg (nd - (k + 1))
                    case measure => omega
                    case rel => exact ⟨k + 1, c + 1, by go_num, by go_num, by omega, by omega, hc5, KN.out, by have h1 := HI.out.2; have h2 := ST.out; omega⟩
                  · rw [if_neg htb] at hst
                    have eqs := ev_df d0 d1 d2 d3 d4 d5 d6 d7 b0 b1 b2 b3 b4 b5 b6 b7 htb
                    have ST := Lib.hid hst
                    clear hy hsm hst hcl htb
                    go_wp2_with fail
                    go_quiet (fail)
                    have KN := Lib.hid (HI.out.1.drewN nq)
                    clear p0 p1 p2 p3 p4 p5 p6 p7 q0 q1 q2 q3 q4 q5 q6 q7 eqs
                    generalize wr.drewN nq = wn at KN ⊢
                    go_wp2
                    go_roundg (nd - (k + 1))
                    case measure => omega
                    case rel => exact ⟨k + 1, c, by go_num, by go_num, by omega, by omega, hc3, KN.out, by have h1 := HI.out.2; have h2 := ST.out; omega⟩
                · have x2 : ¬ (k : Int) < (nd : Int) := by omega
                  have hc1 : c = 1 := by have h1 := HI.out.2; have h2 := HC.out; rw [List.take_of_length_le (by rw [← HND.out]; omega)] at h1; have := HCC.out; omega
                  have KF := Lib.hid (KI1.out.trans HI.out.1 (by simp))
                  subst hc1
                  clear hlk hkk hk hc3 HI
                  go_wp2
                  go_roundg (na - (i + 1))
                  case measure => omega
                  case rel => exact ⟨i + 1, by go_num, by go_num, by omega, by omega, KF.out⟩
        · have x1 : ¬ (i : Int) < (na : Int) := by omega
          have E1 := Lib.hid (show (i : Int) = (nb : Int) + (nd : Int) by have := NN.out; omega)
          have KF := Lib.hid (KZ.out.trans HK.out (by simp))
          clear hi hkx hlt
          go_wp2
          go_ret
          refine ⟨?_, KF.out.below (Nat.le_refl _) (by simp)⟩
          have e1 := E1.out
          simp [e1]

set_option maxRecDepth 100000 in
theorem lifted (os : Os) (started : os.Started) (H : Type) (enc : TypeId × Value → H) :
    ReturnsInHanded {} Try.checked os 4 .any (Rows.batchPartsSpec.pre6 enc Try.prog Try.f4 Rows.batchPartsRow.domain false) (Rows.batchPartsSpec.post enc Try.prog Try.f4 false true false false) := by
  refine returnsInHanded_of_change (C := Try.checked) own started (by kernel_rfl) Try.func4
    (ChangeSpec.witness6 (enc := enc) (C := Try.checked) false ⟨#[], #[.slice none 0 0, .slice none 0 0, .int .u8 0, .int .u8 0, .int .u8 0, .slice none 0 0], []⟩ 8 (by kernel_rfl) (by kernel_rfl) (by kernel_rfl) (by kernel_rfl)) ?_
  intro W base args ds gs before hval0 hW hcnd _
  have hval : ∀ (j : Nat) t v, Try.f4.params[j]? = some t → args[j]? = some v → Value.okWide Try.prog W .any base t v := hval0
  have hW' := hW
  obtain ⟨p, q, hA0, hV, rfl, hfz, hnd⟩ := hW
  have hA : DataW.TrodAll enc Try.prog W 0 (fun _ => true) true Try.f4.params.toList args.toList ds p := hA0
  rw [Try.params4] at hA hval
  obtain ⟨v0, vs0, d0, ds0, p0, q0, hargs, rfl, rfl, h0, r0⟩ := trodAll_cons hA
  obtain ⟨v1, vs1, d1, ds1, p1, q1, rfl, rfl, rfl, h1, r1⟩ := trodAll_cons r0
  obtain ⟨v2, vs2, d2, ds2, p2, q2, rfl, rfl, rfl, h2, r2⟩ := trodAll_cons r1
  obtain ⟨v3, vs3, d3, ds3, p3, q3, rfl, rfl, rfl, h3, r3⟩ := trodAll_cons r2
  obtain ⟨v4, vs4, d4, ds4, p4, q4, rfl, rfl, rfl, h4, r4⟩ := trodAll_cons r3
  obtain ⟨v5, vs5, d5, ds5, p5, q5, rfl, rfl, rfl, h5, r5⟩ := trodAll_cons r4
  obtain ⟨rfl, rfl, rfl⟩ := trodAll_nil r5
  obtain rfl : args = #[v0, v1, v2, v3, v4, v5] := by cases args; simp_all
  obtain ⟨rfl, rfl⟩ := trodVars_none hV
  obtain ⟨a0, len0, cap0, rfl⟩ := okWide_slice Try.underlying22 (hval 0 22 v0 rfl rfl)
  have k0 := h0
  have lt0 : ∀ x ∈ p0, x.block < W.heap.size := by obtain ⟨m, hm⟩ := k0; exact DataW.trod_lt m _ _ _ hm
  obtain ⟨z0, w0⟩ : ∃ f, IsActs W W.heap.size a0 len0 f ∧ len0 ≤ maxLen := by
    obtain ⟨fuel, hf⟩ := h0
    exact acts_open (by simpa [Value.cells] using hf)
  obtain ⟨a1, len1, cap1, rfl⟩ := okWide_slice Try.underlying23 (hval 1 23 v1 rfl rfl)
  have k1 := h1
  have lt1 : ∀ x ∈ p1, x.block < W.heap.size := by obtain ⟨m, hm⟩ := k1; exact DataW.trod_lt m _ _ _ hm
  obtain ⟨z1, w1⟩ : ∃ zs, IsRow .u8 W a1 len1 cap1 zs := by
    obtain ⟨fuel, hf⟩ := h1
    rcases open_ints Try.underlying23 Try.underlying5 (by kernel_rfl) hf with ⟨hcs, _⟩ | ⟨x, l, c, zs, hcs, _, hl, hm, hz, _, hcell, hwz⟩
    · simp [Value.cells] at hcs
      obtain ⟨rfl, rfl, rfl⟩ := hcs
      exact ⟨[], .inl ⟨rfl, rfl, rfl, rfl⟩⟩
    · simp [Value.cells] at hcs
      obtain ⟨rfl, rfl, rfl⟩ := hcs
      exact ⟨zs, .inr ⟨_, rfl, hl, hm, by simpa using hz, hcell, hwz⟩⟩
  obtain ⟨a2, rfl, rfl, rfl, w2⟩ := open_int Try.underlying5 (hval 2 5 v2 rfl rfl) h2
  obtain ⟨a3, rfl, rfl, rfl, w3⟩ := open_int Try.underlying5 (hval 3 5 v3 rfl rfl) h3
  obtain ⟨a4, rfl, rfl, rfl, w4⟩ := open_int Try.underlying5 (hval 4 5 v4 rfl rfl) h4
  obtain ⟨a5, len5, cap5, rfl⟩ := okWide_slice Try.underlying23 (hval 5 23 v5 rfl rfl)
  have k5 := h5
  have lt5 : ∀ x ∈ p5, x.block < W.heap.size := by obtain ⟨m, hm⟩ := k5; exact DataW.trod_lt m _ _ _ hm
  obtain ⟨z5, w5⟩ : ∃ zs, IsRow .u8 W a5 len5 cap5 zs := by
    obtain ⟨fuel, hf⟩ := h5
    rcases open_ints Try.underlying23 Try.underlying5 (by kernel_rfl) hf with ⟨hcs, _⟩ | ⟨x, l, c, zs, hcs, _, hl, hm, hz, _, hcell, hwz⟩
    · simp [Value.cells] at hcs
      obtain ⟨rfl, rfl, rfl⟩ := hcs
      exact ⟨[], .inl ⟨rfl, rfl, rfl, rfl⟩⟩
    · simp [Value.cells] at hcs
      obtain ⟨rfl, rfl, rfl⟩ := hcs
      exact ⟨zs, .inr ⟨_, rfl, hl, hm, by simpa using hz, hcell, hwz⟩⟩
  clear hA0 hval0
  refine (walk a0 len0 cap0 z0 a1 len1 cap1 z1 a2 a3 a4 a5 len5 cap5 z5 W w0 w1 w2 w3 w4 w5).mono fun e W' ⟨he, bel⟩ => ?_
  subst he
  exact ⟨_, rfl, _, _, _, [], _, [], hW', trodAll_mk1 (shut_bool Try.underlying4 _), (trodAll_cons_mk (Below.trod laidOut (by kernel_rfl) (of_decide_eq_true (by kernel_rfl)) k0 bel lt0) (trodAll_cons_mk (Below.trod laidOut (by kernel_rfl) (of_decide_eq_true (by kernel_rfl)) k1 bel lt1) (trodAll_cons_mk (shut_int Try.underlying5 w2) (trodAll_cons_mk (shut_int Try.underlying5 w3) (trodAll_cons_mk (shut_int Try.underlying5 w4) (trodAll_cons_mk (Below.trod laidOut (by kernel_rfl) (of_decide_eq_true (by kernel_rfl)) k5 bel lt5) trodAll_mk0)))))), rfl, bel.frame _, fun h => by cases h⟩

theorem over : Rows.batchPartsRow.holds Try.pinned (OpenSpec.ofChange Rows.batchPartsSpec) :=
  OpenClaim.holds_of_wide 4 Try.f4 rfl rfl rfl rfl rfl rfl rfl ⟨rfl, rfl, rfl, rfl, rfl⟩ rfl rfl rfl rfl rfl (by kernel_rfl) Try.func4 (by kernel_rfl)
    (of_decide_eq_true (by kernel_rfl)) (by unfold Func.isWrapper; first | (rw [if_pos (by decide +kernel)]; kernel_rfl) | (rw [if_neg (by decide +kernel)]; exact ⟨rfl, rfl⟩))
    (fun os started H enc _ => lifted os started H enc)

theorem proved : Rows.BatchPartsSaid :=
  over
end Go.Proofs.Ytojkandkhhjaaaa.batchParts

namespace Go.Proofs.Ytojkandkhhjaaaa
theorem batchParts_holds : Rows.BatchPartsSaid := batchParts.proved
#print axioms batchParts_holds
end Go.Proofs.Ytojkandkhhjaaaa

