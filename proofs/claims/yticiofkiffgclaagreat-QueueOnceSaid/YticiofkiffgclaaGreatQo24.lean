/-
  Kd in one text.
-/
import Derived.Test.YticiofkiffgclaaGreatQo13
import Derived.Test.YticiofkiffgclaaGreatQo23
import Derived.Deep.RegionHeld3
import Derived.Deep.DeepCutAuto
import Derived.LoopTactic
namespace Go.Proofs.YticiofkiffgclaaGreat
set_option linter.unusedVariables false
open Go.RowKit

def set4 (w : World) (g : Nat) (u0 u1 u2 u3 : Value) : World := (((w.setCell ⟨g, 0, none⟩ u0).setCell ⟨g, 1, none⟩ u1).setCell ⟨g, 2, none⟩ u2).setCell ⟨g, 3, none⟩ u3
theorem set4_kept {a w : World} {bs : List Nat} (h : Kept a w bs) {g : Nat} (hg : a.heap.size ≤ g) (u0 u1 u2 u3 : Value) : Kept a (set4 w g u0 u1 u2 u3) bs := h.four (.inr hg) u0 u1 u2 u3
theorem set4_at {w : World} {g : Nat} {z0 z1 z2 z3 : Value} {T : TypeId} (h : w.heap[g]? = some (.cells #[z0, z1, z2, z3] T (0, 0))) (u0 u1 u2 u3 : Value) : (set4 w g u0 u1 u2 u3).heap[g]? = some (.cells #[u0, u1, u2, u3] T (0, 0)) := by
  unfold set4
  rw [heap_setCell_at (heap_setCell_at (heap_setCell_at (heap_setCell_at h 0 u0) 1 u1) 2 u2) 3 u3]
  simp only [List.setIfInBounds_toArray, List.set_cons_zero, List.set_cons_succ]
abbrev zT4 : Obj := .cells #[.int .i64 0, .int .i64 0, .slice none 0 0, .int .i64 0] 38

variable {w w' : World} {B h : Nat} {V : Value} {xs : List Tk}

theorem folB_snoc (ys : List Tk) (y : Tk) (M : Int) (l : List Int) (t : Int) : folB ((ys ++ [y]).map Tk.pl) M l t = (decide (y.t ≤ t) && covB M y.M l y.l) := by
  unfold folB
  rw [List.map_append]
  simp [Tk.pl]

theorem Okp.lastT {ys : List Tk} {y : Tk} (a : Okp ((ys ++ [y]).map Tk.pl)) : rightB y.M y.l = true ∧ y.M ≤ 9223372036854775807 ∧ y.l.length ≤ 1000 := by
  have hm : y.pl ∈ (ys ++ [y]).map Tk.pl := by simp
  exact ⟨a.right _ hm, a.wide _ hm, a.len _ hm⟩

set_option maxHeartbeats 4000000 in
set_option maxRecDepth 100000 in
theorem follows_any (a : Tc tkT [] w B h V xs) (ok : Okp (xs.map Tk.pl)) (hl : xs.length ≤ 1000) (M : Int) (va : Option Addr) (vc : Nat) (l : List Int) (t : Int) (hr : RdI w (.slice va l.length vc) l) (rM : rightB M l = true) (hM : M ≤ 9223372036854775807) (hll : l.length ≤ 1000) :
    Calls Tryz.prog 174 #[.pointer (some ⟨h, 0, none⟩), .agg #[.int .i64 M, .slice va l.length vc], .int .i64 t] w fun e w' => e = .returned (.bool (folB (xs.map Tk.pl) M l t)) ∧ Kept w w' [] := by
  obtain ⟨z, hz⟩ : ∃ z, z = w.heap.size := ⟨_, rfl⟩
  obtain ⟨W1, hW1⟩ : ∃ W1, W1 = w.alloc (.cells #[.int .i64 M, .slice va l.length vc] 36) := ⟨_, rfl⟩
  have k1 : Kept w W1 [] := by rw [hW1]; exact (Kept.refl w []).alloc _
  have g0 : W1.heap[z]? = some (.cells #[.int .i64 M, .slice va l.length vc] 36 (0, 0)) := by rw [hW1, hz]; exact heap_alloc_new w _
  have a1 := a.keep k1
  have HL : RowKit.Hid (∀ U, Kept W1 U [] → Calls Tryz.prog 73 #[.pointer (some ⟨h, 0, none⟩)] U fun e w' => e = .returned (.int .i64 xs.length) ∧ w' = U) := Lib.hid (fun U hU => tklen_any (a1.keep hU))
  have R1 := Lib.hid (hr.keep k1)
  have K1 := Lib.hid k1; have HW1 := Lib.hid hW1; have HZ := Lib.hid hz; have G0 := Lib.hid g0
  have S0 := Lib.hid (show z + 1 = W1.heap.size by rw [hW1, hz]; simp)
  have RM := Lib.hid rM
  clear hr rM k1 hW1 g0 hz a
  rcases List.eq_nil_or_concat xs with rfl | ⟨ys, y, e⟩
  · clear a1
    go_enter Tryz.func174, Tryz.ntmps174
    go_wp2_with fail
    rw [← HW1.out]
    refine (HL.out _ (Kept.refl _ _)).mono ?_
    rintro e w2 ⟨rfl, rfl⟩
    go_wp2
    go_ret
    exact ⟨rfl, K1.out⟩
  · rw [List.concat_eq_append] at e
    subst e
    rw [folB_snoc]
    obtain ⟨rY, hyM, hyl⟩ := ok.lastT
    obtain ⟨g, c, eV, q0, q1, q2, q3, hry⟩ := a1.last
    have cv := a1.cell.1
    rw [eV] at cv
    rw [List.length_append, List.length_singleton] at HL
    have hl2 : ys.length < 1000 := by simp at hl; omega
    have RY := Lib.hid rY; have HRY := Lib.hid hry
    obtain ⟨n', M', a', c', l', t'⟩ := y
    simp only [Tk.op] at *
    have Q : RowKit.Hid (W1.cell? ⟨h, 0, none⟩ = some (.slice (some ⟨g, 0, none⟩) (ys.length + 1) c) ∧ W1.cell? ⟨g, ys.length * 4, none⟩ = some (.int .i64 n') ∧ W1.cell? ⟨g, ys.length * 4 + 1, none⟩ = some (.int .i64 M') ∧ W1.cell? ⟨g, ys.length * 4 + 2, none⟩ = some (.slice a' l'.length c') ∧ W1.cell? ⟨g, ys.length * 4 + 3, none⟩ = some (.int .i64 t')) := Lib.hid ⟨cv, q0, q1, q2, q3⟩
    clear a1 ok rY hry cv q0 q1 q2 q3 eV hl
    have x0 : (((ys.length : Nat) : Int) + 1 == 0) = false := by rw [beq_eq_false_iff_ne]; omega
    obtain ⟨N, hN⟩ : ∃ N : Nat, N = ys.length := ⟨_, rfl⟩
    rw [← hN] at HL x0 Q hl2
    clear hN
    go_enter Tryz.func174, Tryz.ntmps174
    go_wp2_with fail
    rw [← HW1.out]
    refine (HL.out _ (Kept.refl _ _)).mono ?_
    rintro e w2 ⟨rfl, rfl⟩
    go_upto_region 3 with fail
    go_cut [7] (fun s7 wx => ∃ p, s7 = .pointer (some ⟨p, 0, none⟩) ∧ RowKit.Hid (Kept w2 wx [] ∧ wx.heap[p]? = some (.cells #[.int .i64 n', .int .i64 M', .slice a' l'.length c', .int .i64 t'] 38 (0, 0))))
    case first =>
      refine wp_region_held_drew (S := fun V => Kept w2 V []) (by kernel_rfl) (Kept.refl w2 []).drew (fun hHeld => ?_)
      refine wpAnyH_take (i := 0) (oi := _) (v := .pointer (some ⟨h, 0, none⟩)) rfl (by kernel_rfl) (by kernel_rfl) (by kernel_rfl) (fun _ _ _ h => h) (Or.inl ⟨by rfl, fun V hV => by go_simp⟩) hHeld ?_
      change wpAnyH _ _ _ _ _ _ _ (Act.put _ (some 11) _) _
      simp only [Act.put, List.setIfInBounds_toArray, List.set_cons_zero, List.set_cons_succ]
      refine wpAnyH_take (i := 1) (oi := _) (v := .pointer (some ⟨h, 0, none⟩)) rfl (by kernel_rfl) (by kernel_rfl) (by kernel_rfl) (fun _ _ _ h => h) (Or.inl ⟨by rfl, fun V hV => by go_simp⟩) hHeld ?_
      change wpAnyH _ _ _ _ _ _ _ (Act.put _ (some 12) _) _
      simp only [Act.put, List.setIfInBounds_toArray, List.set_cons_zero, List.set_cons_succ]
      refine wpAnyH_take (i := 2) (oi := _) (v := .pointer (some ⟨h, 0, none⟩)) rfl (by kernel_rfl) (by kernel_rfl) (by kernel_rfl) (fun _ _ _ h => h) (Or.inl ⟨by rfl, fun V hV => by go_simp⟩) hHeld ?_
      change wpAnyH _ _ _ _ _ _ _ (Act.put _ (some 13) _) _
      simp only [Act.put, List.setIfInBounds_toArray, List.set_cons_zero, List.set_cons_succ]
      refine wpAnyH_take (i := 3) (oi := _) (v := .slice (some ⟨g, 0, none⟩) (N + 1) c) rfl (by kernel_rfl) (by kernel_rfl) (by kernel_rfl) (fun _ _ _ h => h) (Or.inl ⟨by rfl, fun V hV => by (have c0 := hV.cell (p := ⟨h, 0, none⟩) (by simp) Q.out.1; clear hV; go_simp)⟩) hHeld ?_
      change wpAnyH _ _ _ _ _ _ _ (Act.put _ (some 14) _) _
      simp only [Act.put, List.setIfInBounds_toArray, List.set_cons_zero, List.set_cons_succ]
      refine wpAnyH_take (i := 4) (oi := _) (v := .pointer (some ⟨h, 0, none⟩)) rfl (by kernel_rfl) (by kernel_rfl) (by kernel_rfl) (fun _ _ _ h => h) (Or.inl ⟨by rfl, fun V hV => by go_simp⟩) hHeld ?_
      change wpAnyH _ _ _ _ _ _ _ (Act.put _ (some 15) _) _
      simp only [Act.put, List.setIfInBounds_toArray, List.set_cons_zero, List.set_cons_succ]
      have m1 : IntKind.i64.wrap (((N : Int) + 1) - 1) = (N : Int) := by rw [IntKind.wrap_i64]; omega
      have m2 : ((N : Int) + 1) - 1 = (N : Int) := by omega
      have m5 : IntKind.i64.wrap (N : Int) = (N : Int) := by rw [IntKind.wrap_i64]; omega
      have m3 : (N : Int) < ((N + 1 : Nat) : Int) := by omega
      have m4 : (N : Int) < (N : Int) + 1 := by omega
      refine wpAnyH_ready (rs := [5, 9]) (by kernel_rfl) (by simp) ?_
      refine AllReadyH.cons (o := _) rfl (fun K hK => ?wayA) (AllReadyH.cons (o := _) rfl (fun K hK => ?wayB) AllReadyH.nil)
      case wayA =>
        go_simp
        go_at_call 73
        refine (HL.out _ (Kept.refl w2 []).drew).mono ?_
        rintro e w3 ⟨rfl, rfl⟩
        go_wp2_with fail
        refine hK.out _ _ (Kept.refl w2 []).drew (fun hHeld => ?_)
        clear hK K
        refine wpAnyH_take (i := 6) (oi := _) (v := .int .i64 N) rfl (by kernel_rfl) (by kernel_rfl) (by kernel_rfl) (fun _ _ _ h => h) (Or.inl ⟨by rfl, fun V hV => by go_simp⟩) hHeld ?_
        change wpAnyH _ _ _ _ _ _ _ (Act.put _ (some 17) _) _
        simp only [Act.put, List.setIfInBounds_toArray, List.set_cons_zero, List.set_cons_succ]
        refine wpAnyH_take (i := 7) (oi := _) (v := .pointer (some ⟨g, N * 4, none⟩)) rfl (by kernel_rfl) (by kernel_rfl) (by kernel_rfl) (fun _ _ _ h => h) (Or.inl ⟨by rfl, fun V hV => by go_simp⟩) hHeld ?_
        change wpAnyH _ _ _ _ _ _ _ (Act.put _ (some 18) _) _
        simp only [Act.put, List.setIfInBounds_toArray, List.set_cons_zero, List.set_cons_succ]
        refine wpAnyH_take (i := 8) (oi := _) (v := .agg #[.int .i64 n', .int .i64 M', .slice a' l'.length c', .int .i64 t']) rfl (by kernel_rfl) (by kernel_rfl) (by kernel_rfl) (fun _ _ _ h => h) (Or.inl ⟨by rfl, fun V hV => by (obtain ⟨_, j0, j1, j2, j3⟩ := Q.out; have c0 := hV.cell (p := ⟨g, N * 4, none⟩) (by simp) j0; have c1 := hV.cell (p := ⟨g, N * 4 + 1, none⟩) (by simp) j1; have c2 := hV.cell (p := ⟨g, N * 4 + 2, none⟩) (by simp) j2; have c3 := hV.cell (p := ⟨g, N * 4 + 3, none⟩) (by simp) j3; clear hV j0 j1 j2 j3; go_simp)⟩) hHeld ?_
        change wpAnyH _ _ _ _ _ _ _ (Act.put _ (some 19) _) _
        simp only [Act.put, List.setIfInBounds_toArray, List.set_cons_zero, List.set_cons_succ]
        refine wpAnyH_ready (rs := [9]) (by kernel_rfl) (by simp) ?_
        refine AllReadyH.cons (o := _) rfl (fun K hK => ?_) AllReadyH.nil
        go_simp
        refine hK.out _ _ ((Kept.refl w2 []).alloc zT4).drew (fun hHeld => ?_)
        clear hK K
        obtain ⟨wA, hwA⟩ : ∃ wA, wA = (w2.alloc zT4).drew := ⟨_, rfl⟩
        have kA : Kept w2 wA [] := by rw [hwA]; exact ((Kept.refl w2 []).alloc zT4).drew
        have gA : wA.heap[w2.heap.size]? = some zT4 := by rw [hwA]; exact heap_alloc_new w2 zT4
        rw [← hwA]
        clear hwA
        obtain ⟨p, hp⟩ : ∃ p, p = w2.heap.size := ⟨_, rfl⟩
        rw [← hp] at gA ⊢
        have sp : w2.heap.size ≤ p := by omega
        clear hp
        refine wpAnyH_ready (rs := [10]) (by kernel_rfl) (by simp) ?_
        refine AllReadyH.cons (o := _) rfl (fun K hK => ?_) AllReadyH.nil
        obtain ⟨c0, c1, c2, c3⟩ := tk_cells gA
        obtain ⟨f0, f1, f2, f3⟩ := tk_frozen gA
        go_simp
        clear c0 c1 c2 c3 f0 f1 f2 f3
        refine hK.out _ (set4 wA p (.int .i64 n') (.int .i64 M') (.slice a' l'.length c') (.int .i64 t')) (set4_kept kA sp _ _ _ _) (fun hHeld => ?_)
        clear hK K
        refine wpAnyH_done (by kernel_rfl) ?_ _
        go_wp2_with fail
        go_meet
        exact ⟨p, rfl, set4_kept kA sp _ _ _ _, set4_at gA _ _ _ _⟩
      case wayB =>
        go_simp
        refine hK.out _ _ ((Kept.refl w2 []).alloc zT4).drew (fun hHeld => ?_)
        clear hK K
        refine wpAnyH_ready (rs := [5]) (by kernel_rfl) (by simp) ?_
        refine AllReadyH.cons (o := _) rfl (fun K hK => ?_) AllReadyH.nil
        go_simp
        go_at_call 73
        refine (HL.out _ ((Kept.refl w2 []).alloc zT4).drew).mono ?_
        rintro e w3 ⟨rfl, rfl⟩
        go_wp2_with fail
        refine hK.out _ _ ((Kept.refl w2 []).alloc zT4).drew (fun hHeld => ?_)
        clear hK K
        refine wpAnyH_take (i := 6) (oi := _) (v := .int .i64 N) rfl (by kernel_rfl) (by kernel_rfl) (by kernel_rfl) (fun _ _ _ h => h) (Or.inl ⟨by rfl, fun V hV => by go_simp⟩) hHeld ?_
        change wpAnyH _ _ _ _ _ _ _ (Act.put _ (some 17) _) _
        simp only [Act.put, List.setIfInBounds_toArray, List.set_cons_zero, List.set_cons_succ]
        refine wpAnyH_take (i := 7) (oi := _) (v := .pointer (some ⟨g, N * 4, none⟩)) rfl (by kernel_rfl) (by kernel_rfl) (by kernel_rfl) (fun _ _ _ h => h) (Or.inl ⟨by rfl, fun V hV => by go_simp⟩) hHeld ?_
        change wpAnyH _ _ _ _ _ _ _ (Act.put _ (some 18) _) _
        simp only [Act.put, List.setIfInBounds_toArray, List.set_cons_zero, List.set_cons_succ]
        refine wpAnyH_take (i := 8) (oi := _) (v := .agg #[.int .i64 n', .int .i64 M', .slice a' l'.length c', .int .i64 t']) rfl (by kernel_rfl) (by kernel_rfl) (by kernel_rfl) (fun _ _ _ h => h) (Or.inl ⟨by rfl, fun V hV => by (obtain ⟨_, j0, j1, j2, j3⟩ := Q.out; have c0 := hV.cell (p := ⟨g, N * 4, none⟩) (by simp) j0; have c1 := hV.cell (p := ⟨g, N * 4 + 1, none⟩) (by simp) j1; have c2 := hV.cell (p := ⟨g, N * 4 + 2, none⟩) (by simp) j2; have c3 := hV.cell (p := ⟨g, N * 4 + 3, none⟩) (by simp) j3; clear hV j0 j1 j2 j3; go_simp)⟩) hHeld ?_
        change wpAnyH _ _ _ _ _ _ _ (Act.put _ (some 19) _) _
        simp only [Act.put, List.setIfInBounds_toArray, List.set_cons_zero, List.set_cons_succ]
        obtain ⟨wA, hwA⟩ : ∃ wA, wA = (w2.alloc zT4).drew := ⟨_, rfl⟩
        have kA : Kept w2 wA [] := by rw [hwA]; exact ((Kept.refl w2 []).alloc zT4).drew
        have gA : wA.heap[w2.heap.size]? = some zT4 := by rw [hwA]; exact heap_alloc_new w2 zT4
        rw [← hwA]
        clear hwA
        obtain ⟨p, hp⟩ : ∃ p, p = w2.heap.size := ⟨_, rfl⟩
        rw [← hp] at gA ⊢
        have sp : w2.heap.size ≤ p := by omega
        clear hp
        refine wpAnyH_ready (rs := [10]) (by kernel_rfl) (by simp) ?_
        refine AllReadyH.cons (o := _) rfl (fun K hK => ?_) AllReadyH.nil
        obtain ⟨c0, c1, c2, c3⟩ := tk_cells gA
        obtain ⟨f0, f1, f2, f3⟩ := tk_frozen gA
        go_simp
        clear c0 c1 c2 c3 f0 f1 f2 f3
        refine hK.out _ (set4 wA p (.int .i64 n') (.int .i64 M') (.slice a' l'.length c') (.int .i64 t')) (set4_kept kA sp _ _ _ _) (fun hHeld => ?_)
        clear hK K
        refine wpAnyH_done (by kernel_rfl) ?_ _
        go_wp2_with fail
        go_meet
        exact ⟨p, rfl, set4_kept kA sp _ _ _ _, set4_at gA _ _ _ _⟩
    case rest =>
      obtain ⟨p, rfl, HP⟩ := hcut
      have c0 := (HP.out.1.heap (by simp) G0.out)
      rw [HZ.out] at c0
      obtain ⟨j0, j1⟩ := two_cells c0
      obtain ⟨d0, d1, d2, d3⟩ := tk_cells HP.out.2
      clear c0
      have C := Lib.hid (covers_any M M' _ _ l l' wc (R1.out.keep HP.out.1) (HRY.out.1.keep HP.out.1) RM.out RY.out hM hyM hll hyl)
      by_cases hge : t' ≤ t
      · have x5 : decide (t' ≤ t) = true := decide_eq_true hge
        have X5 := Lib.hid x5
        clear hge
        go_wp2_with fail
        refine C.out.mono ?_
        rintro e w3 ⟨r, rfl, hr, k3⟩
        have K3 := Lib.hid k3
        have HR : RowKit.Hid (r = covB M M' l l') := Lib.hid (by rw [Bool.eq_iff_iff, hr, covB_iff RM.out RY.out])
        clear hr k3
        go_wp2
        go_ret
        exact ⟨retb (by rw [X5.out, Bool.true_and, HR.out]), (K1.out.trans HP.out.1 (by simp)).trans K3.out (by simp)⟩
      · have x5 : decide (t' ≤ t) = false := decide_eq_false hge
        have X5 := Lib.hid x5
        clear C
        go_wp2
        go_ret
        exact ⟨retb (by first | rfl | (rw [X5.out]; rfl)), K1.out.trans HP.out.1 (by simp)⟩

theorem retn {a b : Int} (h : a = b) : Ending.returned (.int .i64 a) = .returned (.int .i64 b) := by rw [h]

set_option maxHeartbeats 4000000 in
set_option maxRecDepth 100000 in
theorem refusal_any (a : Tc tkT [] w B h V xs) (ok : Okp (xs.map Tk.pl)) (M : Int) (va : Option Addr) (vc : Nat) (l : List Int) (t : Int) (hr : RdI w (.slice va l.length vc) l) (hM : M ≤ 9223372036854775807) (hll : l.length ≤ 1000) :
    Calls Tryz.prog 132 #[.pointer (some ⟨h, 0, none⟩), .agg #[.int .i64 M, .slice va l.length vc], .int .i64 t] w fun e w' => e = .returned (.int .i64 (addE (xs.map Tk.pl) M l t)) ∧ Kept w w' [] := by
  have hsz : xs.length ≤ 64 := by have := ok.size; simpa using this
  have EE : RowKit.Hid (addE (xs.map Tk.pl) M l t = if 64 ≤ xs.length then 8 else if rightB M l = false then 1 else if folB (xs.map Tk.pl) M l t = true then 0 else 1) := Lib.hid (by unfold addE; rw [List.length_map])
  obtain ⟨W1, hW1⟩ : ∃ W1, W1 = w.alloc (.cells #[.int .i64 M, .slice va l.length vc] 36) := ⟨_, rfl⟩
  have k1 : Kept w W1 [] := by rw [hW1]; exact (Kept.refl w []).alloc _
  have g0 : W1.heap[w.heap.size]? = some (.cells #[.int .i64 M, .slice va l.length vc] 36 (0, 0)) := by rw [hW1]; exact heap_alloc_new w _
  have a1 := a.keep k1
  have HL := Lib.hid (tklen_any a1)
  have r1 := hr.keep k1
  have HR := Lib.hid (right_any M _ l W1 r1)
  have HF : RowKit.Hid (∀ U, Kept W1 U [] → rightB M l = true → Calls Tryz.prog 174 #[.pointer (some ⟨h, 0, none⟩), .agg #[.int .i64 M, .slice va l.length vc], .int .i64 t] U fun e w' => e = .returned (.bool (folB (xs.map Tk.pl) M l t)) ∧ Kept U w' []) := Lib.hid (fun U hU rM => follows_any (a1.keep hU) ok (by omega) M va vc l t (r1.keep hU) rM hM hll)
  have K1 := Lib.hid k1; have HW1 := Lib.hid hW1; have G0 := Lib.hid g0
  obtain ⟨j0, j1⟩ := two_cells g0
  clear hr a a1 ok r1 k1 hW1 g0
  by_cases h64 : 64 ≤ xs.length
  · have x1 : decide (64 ≤ (xs.length : Int)) = true := decide_eq_true (by omega)
    rw [if_pos h64] at EE
    clear h64
    go_enter Tryz.func132, Tryz.ntmps132
    go_wp2_with fail
    rw [← HW1.out]
    refine HL.out.mono ?_
    rintro e w2 ⟨rfl, rfl⟩
    go_wp2
    go_ret
    exact ⟨retn EE.out.symm, K1.out⟩
  · have x1 : decide (64 ≤ (xs.length : Int)) = false := decide_eq_false (by omega)
    rw [if_neg h64] at EE
    clear h64
    cases hR : rightB M l with
    | false =>
      rw [hR, if_pos rfl] at EE
      rw [hR] at HR
      clear HF hR
      go_enter Tryz.func132, Tryz.ntmps132
      go_wp2_with fail
      rw [← HW1.out]
      refine HL.out.mono ?_
      rintro e w2 ⟨rfl, rfl⟩
      go_wp2_with fail
      refine HR.out.mono ?_
      rintro e w3 ⟨rfl, k3⟩
      have K3 := Lib.hid k3
      clear k3
      go_wp2
      go_ret
      exact ⟨retn EE.out.symm, K1.out.trans K3.out (by simp)⟩
    | true =>
      rw [hR, if_neg (by simp)] at EE
      rw [hR] at HR
      have HF2 := Lib.hid (fun U hU => HF.out U hU hR)
      clear HF hR
      cases hF : folB (xs.map Tk.pl) M l t with
      | false =>
        rw [hF, if_neg (by simp)] at EE
        rw [hF] at HF2
        clear hF
        go_enter Tryz.func132, Tryz.ntmps132
        go_wp2_with fail
        rw [← HW1.out]
        refine HL.out.mono ?_
        rintro e w2 ⟨rfl, rfl⟩
        go_wp2_with fail
        refine HR.out.mono ?_
        rintro e w3 ⟨rfl, k3⟩
        have K3 := Lib.hid k3
        obtain ⟨j2, j3⟩ := two_cells (k3.heap (by simp) G0.out)
        clear k3
        go_wp2_with fail
        refine (HF2.out _ K3.out).mono ?_
        rintro e w4 ⟨rfl, k4⟩
        have K4 := Lib.hid k4
        clear k4
        go_wp2
        go_ret
        exact ⟨retn EE.out.symm, (K1.out.trans K3.out (by simp)).trans K4.out (by simp)⟩
      | true =>
        rw [hF, if_pos rfl] at EE
        rw [hF] at HF2
        clear hF
        go_enter Tryz.func132, Tryz.ntmps132
        go_wp2_with fail
        rw [← HW1.out]
        refine HL.out.mono ?_
        rintro e w2 ⟨rfl, rfl⟩
        go_wp2_with fail
        refine HR.out.mono ?_
        rintro e w3 ⟨rfl, k3⟩
        have K3 := Lib.hid k3
        obtain ⟨j2, j3⟩ := two_cells (k3.heap (by simp) G0.out)
        clear k3
        go_wp2_with fail
        refine (HF2.out _ K3.out).mono ?_
        rintro e w4 ⟨rfl, k4⟩
        have K4 := Lib.hid k4
        clear k4
        go_wp2
        go_ret
        exact ⟨retn EE.out.symm, (K1.out.trans K3.out (by simp)).trans K4.out (by simp)⟩

end Go.Proofs.YticiofkiffgclaaGreat
