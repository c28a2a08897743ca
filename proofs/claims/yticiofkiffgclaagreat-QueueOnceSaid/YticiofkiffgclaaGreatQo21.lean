/-
  Sph, Spi, Sqb, Srb in one text.
-/
import Derived.Test.YticiofkiffgclaaGreatQo20
import Derived.Test.YticiofkiffgclaaGreatQo7
import Derived.Deep.Slices
import Derived.Deep.Fields
import Derived.Deep.Grids
import Derived.ChangeSame
import Derived.LoopTactic
import Derived.ProofKit
import Derived.OpenShut
import Derived.ChangeOld
import Derived.Below
import Derived.Laws.StructEq
import Derived.Deep.LoopGhost
import Derived.Test.YticiofkiffgclaaGreatQo3
import Derived.BigQuiet
import Derived.Deep.DeepCutAuto
namespace Go.Proofs.YticiofkiffgclaaGreat
set_option linter.unusedVariables false
open Go.RowKit

variable {w w' : World} {B h c k : Nat} {x : Int} {V : Nat → Value} {l : Nat → List Ev}

def forL (x : Int) (l : Nat → List Ev) : Nat → List Ev := fun i => (l i).filter fun r => !ofX x r
def flK (x : Int) (l : Nat → List Ev) (k : Nat) : Nat → List Ev := fun i => if i < k then forL x l i else l i

theorem Sp.congr {T : TypeId} {m : Nat → List Ev} (a : Sp T w B h V l c) (e : ∀ i, i < 3 → l i = m i) : Sp T w B h V m c := ⟨a.hh, a.bh, a.c3, fun i hi => by rw [← e i hi]; exact a.own i hi⟩

theorem lenN_le (x : Int) (l : Nat → List Ev) : lenN (forL x l) ≤ lenN l := by
  unfold lenN forL
  have := List.length_filter_le (fun r => !ofX x r) (l 0)
  have := List.length_filter_le (fun r => !ofX x r) (l 1)
  have := List.length_filter_le (fun r => !ofX x r) (l 2)
  omega

theorem forget_step (a : Sp spT w B h V (flK x l k) c) (d : Dst V) (hk : k < 3) (hl : (l k).length < 1000000) {xb : Nat} (hx : w.heap[xb]? = some (.cells #[.int .i64 x] 2 (0, 0))) :
    Calls Tryz.prog 139 #[V k, .func (.func 138) #[] #[.pointer (some ⟨xb, 0, none⟩)]] w.drew fun e w2 => ∃ u m n, e = .returned (.slice u m n) ∧ w2.cell? ⟨h, k, none⟩ = some (V k) ∧ w2.frozen? ⟨h, k, none⟩ = false ∧
      Sp spT (w2.setCell ⟨h, k, none⟩ (.slice u m n)) B h (upd V k (.slice u m n)) (flK x l (k + 1)) c ∧ Dst (upd V k (.slice u m n)) ∧ Stp (sfoot h V) (sfoot h (upd V k (.slice u m n))) w (w2.setCell ⟨h, k, none⟩ (.slice u m n)) ∧
      (w2.setCell ⟨h, k, none⟩ (.slice u m n)).heap[xb]? = some (.cells #[.int .i64 x] 2 (0, 0)) := by
  have kd : Kept w w.drew [] := (Kept.refl w []).drew
  have ad := a.keep kd
  have hxd := kd.heap (by simp) hx
  have o := ad.own k hk
  have ek : flK x l k k = l k := by unfold flK; rw [if_neg (by omega)]
  rw [ek] at o
  have nx : (V k).ownBlock ≠ some xb := o.apart hxd (by decide)
  refine (edeleteFunc_any o hl 138 #[.pointer (some ⟨xb, 0, none⟩)] (ofX x) (enters_of Tryz.func138 (by kernel_rfl) rfl) (fun r V1 f => ?_)).mono ?_
  · have g := f.heap nx hxd
    exact ofX_any r x xb V1 (by rw [cell_of_row _ _ 0 _ _ _ g]; rfl) (heap_lt g)
  · rintro e w2 ⟨v2, rfl, o2, s2, f2⟩
    obtain ⟨u, n, rfl⟩ := o2.shape
    obtain ⟨⟨r1, r2⟩, r3, r4, r5, r6⟩ := ad.lay (by decide) d hk f2 o2 (fun k hk => .inl (s2 k hk))
    refine ⟨u, _, n, rfl, r1, r2, r3.congr (fun i hi => ?_), r4, Stp.trans (Stp.ofKept kd) r5, ?_⟩
    · by_cases e : i = k
      · subst e
        rw [upd_same]
        unfold flK forL
        rw [if_pos (by omega)]
      · rw [upd_ne _ _ e]
        unfold flK
        by_cases h : i < k
        · rw [if_pos h, if_pos (by omega)]
        · rw [if_neg h, if_neg (by omega)]
    · have g2 := f2.heap nx hxd
      have ne : xb ≠ h := by rintro rfl; rw [a.hh] at hx; simp at hx
      exact (Fo.setCell (O := fun k => k = h) (Fo.refl _ w2) (p := ⟨h, k, none⟩) (.inl rfl) _).heap ne g2

set_option maxHeartbeats 4000000 in
set_option maxRecDepth 100000 in
theorem forget_any (a : Sp spT w B h V l c) (d : Dst V) (hl : ∀ i, i < 3 → (l i).length < 1000000) (x : Int) :
    Calls Tryz.prog 82 #[.pointer (some ⟨h, 0, none⟩), .int .i64 x] w fun e w' => e = .returned (.int .i64 (lenN l - lenN (forL x l) : Nat)) ∧ ∃ V', Sp spT w' B h V' (forL x l) c ∧ Dst V' ∧ Stp (sfoot h V) (sfoot h V') w w' := by
  obtain ⟨xb, hxb⟩ : ∃ z, z = w.heap.size := ⟨_, rfl⟩
  obtain ⟨W1, hW1⟩ : ∃ W1, W1 = w.alloc (.cells #[.int .i64 x] 2) := ⟨_, rfl⟩
  have k1 : Kept w W1 [] := by rw [hW1]; exact (Kept.refl w []).alloc _
  have g1 : W1.heap[xb]? = some (.cells #[.int .i64 x] 2 (0, 0)) := by rw [hW1, hxb]; exact heap_alloc_new w _
  have a1 := a.keep k1
  have CL := Lib.hid (len_any a1 (fun i hi => by have := hl i hi; omega))
  have c0 := (a1.cell 0 (by omega)).1
  have c1 := (a1.cell 1 (by omega)).1
  have c2 := (a1.cell 2 (by omega)).1
  obtain ⟨u0, n0, e0⟩ := a1.shape 0 (by omega)
  obtain ⟨u1, n1, e1⟩ := a1.shape 1 (by omega)
  obtain ⟨u2, n2, e2⟩ := a1.shape 2 (by omega)
  rw [e0] at c0
  rw [e1] at c1
  rw [e2] at c2
  have A1 := Lib.hid (show Sp spT W1 B h V (flK x l 0) c from a1.congr (fun i _ => by unfold flK; rw [if_neg (by omega)]))
  have D := Lib.hid d; have G1 := Lib.hid g1; have K1 := Lib.hid k1; have HW1 := Lib.hid hW1; have HXB := Lib.hid hxb
  have HL := Lib.hid hl; have E := Lib.hid (And.intro e0 (And.intro e1 e2))
  have HB : RowKit.Hid (lenN l < 3000000) := Lib.hid (by have := hl 0 (by omega); have := hl 1 (by omega); have := hl 2 (by omega); unfold lenN; omega)
  obtain ⟨N, hN⟩ : ∃ N, N = lenN l := ⟨_, rfl⟩
  rw [← hN] at CL HB
  obtain ⟨m0, hm0⟩ : ∃ m, m = (l 0).length := ⟨_, rfl⟩
  obtain ⟨m1, hm1⟩ : ∃ m, m = (l 1).length := ⟨_, rfl⟩
  obtain ⟨m2, hm2⟩ : ∃ m, m = (l 2).length := ⟨_, rfl⟩
  rw [← hm0] at c0 E
  rw [← hm1] at c1 E
  rw [← hm2] at c2 E
  have HN := Lib.hid hN
  have HM := Lib.hid (And.intro hm0 (And.intro hm1 hm2))
  have hNb : N < 3000000 := HB.out
  clear a a1 d hl k1 g1 e0 e1 e2 hN hm0 hm1 hm2
  have i0 : ∀ w, (Instr.index 73 (.agg #[.slice u0 m0 n0, .slice u1 m1 n1, .slice u2 m2 n2]) (.int .i64 0)).run Tryz.prog w = .ok (.slice u0 m0 n0) w := fun _ => by kernel_rfl
  have i1 : ∀ w, (Instr.index 73 (.agg #[.slice u0 m0 n0, .slice u1 m1 n1, .slice u2 m2 n2]) (.int .i64 1)).run Tryz.prog w = .ok (.slice u1 m1 n1) w := fun _ => by kernel_rfl
  have i2 : ∀ w, (Instr.index 73 (.agg #[.slice u0 m0 n0, .slice u1 m1 n1, .slice u2 m2 n2]) (.int .i64 2)).run Tryz.prog w = .ok (.slice u2 m2 n2) w := fun _ => by kernel_rfl
  by_cases h0 : N = 0
  · subst h0
    have R : RowKit.Hid (lenN l - lenN (forL x l) = 0) := Lib.hid (by have := HN.out; omega)
    rw [R.out]
    go_enter Tryz.func82, Tryz.ntmps82
    go_wp2_with fail
    rw [← HW1.out, ← HXB.out]
    clear hW1 hxb
    refine CL.out.mono ?_
    rintro e w' ⟨rfl, rfl⟩
    go_wp2
    go_ret
    refine ⟨rfl, V, A1.out.congr (fun i hi => ?_), D.out, Stp.ofKept K1.out⟩
    have : ∀ j, j < 3 → l j = [] := fun j hj => by
      have := HN.out
      unfold lenN at this
      refine List.eq_nil_of_length_eq_zero ?_
      obtain rfl | rfl | rfl : j = 0 ∨ j = 1 ∨ j = 2 := by omega
      all_goals omega
    unfold flK forL
    rw [if_neg (by omega), this i hi]
    rfl
  · have hN0 : ((N : Int) == 0) = false := beq_eq_false_iff_ne.2 (by omega)
    go_enter Tryz.func82, Tryz.ntmps82
    go_wp2_with fail
    rw [← HW1.out, ← HXB.out]
    clear hW1 hxb
    refine CL.out.mono ?_
    rintro e w' ⟨rfl, rfl⟩
    go_wp2
    go_loopg [18, 7, 8] 3 (fun kx s18 _ _ wr => ∃ (k : Nat) (Vk : Nat → Value), s18 = .int .i64 k ∧ 3 - k ≤ kx ∧ k ≤ 3 ∧ RowKit.Hid (Sp spT wr B h Vk (flK x l k) c ∧ Dst Vk ∧ Stp (sfoot h V) (sfoot h Vk) w' wr ∧ wr.heap[xb]? = some (.cells #[.int .i64 x] 2 (0, 0)) ∧ ∀ j, k ≤ j → Vk j = V j))
    case atStart => exact ⟨0, V, rfl, by omega, by omega, A1.out, D.out, Stp.refl _ _, G1.out, fun _ _ => rfl⟩
    case round =>
      clear c0 c1 c2
      obtain ⟨k, Vk, rfl, hkx, hk3, HS⟩ := hrel
      have hk4 : k = 0 ∨ k = 1 ∨ k = 2 ∨ k = 3 := by omega
      rcases hk4 with rfl | rfl | rfl | rfl
      · obtain ⟨p1, p2, p3, p4, p5⟩ := HS.out
        have hc := forget_step p1 p2 (by omega) (HL.out 0 (by omega)) p4
        rw [p5 0 (Nat.le_refl _), E.out.1] at hc
        have HC := Lib.hid hc; have P3 := Lib.hid p3; have P5 := Lib.hid p5
        clear p1 p2 p3 p4 p5 hc HS
        go_wp2_with fail
        refine wp_region_held_drew (S := fun _ => True) (by kernel_rfl) trivial (fun hHeld => ?_)
        refine wpAnyH_take (i := 0) (oi := _) (v := .pointer (some ⟨h, 0, none⟩)) rfl (by kernel_rfl) (by kernel_rfl) (by kernel_rfl) (fun _ _ _ h => h) (Or.inl ⟨by rfl, fun V hV => by go_simp⟩) hHeld ?_
        change wpAnyH _ _ _ _ _ _ _ (Act.put _ (some 22) _) _
        simp only [Act.put, List.setIfInBounds_toArray, List.set_cons_zero, List.set_cons_succ]
        refine wpAnyH_take (i := 1) (oi := _) (v := .int .i64 0) rfl (by kernel_rfl) (by kernel_rfl) (by kernel_rfl) (fun _ _ _ h => h) (Or.inl ⟨by rfl, fun V hV => by go_simp⟩) hHeld ?_
        change wpAnyH _ _ _ _ _ _ _ (Act.put _ (some 23) _) _
        simp only [Act.put, List.setIfInBounds_toArray, List.set_cons_zero, List.set_cons_succ]
        refine wpAnyH_take (i := 2) (oi := _) (v := .slice u0 m0 n0) rfl (by kernel_rfl) (by kernel_rfl) (by kernel_rfl) (fun _ _ _ h => h) (Or.inl ⟨by rfl, fun V hV => by go_simp⟩) hHeld ?_
        change wpAnyH _ _ _ _ _ _ _ (Act.put _ (some 24) _) _
        simp only [Act.put, List.setIfInBounds_toArray, List.set_cons_zero, List.set_cons_succ]
        refine wpAnyH_take (i := 3) (oi := _) (v := .func (.func 138) #[] #[.pointer (some ⟨xb, 0, none⟩)]) rfl (by kernel_rfl) (by kernel_rfl) (by kernel_rfl) (fun _ _ _ h => h) (Or.inl ⟨by rfl, fun V hV => by go_simp⟩) hHeld ?_
        change wpAnyH _ _ _ _ _ _ _ (Act.put _ (some 25) _) _
        simp only [Act.put, List.setIfInBounds_toArray, List.set_cons_zero, List.set_cons_succ]
        refine wpAnyH_take (i := 5) (oi := _) (v := .pointer (some ⟨h, 0, none⟩)) rfl (by kernel_rfl) (by kernel_rfl) (by kernel_rfl) (fun _ _ _ h => h) (Or.inl ⟨by rfl, fun V hV => by go_simp⟩) hHeld ?_
        change wpAnyH _ _ _ _ _ _ _ (Act.put _ (some 27) _) _
        simp only [Act.put, List.setIfInBounds_toArray, List.set_cons_zero, List.set_cons_succ]
        refine wpAnyH_take (i := 6) (oi := _) (v := .pointer (some ⟨h, 0, none⟩)) rfl (by kernel_rfl) (by kernel_rfl) (by kernel_rfl) (fun _ _ _ h => h) (Or.inl ⟨by rfl, fun V hV => by go_simp⟩) hHeld ?_
        change wpAnyH _ _ _ _ _ _ _ (Act.put _ (some 28) _) _
        simp only [Act.put, List.setIfInBounds_toArray, List.set_cons_zero, List.set_cons_succ]
        refine wpAnyH_ready (rs := [4]) (by kernel_rfl) (by simp) ?_
        refine AllReadyH.cons (o := _) rfl (fun K hK => ?_) AllReadyH.nil
        go_simp
        go_at_call 139
        refine HC.out.mono ?_
        rintro e w2 ⟨u9, m9, n9, rfl, q1, q2, q3, q4, q5, q6⟩
        have Q := Lib.hid (And.intro q3 (And.intro q4 (And.intro q5 q6)))
        clear q3 q4 q5 q6
        go_wp2_with fail
        refine hK.out _ _ trivial (fun hHeld => ?_)
        clear hK K
        refine wpAnyH_take (i := 7) (oi := _) (v := .pointer (some ⟨h, 0, none⟩)) rfl (by kernel_rfl) (by kernel_rfl) (by kernel_rfl) (fun _ _ _ h => h) (Or.inl ⟨by rfl, fun V hV => by go_simp⟩) hHeld ?_
        refine wpAnyH_ready (rs := [8]) (by kernel_rfl) (by simp) ?_
        refine AllReadyH.cons (o := _) rfl (fun K hK => ?_) AllReadyH.nil
        go_simp
        refine hK.out _ _ trivial (fun hHeld => ?_)
        clear hK K
        refine wpAnyH_done (by kernel_rfl) ?_ _
        clear q1 q2
        go_wp2
        go_roundg 2
        case measure => omega
        case rel =>
          obtain ⟨q3, q4, q5, q6⟩ := Q.out
          exact ⟨0 + 1, _, by go_num, by omega, by omega, q3, q4, P3.out.trans q5, q6, fun j hj => by rw [upd_ne _ _ (by omega)]; exact P5.out j (by omega)⟩
      · obtain ⟨p1, p2, p3, p4, p5⟩ := HS.out
        have hc := forget_step p1 p2 (by omega) (HL.out 1 (by omega)) p4
        rw [p5 1 (Nat.le_refl _), E.out.2.1] at hc
        have HC := Lib.hid hc; have P3 := Lib.hid p3; have P5 := Lib.hid p5
        clear p1 p2 p3 p4 p5 hc HS
        go_wp2_with fail
        refine wp_region_held_drew (S := fun _ => True) (by kernel_rfl) trivial (fun hHeld => ?_)
        refine wpAnyH_take (i := 0) (oi := _) (v := .pointer (some ⟨h, 0, none⟩)) rfl (by kernel_rfl) (by kernel_rfl) (by kernel_rfl) (fun _ _ _ h => h) (Or.inl ⟨by rfl, fun V hV => by go_simp⟩) hHeld ?_
        change wpAnyH _ _ _ _ _ _ _ (Act.put _ (some 22) _) _
        simp only [Act.put, List.setIfInBounds_toArray, List.set_cons_zero, List.set_cons_succ]
        refine wpAnyH_take (i := 1) (oi := _) (v := .int .i64 1) rfl (by kernel_rfl) (by kernel_rfl) (by kernel_rfl) (fun _ _ _ h => h) (Or.inl ⟨by rfl, fun V hV => by go_simp⟩) hHeld ?_
        change wpAnyH _ _ _ _ _ _ _ (Act.put _ (some 23) _) _
        simp only [Act.put, List.setIfInBounds_toArray, List.set_cons_zero, List.set_cons_succ]
        refine wpAnyH_take (i := 2) (oi := _) (v := .slice u1 m1 n1) rfl (by kernel_rfl) (by kernel_rfl) (by kernel_rfl) (fun _ _ _ h => h) (Or.inl ⟨by rfl, fun V hV => by go_simp⟩) hHeld ?_
        change wpAnyH _ _ _ _ _ _ _ (Act.put _ (some 24) _) _
        simp only [Act.put, List.setIfInBounds_toArray, List.set_cons_zero, List.set_cons_succ]
        refine wpAnyH_take (i := 3) (oi := _) (v := .func (.func 138) #[] #[.pointer (some ⟨xb, 0, none⟩)]) rfl (by kernel_rfl) (by kernel_rfl) (by kernel_rfl) (fun _ _ _ h => h) (Or.inl ⟨by rfl, fun V hV => by go_simp⟩) hHeld ?_
        change wpAnyH _ _ _ _ _ _ _ (Act.put _ (some 25) _) _
        simp only [Act.put, List.setIfInBounds_toArray, List.set_cons_zero, List.set_cons_succ]
        refine wpAnyH_take (i := 5) (oi := _) (v := .pointer (some ⟨h, 0, none⟩)) rfl (by kernel_rfl) (by kernel_rfl) (by kernel_rfl) (fun _ _ _ h => h) (Or.inl ⟨by rfl, fun V hV => by go_simp⟩) hHeld ?_
        change wpAnyH _ _ _ _ _ _ _ (Act.put _ (some 27) _) _
        simp only [Act.put, List.setIfInBounds_toArray, List.set_cons_zero, List.set_cons_succ]
        refine wpAnyH_take (i := 6) (oi := _) (v := .pointer (some ⟨h, 0, none⟩)) rfl (by kernel_rfl) (by kernel_rfl) (by kernel_rfl) (fun _ _ _ h => h) (Or.inl ⟨by rfl, fun V hV => by go_simp⟩) hHeld ?_
        change wpAnyH _ _ _ _ _ _ _ (Act.put _ (some 28) _) _
        simp only [Act.put, List.setIfInBounds_toArray, List.set_cons_zero, List.set_cons_succ]
        refine wpAnyH_ready (rs := [4]) (by kernel_rfl) (by simp) ?_
        refine AllReadyH.cons (o := _) rfl (fun K hK => ?_) AllReadyH.nil
        go_simp
        go_at_call 139
        refine HC.out.mono ?_
        rintro e w2 ⟨u9, m9, n9, rfl, q1, q2, q3, q4, q5, q6⟩
        have Q := Lib.hid (And.intro q3 (And.intro q4 (And.intro q5 q6)))
        clear q3 q4 q5 q6
        go_wp2_with fail
        refine hK.out _ _ trivial (fun hHeld => ?_)
        clear hK K
        refine wpAnyH_take (i := 7) (oi := _) (v := .pointer (some ⟨h, 1, none⟩)) rfl (by kernel_rfl) (by kernel_rfl) (by kernel_rfl) (fun _ _ _ h => h) (Or.inl ⟨by rfl, fun V hV => by go_simp⟩) hHeld ?_
        refine wpAnyH_ready (rs := [8]) (by kernel_rfl) (by simp) ?_
        refine AllReadyH.cons (o := _) rfl (fun K hK => ?_) AllReadyH.nil
        go_simp
        refine hK.out _ _ trivial (fun hHeld => ?_)
        clear hK K
        refine wpAnyH_done (by kernel_rfl) ?_ _
        clear q1 q2
        go_wp2
        go_roundg 1
        case measure => omega
        case rel =>
          obtain ⟨q3, q4, q5, q6⟩ := Q.out
          exact ⟨1 + 1, _, by go_num, by omega, by omega, q3, q4, P3.out.trans q5, q6, fun j hj => by rw [upd_ne _ _ (by omega)]; exact P5.out j (by omega)⟩
      · obtain ⟨p1, p2, p3, p4, p5⟩ := HS.out
        have hc := forget_step p1 p2 (by omega) (HL.out 2 (by omega)) p4
        rw [p5 2 (Nat.le_refl _), E.out.2.2] at hc
        have HC := Lib.hid hc; have P3 := Lib.hid p3; have P5 := Lib.hid p5
        clear p1 p2 p3 p4 p5 hc HS
        go_wp2_with fail
        refine wp_region_held_drew (S := fun _ => True) (by kernel_rfl) trivial (fun hHeld => ?_)
        refine wpAnyH_take (i := 0) (oi := _) (v := .pointer (some ⟨h, 0, none⟩)) rfl (by kernel_rfl) (by kernel_rfl) (by kernel_rfl) (fun _ _ _ h => h) (Or.inl ⟨by rfl, fun V hV => by go_simp⟩) hHeld ?_
        change wpAnyH _ _ _ _ _ _ _ (Act.put _ (some 22) _) _
        simp only [Act.put, List.setIfInBounds_toArray, List.set_cons_zero, List.set_cons_succ]
        refine wpAnyH_take (i := 1) (oi := _) (v := .int .i64 2) rfl (by kernel_rfl) (by kernel_rfl) (by kernel_rfl) (fun _ _ _ h => h) (Or.inl ⟨by rfl, fun V hV => by go_simp⟩) hHeld ?_
        change wpAnyH _ _ _ _ _ _ _ (Act.put _ (some 23) _) _
        simp only [Act.put, List.setIfInBounds_toArray, List.set_cons_zero, List.set_cons_succ]
        refine wpAnyH_take (i := 2) (oi := _) (v := .slice u2 m2 n2) rfl (by kernel_rfl) (by kernel_rfl) (by kernel_rfl) (fun _ _ _ h => h) (Or.inl ⟨by rfl, fun V hV => by go_simp⟩) hHeld ?_
        change wpAnyH _ _ _ _ _ _ _ (Act.put _ (some 24) _) _
        simp only [Act.put, List.setIfInBounds_toArray, List.set_cons_zero, List.set_cons_succ]
        refine wpAnyH_take (i := 3) (oi := _) (v := .func (.func 138) #[] #[.pointer (some ⟨xb, 0, none⟩)]) rfl (by kernel_rfl) (by kernel_rfl) (by kernel_rfl) (fun _ _ _ h => h) (Or.inl ⟨by rfl, fun V hV => by go_simp⟩) hHeld ?_
        change wpAnyH _ _ _ _ _ _ _ (Act.put _ (some 25) _) _
        simp only [Act.put, List.setIfInBounds_toArray, List.set_cons_zero, List.set_cons_succ]
        refine wpAnyH_take (i := 5) (oi := _) (v := .pointer (some ⟨h, 0, none⟩)) rfl (by kernel_rfl) (by kernel_rfl) (by kernel_rfl) (fun _ _ _ h => h) (Or.inl ⟨by rfl, fun V hV => by go_simp⟩) hHeld ?_
        change wpAnyH _ _ _ _ _ _ _ (Act.put _ (some 27) _) _
        simp only [Act.put, List.setIfInBounds_toArray, List.set_cons_zero, List.set_cons_succ]
        refine wpAnyH_take (i := 6) (oi := _) (v := .pointer (some ⟨h, 0, none⟩)) rfl (by kernel_rfl) (by kernel_rfl) (by kernel_rfl) (fun _ _ _ h => h) (Or.inl ⟨by rfl, fun V hV => by go_simp⟩) hHeld ?_
        change wpAnyH _ _ _ _ _ _ _ (Act.put _ (some 28) _) _
        simp only [Act.put, List.setIfInBounds_toArray, List.set_cons_zero, List.set_cons_succ]
        refine wpAnyH_ready (rs := [4]) (by kernel_rfl) (by simp) ?_
        refine AllReadyH.cons (o := _) rfl (fun K hK => ?_) AllReadyH.nil
        go_simp
        go_at_call 139
        refine HC.out.mono ?_
        rintro e w2 ⟨u9, m9, n9, rfl, q1, q2, q3, q4, q5, q6⟩
        have Q := Lib.hid (And.intro q3 (And.intro q4 (And.intro q5 q6)))
        clear q3 q4 q5 q6
        go_wp2_with fail
        refine hK.out _ _ trivial (fun hHeld => ?_)
        clear hK K
        refine wpAnyH_take (i := 7) (oi := _) (v := .pointer (some ⟨h, 2, none⟩)) rfl (by kernel_rfl) (by kernel_rfl) (by kernel_rfl) (fun _ _ _ h => h) (Or.inl ⟨by rfl, fun V hV => by go_simp⟩) hHeld ?_
        refine wpAnyH_ready (rs := [8]) (by kernel_rfl) (by simp) ?_
        refine AllReadyH.cons (o := _) rfl (fun K hK => ?_) AllReadyH.nil
        go_simp
        refine hK.out _ _ trivial (fun hHeld => ?_)
        clear hK K
        refine wpAnyH_done (by kernel_rfl) ?_ _
        clear q1 q2
        go_wp2
        go_roundg 0
        case measure => omega
        case rel =>
          obtain ⟨q3, q4, q5, q6⟩ := Q.out
          exact ⟨2 + 1, _, by go_num, by omega, by omega, q3, q4, P3.out.trans q5, q6, fun j hj => by rw [upd_ne _ _ (by omega)]; exact P5.out j (by omega)⟩
      · obtain ⟨p1, p2, p3, p4, p5⟩ := HS.out
        have p1' := p1.congr (m := forL x l) (fun i hi => by unfold flK; rw [if_pos hi])
        have CL2 := Lib.hid (len_any p1' (fun i hi => by have := HL.out i hi; have := List.length_filter_le (fun r => !ofX x r) (l i); unfold forL; omega))
        have P := Lib.hid (And.intro p1' (And.intro p2 p3))
        have hle := lenN_le x l
        obtain ⟨M, hM⟩ : ∃ M, M = lenN (forL x l) := ⟨_, rfl⟩
        rw [← hM] at CL2 hle
        rw [← HN.out] at hle
        have HMM := Lib.hid hM
        clear p1 p2 p3 p4 p5 p1' HS hM
        go_wp2_with fail
        refine CL2.out.mono ?_
        rintro e w2 ⟨rfl, rfl⟩
        go_wp2
        go_ret
        obtain ⟨p1, p2, p3⟩ := P.out
        refine ⟨?_, _, p1, p2, (Stp.ofKept K1.out).trans p3⟩
        rw [← HN.out, ← HMM.out]
        go_num

end Go.Proofs.YticiofkiffgclaaGreat

namespace Go.Proofs.YticiofkiffgclaaGreat
set_option linter.unusedVariables false
open Go.RowKit

def noV : Nat → Value := fun _ => .slice none 0 0
theorem dst_no : Dst noV := by intro i j k _ _ _ h; simp [noV, Value.ownBlock] at h

def eI (n : Int) : Ev := ⟨n, 0, ⟨#[]⟩, 0, 0, 0, 0, ⟨#[]⟩⟩

end Go.Proofs.YticiofkiffgclaaGreat

namespace Go.Proofs.YticiofkiffgclaaGreat
set_option linter.unusedVariables false
open Go.RowKit

variable {T : TypeId} {F : Nat → Option Value} {w w' : World} {B h oo c : Nat} {V : Nat → Value} {l : Nat → List Ev}

theorem RdE.eight {a : Option Addr} {n c : Nat} {m : List Ev} (x : RdE w (.slice a n c) m) {k : Nat} {r : Ev} (hr : m[k]? = some r) : ∃ b o, a = some ⟨b, o, none⟩ ∧
    w.cell? ⟨b, o + k * 8, none⟩ = some (.int .i64 r.id) ∧ w.cell? ⟨b, o + k * 8 + 1, none⟩ = some (.int .i64 r.tx) ∧ w.cell? ⟨b, o + k * 8 + 2, none⟩ = some (.string r.ow) ∧ w.cell? ⟨b, o + k * 8 + 3, none⟩ = some (.int .i64 r.tr) ∧
    w.cell? ⟨b, o + k * 8 + 4, none⟩ = some (.int .i64 r.tb) ∧ w.cell? ⟨b, o + k * 8 + 5, none⟩ = some (.int .u8 r.kd) ∧ w.cell? ⟨b, o + k * 8 + 6, none⟩ = some (.int .i64 r.key) ∧ w.cell? ⟨b, o + k * 8 + 7, none⟩ = some (.string r.t) := by
  obtain ⟨hk, rfl⟩ := List.getElem?_eq_some_iff.1 hr
  obtain ⟨b, o, rfl, hc⟩ := x.at k hk
  exact ⟨b, o, rfl, hc 0 (by decide), hc 1 (by decide), hc 2 (by decide), hc 3 (by decide), hc 4 (by decide), hc 5 (by decide), hc 6 (by decide), hc 7 (by decide)⟩

end Go.Proofs.YticiofkiffgclaaGreat

namespace Go.Proofs.YticiofkiffgclaaGreat
set_option linter.unusedVariables false
open Go.RowKit

variable {w w' : World} {B h c : Nat} {V : Nat → Value} {l : Nat → List Ev}

theorem src_ev (w : World) (e : Ev) : Src Tryz.prog 8 57 (.slice (some ⟨w.heap.size, 0, none⟩) 1 1) 1 e.cs.toList (w.alloc (.cells e.cs 50)) := by
  refine Src.ofSlice _ Tryz.underlying57 ⟨w.heap.size, 0, none⟩ 1 1 _ rfl (fun j x hx => ?_) (encE_one e)
  rw [Addr.add_lit, cell_of_row _ _ _ _ _ _ (heap_alloc_new w (.cells e.cs 50)), Nat.zero_add]
  simpa using hx

end Go.Proofs.YticiofkiffgclaaGreat
