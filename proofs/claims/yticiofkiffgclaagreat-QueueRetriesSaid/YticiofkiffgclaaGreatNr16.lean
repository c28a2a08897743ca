/-
  Rtg in one text.
-/
import Derived.Test.YticiofkiffgclaaGreatNr9
import Derived.Test.YticiofkiffgclaaGreatNr15
namespace Go.Proofs.YticiofkiffgclaaGreat
set_option linter.unusedVariables false
open Go.RowKit

variable {w w' : World} {B h : Nat} {V : Value} {l : List It}

theorem place_cut (h : Rise ltI l) (T : It) : Cutp (fun x => decide (cmpT x T < 0)) l := by
  refine List.Pairwise.imp (fun {x y} hxy => ?_) h
  intro hy
  have hy2 : ltI y T = true := by rw [← cmpT_lt]; exact hy
  show decide (cmpT x T < 0) = true
  rw [cmpT_lt]
  exact ltI_ord.tr _ _ _ hxy hy2
theorem place_ins (ok : OkI l) {T : It} (hn : ∀ x ∈ l, ¬ (x.e.id = T.e.id ∧ x.e.ow = T.e.ow)) : l.take (l.countP fun x => decide (cmpT x T < 0)) ++ T :: l.drop (l.countP fun x => decide (cmpT x T < 0)) = insG ltI T l := by
  obtain ⟨s1, s2⟩ := cut_spec (place_cut ok.rise T)
  refine insG_at ltI_ord ok.rise List.countP_le_length (fun j y hj hy => ?_) (fun y h0 hy => ?_)
  · have h1 := s2 j y hj hy
    rw [cmpT_lt] at h1
    cases hc : ltI T y with
    | true => rfl
    | false =>
      obtain ⟨_, e2, e3⟩ := ltI_tri h1 hc
      exact absurd ⟨e2, e3⟩ (hn y (List.mem_of_getElem? hy))
  · have h1 := s1 _ y (by omega) hy
    rw [cmpT_lt] at h1
    exact ltI_ord.asymm h1

def ChgT (w : World) (B h : Nat) (V : Value) (r : Value) (m : List It) (x : Ending) (w' : World) : Prop :=
  x = .returned r ∧ ∃ V', Ls encIt rtT rtE w' B h V' m ∧ Stp (lfoot h V) (lfoot h V') w w'

set_option maxHeartbeats 8000000 in
set_option maxRecDepth 100000 in
theorem tadd_any (a : Ls encIt rtT rtE w B h V l) (ok : OkI l) (e : Ev) (hb : -9223372036854775808 ≤ e.tr) (ow : ByteArray) (at' : Int) : Calls Tryz.prog 101 #[.pointer (some ⟨h, 0, none⟩), .agg (encEv.cs e), .string ow, .int .i64 at'] w (ChgT w B h V (.int .i64 (adiE l e.id ow)) (adiL l e ow at')) := by
  obtain ⟨W1, hW1⟩ : ∃ W1, W1 = w.alloc (.cells (encEv.cs e) evT) := ⟨_, rfl⟩
  have k1 : Kept w W1 [] := by rw [hW1]; exact (Kept.refl w []).alloc _
  obtain ⟨z, hz⟩ : ∃ z, z = w.heap.size := ⟨_, rfl⟩
  have g1 : W1.heap[z]? = some (.cells (encEv.cs e) evT (0, 0)) := by rw [hW1, hz]; exact heap_alloc_new w _
  have few := ok.few
  have WT := Lib.hid (twaits_any (a.keep k1) (by omega) e.id ow)
  have AG := Lib.hid (fun W => tagain_any e ow hb W)
  have A := Lib.hid a; have OK := Lib.hid ok; have K1 := Lib.hid k1; have G1 := Lib.hid g1; have HW1 := Lib.hid hW1; have HZ := Lib.hid hz
  obtain ⟨u, c, ev⟩ := a.shape
  have EV := Lib.hid ev
  have ADX := Lib.hid (show encIt.cs (addX e ow at') = #[.int .i64 at', .int .i64 e.id, .int .i64 e.tx, .string ow, .int .i64 (trN e.tr), .int .i64 e.tb, .int .u8 e.kd, .int .i64 e.key, .string e.t] from rfl)
  obtain ⟨X, hX⟩ : ∃ X, X = addX e ow at' := ⟨_, rfl⟩
  have hXe : X.e.id = e.id ∧ X.e.ow = ow := by rw [hX]; exact ⟨rfl, rfl⟩
  have hEs : adiE l e.id ow = if ow.size < 1 then 1 else if l.any (isK e.id ow) then 5 else if 16 ≤ l.length then 8 else 0 := rfl
  have hLs : adiL l e ow at' = if adiE l e.id ow = 0 then insG ltI X l else l := by rw [hX]; rfl
  rw [← hX] at ADX
  rw [hLs, hEs]
  have HXE := Lib.hid hXe
  obtain ⟨b0, b1, b2, b3, b4, b5, b6, b7⟩ := e
  simp only [encEv, Ev.cs, agn] at *
  clear hEs hLs hX hXe k1 g1 hW1 hz a ok ev hb
  by_cases hE : ow.size = 0
  · have hE1 := toList_nil hE
    rw [if_pos (by omega), if_neg (by decide)]
    clear hE few
    go_enter Tryz.func101, Tryz.ntmps101
    go_wp2
    go_ret
    exact ⟨rfl, V, A.out.keep ((Kept.refl w []).alloc _), Stp.ofK ((Kept.refl w []).alloc _)⟩
  · obtain ⟨hE1, hE2⟩ := toList_ne hE
    rw [if_neg (show ¬ ow.size < 1 by omega)]
    cases hp : l.any (isK b0 ow) with
    | true =>
      rw [if_pos rfl, if_neg (by decide)]
      rw [hp] at WT
      clear hE hp few
      go_enter Tryz.func101, Tryz.ntmps101
      go_upto_region 1 with fail
      rw [← HW1.out, ← HZ.out]
      have c0 : W1.cell? ⟨z, 0, none⟩ = some (.int .i64 b0) := by rw [cell_of_row _ _ _ _ _ _ G1.out]; rfl
      go_wp2_with fail
      refine WT.out.mono ?_
      rintro r w2 ⟨rfl, k2⟩
      have K2 := Lib.hid (K1.out.trans k2 (by simp))
      clear k2
      go_wp2
      go_ret
      exact ⟨rfl, V, A.out.keep K2.out, Stp.ofK K2.out⟩
    | false =>
      rw [if_neg (by decide)]
      rw [hp] at WT
      have NB := Lib.hid (show ∀ x ∈ l, ¬ (x.e.id = b0 ∧ x.e.ow = ow) from fun x hx hc => by
        have := List.any_eq_false.1 hp x hx
        exact this (isK_iff.2 hc))
      by_cases hf : 16 ≤ l.length
      · have hf1 : (16 : Int) ≤ (l.length : Int) := by omega
        rw [if_pos hf, if_neg (by decide)]
        clear hE hp few hf
        go_enter Tryz.func101, Tryz.ntmps101
        go_upto_region 1 with fail
        rw [← HW1.out, ← HZ.out]
        have c0 : W1.cell? ⟨z, 0, none⟩ = some (.int .i64 b0) := by rw [cell_of_row _ _ _ _ _ _ G1.out]; rfl
        go_wp2_with fail
        refine WT.out.mono ?_
        rintro r w2 ⟨rfl, k2⟩
        have K2 := Lib.hid (K1.out.trans k2 (by simp))
        have v0 := (A.out.keep K2.out).cell.1
        rw [EV.out] at v0
        clear k2 c0
        go_wp2
        go_ret
        exact ⟨rfl, V, A.out.keep K2.out, Stp.ofK K2.out⟩
      · have hf1 : ¬ (16 : Int) ≤ (l.length : Int) := by omega
        rw [if_neg hf, if_pos rfl]
        have HLN := Lib.hid (show l.length ≤ 16 by omega)
        clear hE hp few hf
        go_enter Tryz.func101, Tryz.ntmps101
        go_upto_region 1 with fail
        rw [← HW1.out, ← HZ.out]
        have c0 : W1.cell? ⟨z, 0, none⟩ = some (.int .i64 b0) := by rw [cell_of_row _ _ _ _ _ _ G1.out]; rfl
        go_wp2_with fail
        refine WT.out.mono ?_
        rintro r w2 ⟨rfl, k2⟩
        have K2 := Lib.hid (K1.out.trans k2 (by simp))
        have v0 := (A.out.keep K2.out).cell.1
        rw [EV.out] at v0
        have g2 := k2.heap (by simp) G1.out
        obtain ⟨d0, d1, d2, d3, d4, d5, d6, d7⟩ : w2.cell? ⟨z, 0, none⟩ = some (.int .i64 b0) ∧ w2.cell? ⟨z, 1, none⟩ = some (.int .i64 b1) ∧ w2.cell? ⟨z, 2, none⟩ = some (.string b2) ∧ w2.cell? ⟨z, 3, none⟩ = some (.int .i64 b3) ∧ w2.cell? ⟨z, 4, none⟩ = some (.int .i64 b4) ∧ w2.cell? ⟨z, 5, none⟩ = some (.int .u8 b5) ∧ w2.cell? ⟨z, 6, none⟩ = some (.int .i64 b6) ∧ w2.cell? ⟨z, 7, none⟩ = some (.string b7) :=
          ⟨by rw [cell_of_row _ _ _ _ _ _ g2]; rfl, by rw [cell_of_row _ _ _ _ _ _ g2]; rfl, by rw [cell_of_row _ _ _ _ _ _ g2]; rfl, by rw [cell_of_row _ _ _ _ _ _ g2]; rfl, by rw [cell_of_row _ _ _ _ _ _ g2]; rfl, by rw [cell_of_row _ _ _ _ _ _ g2]; rfl, by rw [cell_of_row _ _ _ _ _ _ g2]; rfl, by rw [cell_of_row _ _ _ _ _ _ g2]; rfl⟩
        clear k2 c0 g2
        go_wp2_with fail
        refine (AG.out w2).mono ?_
        rintro r w3 ⟨rfl, k3⟩
        have K3 := Lib.hid (K2.out.trans k3 (by simp))
        clear k3 v0 d0 d1 d2 d3 d4 d5 d6 d7
        obtain ⟨x, hx⟩ : ∃ x, x = w3.heap.size := ⟨_, rfl⟩
        obtain ⟨W4, hW4⟩ : ∃ W4, W4 = w3.alloc (.cells #[.int .i64 at', .int .i64 b0, .int .i64 b1, .string ow, .int .i64 (trN b3), .int .i64 b4, .int .u8 b5, .int .i64 b6, .string b7] rtE) := ⟨_, rfl⟩
        have k4 : Kept w3 W4 [] := by rw [hW4]; exact (Kept.refl w3 []).alloc _
        have g4 : W4.heap[x]? = some (.cells (encIt.cs X) rtE (0, 0)) := by rw [ADX.out, hW4, hx]; exact heap_alloc_new w3 _
        have a4 := A.out.keep (K3.out.trans k4 (by simp))
        have hxw : w.heap.size ≤ x := by have := K3.out.size; omega
        have K4 := Lib.hid (K3.out.trans k4 (by simp)); have G4 := Lib.hid g4; have A4 := Lib.hid a4; have HW4 := Lib.hid hW4; have HX := Lib.hid hx; have HXW := Lib.hid hxw
        have XC := Lib.hid (fun (V : World) (g : V.heap[x]? = some (.cells (encIt.cs X) rtE (0, 0))) => (show V.cell? ⟨x, 0, none⟩ = some (.int .i64 at') ∧ V.cell? ⟨x, 1, none⟩ = some (.int .i64 b0) ∧ V.cell? ⟨x, 2, none⟩ = some (.int .i64 b1) ∧ V.cell? ⟨x, 3, none⟩ = some (.string ow) ∧ V.cell? ⟨x, 4, none⟩ = some (.int .i64 (trN b3)) ∧ V.cell? ⟨x, 5, none⟩ = some (.int .i64 b4) ∧ V.cell? ⟨x, 6, none⟩ = some (.int .u8 b5) ∧ V.cell? ⟨x, 7, none⟩ = some (.int .i64 b6) ∧ V.cell? ⟨x, 8, none⟩ = some (.string b7) from by
          rw [ADX.out] at g
          exact ⟨by rw [cell_of_row _ _ _ _ _ _ g]; rfl, by rw [cell_of_row _ _ _ _ _ _ g]; rfl, by rw [cell_of_row _ _ _ _ _ _ g]; rfl, by rw [cell_of_row _ _ _ _ _ _ g]; rfl, by rw [cell_of_row _ _ _ _ _ _ g]; rfl, by rw [cell_of_row _ _ _ _ _ _ g]; rfl, by rw [cell_of_row _ _ _ _ _ _ g]; rfl, by rw [cell_of_row _ _ _ _ _ _ g]; rfl, by rw [cell_of_row _ _ _ _ _ _ g]; rfl⟩))
        have SE := Lib.hid (fun V' (hV : Kept W4 V' []) => rsearch_any V l V' (a4.keep hV).own (by have := HLN.out; omega) X 156 #[] (fun y => cmpT y X) (enters_of Tryz.func156 (by kernel_rfl) rfl) (fun y V'' hV'' => by simpa using cmpT_any y X V'') (place_cut OK.out.rise X))
        have VC := Lib.hid (fun V' (hV : Kept W4 V' []) => (show V'.cell? ⟨h, 0, none⟩ = some (.slice u l.length c) from by rw [← EV.out]; exact (a4.keep hV).cell.1))
        rw [EV.out, ADX.out] at SE
        obtain ⟨P0, hP0⟩ : ∃ P0 : Nat, P0 = (l.countP fun y => decide (cmpT y X < 0)) := ⟨_, rfl⟩
        rw [← hP0] at SE
        have HP0 := Lib.hid (show P0 ≤ l.length by rw [hP0]; exact List.countP_le_length)
        have INS := Lib.hid (show l.take P0 ++ X :: l.drop P0 = insG ltI X l by rw [hP0]; exact place_ins OK.out (fun y hy hc => NB.out y hy (by rw [HXE.out.1, HXE.out.2] at hc; exact hc)))
        obtain ⟨bz, hbz⟩ : ∃ bz, bz = hitG_r (fun y => cmpT y X) l[P0]? := ⟨_, rfl⟩
        rw [← hbz] at SE
        clear k4 g4 a4 hxw hW4 hx hP0 hbz
        go_upto_region 10 with fail
        rw [← HW4.out, ← HX.out]
        refine wp_region_held_drew (S := fun Z => Kept W4 Z []) (by kernel_rfl) (Kept.refl W4 []).drew (fun hHeld => ?_)
        refine wpAnyH_take (i := 0) (oi := _) (v := .pointer (some ⟨h, 0, none⟩)) rfl (by kernel_rfl) (by kernel_rfl) (by kernel_rfl) (fun _ _ _ h => h) (Or.inl ⟨by rfl, fun V hV => by go_simp⟩) hHeld ?_
        change wpAnyH _ _ _ _ _ _ _ (Act.put _ (some 37) _) _
        simp only [Act.put, List.setIfInBounds_toArray, List.set_cons_zero, List.set_cons_succ]
        refine wpAnyH_take (i := 1) (oi := _) (v := .pointer (some ⟨h, 0, none⟩)) rfl (by kernel_rfl) (by kernel_rfl) (by kernel_rfl) (fun _ _ _ h => h) (Or.inl ⟨by rfl, fun V hV => by go_simp⟩) hHeld ?_
        change wpAnyH _ _ _ _ _ _ _ (Act.put _ (some 38) _) _
        simp only [Act.put, List.setIfInBounds_toArray, List.set_cons_zero, List.set_cons_succ]
        refine wpAnyH_take (i := 2) (oi := _) (v := .pointer (some ⟨h, 0, none⟩)) rfl (by kernel_rfl) (by kernel_rfl) (by kernel_rfl) (fun _ _ _ h => h) (Or.inl ⟨by rfl, fun V hV => by go_simp⟩) hHeld ?_
        change wpAnyH _ _ _ _ _ _ _ (Act.put _ (some 39) _) _
        simp only [Act.put, List.setIfInBounds_toArray, List.set_cons_zero, List.set_cons_succ]
        refine wpAnyH_take (i := 3) (oi := _) (v := .slice u l.length c) rfl (by kernel_rfl) (by kernel_rfl) (by kernel_rfl) (fun _ _ _ h => h) (Or.inl ⟨by rfl, fun V hV => by (have v0 := VC.out V hV; clear hV; go_simp)⟩) hHeld ?_
        change wpAnyH _ _ _ _ _ _ _ (Act.put _ (some 40) _) _
        simp only [Act.put, List.setIfInBounds_toArray, List.set_cons_zero, List.set_cons_succ]
        refine wpAnyH_take (i := 4) (oi := _) (v := .agg #[.int .i64 at', .int .i64 b0, .int .i64 b1, .string ow, .int .i64 (trN b3), .int .i64 b4, .int .u8 b5, .int .i64 b6, .string b7]) rfl (by kernel_rfl) (by kernel_rfl) (by kernel_rfl) (fun _ _ _ h => h) (Or.inl ⟨by rfl, fun V hV => by (obtain ⟨c0, c1, c2, c3, c4, c5, c6, c7, c8⟩ := XC.out V (hV.heap (by simp) G4.out); clear hV; go_simp)⟩) hHeld ?_
        change wpAnyH _ _ _ _ _ _ _ (Act.put _ (some 41) _) _
        simp only [Act.put, List.setIfInBounds_toArray, List.set_cons_zero, List.set_cons_succ]
        refine wpAnyH_ready (rs := [5]) (by kernel_rfl) (by simp) ?_
        refine AllReadyH.cons (o := _) rfl (fun K hK => ?_) AllReadyH.nil
        go_simp
        go_at_call 155
        refine (SE.out _ (Kept.refl W4 []).drew).mono ?_
        rintro r w5 ⟨rfl, k5⟩
        have k5 := (Kept.refl W4 []).drew.trans k5 (by simp)
        go_wp2_with fail
        refine hK.out _ _ k5 (fun hHeld => ?_)
        clear hK K
        refine wpAnyH_take (i := 6) (oi := _) (v := .tuple #[.int .i64 P0, .bool bz]) rfl (by kernel_rfl) (by kernel_rfl) (by kernel_rfl) (fun _ _ _ h => h) (Or.inl ⟨by rfl, fun V hV => by go_simp⟩) hHeld ?_
        change wpAnyH _ _ _ _ _ _ _ (Act.put _ (some 36) _) _
        simp only [Act.put, List.setIfInBounds_toArray, List.set_cons_zero, List.set_cons_succ]
        refine wpAnyH_take (i := 7) (oi := _) (v := .int .i64 P0) rfl (by kernel_rfl) (by kernel_rfl) (by kernel_rfl) (fun _ _ _ h => h) (Or.inl ⟨by rfl, fun V hV => by go_simp⟩) hHeld ?_
        change wpAnyH _ _ _ _ _ _ _ (Act.put _ (some 43) _) _
        simp only [Act.put, List.setIfInBounds_toArray, List.set_cons_zero, List.set_cons_succ]
        refine wpAnyH_take (i := 8) (oi := _) (v := .bool bz) rfl (by kernel_rfl) (by kernel_rfl) (by kernel_rfl) (fun _ _ _ h => h) (Or.inl ⟨by rfl, fun V hV => by go_simp⟩) hHeld ?_
        change wpAnyH _ _ _ _ _ _ _ (Act.put _ (some 44) _) _
        simp only [Act.put, List.setIfInBounds_toArray, List.set_cons_zero, List.set_cons_succ]
        refine wpAnyH_take (i := 9) (oi := _) (v := .int .i64 P0) rfl (by kernel_rfl) (by kernel_rfl) (by kernel_rfl) (fun _ _ _ h => h) (Or.inl ⟨by rfl, fun V hV => by go_simp⟩) hHeld ?_
        change wpAnyH _ _ _ _ _ _ _ (Act.put _ (some 10) _) _
        simp only [Act.put, List.setIfInBounds_toArray, List.set_cons_zero, List.set_cons_succ]
        refine wpAnyH_take (i := 10) (oi := _) (v := .bool bz) rfl (by kernel_rfl) (by kernel_rfl) (by kernel_rfl) (fun _ _ _ h => h) (Or.inl ⟨by rfl, fun V hV => by go_simp⟩) hHeld ?_
        change wpAnyH _ _ _ _ _ _ _ (Act.put _ (some 11) _) _
        simp only [Act.put, List.setIfInBounds_toArray, List.set_cons_zero, List.set_cons_succ]
        refine wpAnyH_done (by kernel_rfl) ?_ _
        clear hHeld
        have a5 := A4.out.keep k5
        have g5 := k5.heap (by simp) G4.out
        obtain ⟨W6, hW6⟩ : ∃ W6, W6 = (w5.alloc (.cells #[.int .i64 at', .int .i64 b0, .int .i64 b1, .string ow, .int .i64 (trN b3), .int .i64 b4, .int .u8 b5, .int .i64 b6, .string b7] rtE)).drew := ⟨_, rfl⟩
        have k6 : Kept w5 W6 [] := by rw [hW6]; exact ((Kept.refl w5 []).alloc _).drew
        have g6 : W6.heap[w5.heap.size]? = some (.cells (encIt.cs X) rtE (0, 0)) := by rw [ADX.out, hW6]; exact heap_alloc_new w5 _
        have a6 := a5.keep k6
        have gx6 := k6.heap (by simp) g5
        have hVx : V.ownBlock ≠ some w5.heap.size := fun hk => by have := (a5.lt _ (.inr hk)).2; omega
        have IN := Lib.hid (rinsert_any (i := P0) (x := X) a6.own a6.size g6 hVx HP0.out (by have := HLN.out; omega))
        have hVz : V.ownBlock ≠ some x := fun hk => by have := (A.out.lt _ (.inr hk)).2; have := HXW.out; omega
        have hhz : ¬ x = h := fun hk => by have := (A.out.lt _ (.inl hk)).2; have := HXW.out; omega
        rw [EV.out] at IN
        have v5 : w5.drew.cell? ⟨h, 0, none⟩ = some (.slice u l.length c) := VC.out _ k5.drew
        have v6 : W6.cell? ⟨h, 0, none⟩ = some (.slice u l.length c) := VC.out _ (k5.trans k6 (by simp))
        have K5 := Lib.hid k5; have K6 := Lib.hid k6; have A6 := Lib.hid a6; have HW6 := Lib.hid hW6; have GX6 := Lib.hid gx6; have G5 := Lib.hid g5; have HVZ := Lib.hid hVz; have HHZ := Lib.hid hhz
        have V5 := Lib.hid v5; have V6 := Lib.hid v6
        clear k5 k6 a5 a6 g5 g6 gx6 hVx hW6 hVz hhz v5 v6
        go_upto_region 11 with fail
        refine wp_region_held_drew (S := fun Z => Z.heap[x]? = some (.cells (encIt.cs X) rtE (0, 0))) (by kernel_rfl) G5.out (fun hHeld => ?_)
        refine wpAnyH_take (i := 0) (oi := _) (v := .pointer (some ⟨h, 0, none⟩)) rfl (by kernel_rfl) (by kernel_rfl) (by kernel_rfl) (fun _ _ _ h => h) (Or.inl ⟨by rfl, fun V hV => by go_simp⟩) hHeld ?_
        change wpAnyH _ _ _ _ _ _ _ (Act.put _ (some 45) _) _
        simp only [Act.put, List.setIfInBounds_toArray, List.set_cons_zero, List.set_cons_succ]
        refine wpAnyH_take (i := 1) (oi := _) (v := .pointer (some ⟨h, 0, none⟩)) rfl (by kernel_rfl) (by kernel_rfl) (by kernel_rfl) (fun _ _ _ h => h) (Or.inl ⟨by rfl, fun V hV => by go_simp⟩) hHeld ?_
        change wpAnyH _ _ _ _ _ _ _ (Act.put _ (some 46) _) _
        simp only [Act.put, List.setIfInBounds_toArray, List.set_cons_zero, List.set_cons_succ]
        refine wpAnyH_take (i := 2) (oi := _) (v := .pointer (some ⟨h, 0, none⟩)) rfl (by kernel_rfl) (by kernel_rfl) (by kernel_rfl) (fun _ _ _ h => h) (Or.inl ⟨by rfl, fun V hV => by go_simp⟩) hHeld ?_
        change wpAnyH _ _ _ _ _ _ _ (Act.put _ (some 47) _) _
        simp only [Act.put, List.setIfInBounds_toArray, List.set_cons_zero, List.set_cons_succ]
        refine wpAnyH_take (i := 3) (oi := _) (v := .pointer (some ⟨h, 0, none⟩)) rfl (by kernel_rfl) (by kernel_rfl) (by kernel_rfl) (fun _ _ _ h => h) (Or.inl ⟨by rfl, fun V hV => by go_simp⟩) hHeld ?_
        change wpAnyH _ _ _ _ _ _ _ (Act.put _ (some 48) _) _
        simp only [Act.put, List.setIfInBounds_toArray, List.set_cons_zero, List.set_cons_succ]
        refine wpAnyH_take (i := 5) (oi := _) (v := .int .i64 P0) rfl (by kernel_rfl) (by kernel_rfl) (by kernel_rfl) (fun _ _ _ h => h) (Or.inl ⟨by rfl, fun V hV => by go_simp⟩) hHeld ?_
        change wpAnyH _ _ _ _ _ _ _ (Act.put _ (some 50) _) _
        simp only [Act.put, List.setIfInBounds_toArray, List.set_cons_zero, List.set_cons_succ]
        refine wpAnyH_take (i := 6) (oi := _) (v := .agg #[.int .i64 at', .int .i64 b0, .int .i64 b1, .string ow, .int .i64 (trN b3), .int .i64 b4, .int .u8 b5, .int .i64 b6, .string b7]) rfl (by kernel_rfl) (by kernel_rfl) (by kernel_rfl) (fun _ _ _ h => h) (Or.inl ⟨by rfl, fun V hV => by (obtain ⟨c0, c1, c2, c3, c4, c5, c6, c7, c8⟩ := XC.out V hV; clear hV; go_simp)⟩) hHeld ?_
        change wpAnyH _ _ _ _ _ _ _ (Act.put _ (some 51) _) _
        simp only [Act.put, List.setIfInBounds_toArray, List.set_cons_zero, List.set_cons_succ]
        refine wpAnyH_ready (rs := [4, 7]) (by kernel_rfl) (by simp) ?_
        refine AllReadyH.cons (o := _) rfl (fun K hK => ?_) (AllReadyH.cons (o := _) rfl (fun K hK => ?_) AllReadyH.nil)
        · have v5 := V5.out
          go_simp
          refine hK.out _ _ G5.out (fun hHeld => ?_)
          clear hK K v5
          refine wpAnyH_ready (rs := [7]) (by kernel_rfl) (by simp) ?_
          refine AllReadyH.cons (o := _) rfl (fun K hK => ?_) AllReadyH.nil
          go_simp
          rw [← HW6.out]
          refine hK.out _ _ GX6.out (fun hHeld => ?_)
          clear hK K
          refine wpAnyH_ready (rs := [8]) (by kernel_rfl) (by simp) ?_
          refine AllReadyH.cons (o := _) rfl (fun K hK => ?_) AllReadyH.nil
          go_simp
          go_at_call 157
          refine IN.out.mono ?_
          rintro r w7 ⟨v', rfl, ho, hfo, hv⟩
          rw [← EV.out] at hfo hv
          obtain ⟨L', hL'⟩ : ∃ L', L' = (List.take P0 l ++ X :: List.drop P0 l).length := ⟨_, rfl⟩
          obtain ⟨u', c', hv'⟩ := ho.shape
          rw [← hL'] at hv'
          subst hv'
          clear hL'
          obtain ⟨⟨q4, f4⟩, a7, s7⟩ := A6.out.lay hfo ho hv
          have g7 := hfo.heap HVZ.out GX6.out
          have g8 : (w7.setCell ⟨h, 0, none⟩ (.slice u' L' c')).heap[x]? = some (.cells (encIt.cs X) rtE (0, 0)) := (Fo.setCell (O := fun k => k = h) (Fo.refl _ w7) (p := ⟨h, 0, none⟩) (.inl rfl) _).heap HHZ.out g7
          rw [INS.out] at a7
          have A7 := Lib.hid a7; have S7 := Lib.hid s7; have G8 := Lib.hid g8
          rw [EV.out] at q4
          clear ho hfo hv a7 s7 g8
          go_wp2_with fail
          refine hK.out _ _ g7 (fun hHeld => ?_)
          clear hK K
          refine wpAnyH_take (i := 9) (oi := _) (v := .pointer (some ⟨h, 0, none⟩)) rfl (by kernel_rfl) (by kernel_rfl) (by kernel_rfl) (fun _ _ _ h => h) (Or.inl ⟨by rfl, fun V hV => by go_simp⟩) hHeld ?_
          change wpAnyH _ _ _ _ _ _ _ (Act.put _ (some 54) _) _
          simp only [Act.put, List.setIfInBounds_toArray, List.set_cons_zero, List.set_cons_succ]
          refine wpAnyH_take (i := 10) (oi := _) (v := .pointer (some ⟨h, 0, none⟩)) rfl (by kernel_rfl) (by kernel_rfl) (by kernel_rfl) (fun _ _ _ h => h) (Or.inl ⟨by rfl, fun V hV => by go_simp⟩) hHeld ?_
          change wpAnyH _ _ _ _ _ _ _ (Act.put _ (some 55) _) _
          simp only [Act.put, List.setIfInBounds_toArray, List.set_cons_zero, List.set_cons_succ]
          refine wpAnyH_ready (rs := [11]) (by kernel_rfl) (by simp) ?_
          refine AllReadyH.cons (o := _) rfl (fun K hK => ?_) AllReadyH.nil
          go_simp
          refine hK.out _ _ G8.out (fun hHeld => ?_)
          clear hK K
          refine wpAnyH_done (by kernel_rfl) ?_ _
          clear hHeld f4 g7 q4
          go_wp2
          go_ret
          exact ⟨rfl, _, A7.out, (Stp.ofK ((K4.out.trans K5.out (by simp)).trans K6.out (by simp))).trans S7.out⟩
        · go_simp
          rw [← HW6.out]
          refine hK.out _ _ GX6.out (fun hHeld => ?_)
          clear hK K
          refine wpAnyH_ready (rs := [4]) (by kernel_rfl) (by simp) ?_
          refine AllReadyH.cons (o := _) rfl (fun K hK => ?_) AllReadyH.nil
          have v6 := V6.out
          go_simp
          refine hK.out _ _ GX6.out (fun hHeld => ?_)
          clear hK K v6
          refine wpAnyH_ready (rs := [8]) (by kernel_rfl) (by simp) ?_
          refine AllReadyH.cons (o := _) rfl (fun K hK => ?_) AllReadyH.nil
          go_simp
          go_at_call 157
          refine IN.out.mono ?_
          rintro r w7 ⟨v', rfl, ho, hfo, hv⟩
          rw [← EV.out] at hfo hv
          obtain ⟨L', hL'⟩ : ∃ L', L' = (List.take P0 l ++ X :: List.drop P0 l).length := ⟨_, rfl⟩
          obtain ⟨u', c', hv'⟩ := ho.shape
          rw [← hL'] at hv'
          subst hv'
          clear hL'
          obtain ⟨⟨q4, f4⟩, a7, s7⟩ := A6.out.lay hfo ho hv
          have g7 := hfo.heap HVZ.out GX6.out
          have g8 : (w7.setCell ⟨h, 0, none⟩ (.slice u' L' c')).heap[x]? = some (.cells (encIt.cs X) rtE (0, 0)) := (Fo.setCell (O := fun k => k = h) (Fo.refl _ w7) (p := ⟨h, 0, none⟩) (.inl rfl) _).heap HHZ.out g7
          rw [INS.out] at a7
          have A7 := Lib.hid a7; have S7 := Lib.hid s7; have G8 := Lib.hid g8
          rw [EV.out] at q4
          clear ho hfo hv a7 s7 g8
          go_wp2_with fail
          refine hK.out _ _ g7 (fun hHeld => ?_)
          clear hK K
          refine wpAnyH_take (i := 9) (oi := _) (v := .pointer (some ⟨h, 0, none⟩)) rfl (by kernel_rfl) (by kernel_rfl) (by kernel_rfl) (fun _ _ _ h => h) (Or.inl ⟨by rfl, fun V hV => by go_simp⟩) hHeld ?_
          change wpAnyH _ _ _ _ _ _ _ (Act.put _ (some 54) _) _
          simp only [Act.put, List.setIfInBounds_toArray, List.set_cons_zero, List.set_cons_succ]
          refine wpAnyH_take (i := 10) (oi := _) (v := .pointer (some ⟨h, 0, none⟩)) rfl (by kernel_rfl) (by kernel_rfl) (by kernel_rfl) (fun _ _ _ h => h) (Or.inl ⟨by rfl, fun V hV => by go_simp⟩) hHeld ?_
          change wpAnyH _ _ _ _ _ _ _ (Act.put _ (some 55) _) _
          simp only [Act.put, List.setIfInBounds_toArray, List.set_cons_zero, List.set_cons_succ]
          refine wpAnyH_ready (rs := [11]) (by kernel_rfl) (by simp) ?_
          refine AllReadyH.cons (o := _) rfl (fun K hK => ?_) AllReadyH.nil
          go_simp
          refine hK.out _ _ G8.out (fun hHeld => ?_)
          clear hK K
          refine wpAnyH_done (by kernel_rfl) ?_ _
          clear hHeld f4 g7 q4
          go_wp2
          go_ret
          exact ⟨rfl, _, A7.out, (Stp.ofK ((K4.out.trans K5.out (by simp)).trans K6.out (by simp))).trans S7.out⟩

end Go.Proofs.YticiofkiffgclaaGreat
