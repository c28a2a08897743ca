/-
  bear: its walk.
-/
import Derived.Test.YtdjhcdgehmpikaaHg
namespace Go.Proofs.Ytdjhcdgehmpikaa
open Go.RowKit Go.Maps
variable {w : World} {B p h b mb : Nat} {v : Value} {S : Int → Value} {st : List Nat} {ks : List Int} {F : Int → List Vr}

set_option maxHeartbeats 4000000 in
set_option maxRecDepth 100000 in
theorem bear_any (a : Sx w B p h b mb v S st ks F) (key : Int) (txt : ByteArray) (x : Int) (hkey : (Lit.int .i64 key).wf = true) (hx : (Lit.int .i64 x).wf = true) (hks : ks.length < 1000000) (hF : (F key).length < 1000000) :
    Calls Try.prog 77 #[.pointer (some ⟨h, 0, none⟩), .agg #[.int .i64 key, .string txt], .int .i64 x] w fun e w' => e = .returned (.tuple #[]) ∧
      ∃ S', Sx w' B p h b mb v S' st (insK key ks) (updF F key (F key ++ [⟨txt, x, 0⟩])) ∧ Fo (foot p b v h mb S) w w' ∧ ∀ k, foot p b v h mb S' k → foot p b v h mb S k ∨ w.heap.size ≤ k := by
  have A := Lib.hid a
  obtain ⟨i0, hi0, hz0, hz1, hzb⟩ := info_parts Try.infoVr
  obtain ⟨W1, hW1⟩ : ∃ W1, W1 = w.alloc (.cells #[.int .i64 key, .string txt] 55) := ⟨_, rfl⟩
  have hk1 : Kept w W1 [] := by rw [hW1]; exact (Kept.refl w []).alloc _
  have hb1 : W1.heap[w.heap.size]? = some (.cells #[.int .i64 key, .string txt] 55 (0, 0)) := by rw [hW1]; exact heap_alloc_new w _
  obtain ⟨bx, hbx⟩ : ∃ bx, bx = w.heap.size := ⟨_, rfl⟩
  rw [← hbx] at hb1
  have hlk : ∀ V, Kept W1 V [] → (Instr.lookup 114 (.map (some mb)) (.int .i64 key) false).run Try.prog V = .ok (S key) V := fun V hV => look_slice ((A.out.keep hk1).keep hV).hp.hm A.out.hp.nk key hkey
  have k1d : Kept W1 W1.drew [] := (Kept.refl W1 []).drew
  obtain ⟨wB, hwB⟩ : ∃ wB, wB = W1.drew.alloc (.cells (vcs key ⟨txt, x, 0⟩).toArray 124) := ⟨_, rfl⟩
  have kd : Kept w W1.drew [] := hk1.trans k1d (by simp)
  obtain ⟨kB, bB, xB, sB⟩ := bear_pre A.out key ⟨txt, x, 0⟩ kd hwB
  have k1B : Kept W1 wB [] := by rw [hwB]; exact k1d.alloc _
  obtain ⟨n, hn⟩ : ∃ n, (F key).length = n := ⟨_, rfl⟩
  rw [hn] at xB hF
  obtain ⟨sv, hsv⟩ : ∃ sv, S key = sv := ⟨_, rfl⟩
  obtain ⟨sa, sc, hshape⟩ := ownsRow_shape xB
  rw [hsv] at hshape
  subst hshape
  have l1 := hlk W1.drew k1d
  have l2 := hlk wB k1B
  rw [hsv] at l1 l2 xB
  have LK1 := Lib.hid l1; have LK2 := Lib.hid l2
  have S1 : Hid (BearS p h mb bx key txt W1.drew) := Lib.hid ⟨(A.out.keep kd).hp.hh, k1d.heap (by simp) hb1⟩
  have S2 : Hid (BearS p h mb bx key txt wB) := Lib.hid ⟨(A.out.keep kB).hp.hh, k1B.heap (by simp) hb1⟩
  have KB := Lib.hid kB; have XB := Lib.hid xB; have SB := Lib.hid sB; have HwB := Lib.hid hwB; have HN := Lib.hid hn; have HSV := Lib.hid hsv; have HK := Lib.hid hkey; have HX := Lib.hid hx; have HKS := Lib.hid hks
  have hkeyB := key_of hkey
  have KeyB := Lib.hid hkeyB
  clear a hlk k1d kd kB xB sB k1B hwB hn hsv hkey hx hks hk1 hb1 l1 l2 hkeyB
  go_enter Try.func77, Try.ntmps77
  go_wp2_with fail
  rw [← hW1, ← hbx]
  clear hW1 hbx
  refine wp_region_held_drew (S := BearS p h mb bx key txt) (by kernel_rfl) S1.out (fun hHeld => ?_)
  refine wpAnyH_take (i := 0) (oi := _) (v := .pointer (some ⟨h, 0, none⟩)) rfl (by kernel_rfl) (by kernel_rfl) (by kernel_rfl) (fun _ _ _ h => h) (Or.inl ⟨by rfl, fun V hV => by go_simp⟩) hHeld ?_
  change wpAnyH _ _ _ _ _ _ _ (Act.put _ (some 6) _) _
  simp only [Act.put, List.setIfInBounds_toArray, List.set_cons_zero, List.set_cons_succ]
  refine wpAnyH_take (i := 1) (oi := _) (v := .pointer (some ⟨h, 0, none⟩)) rfl (by kernel_rfl) (by kernel_rfl) (by kernel_rfl) (fun _ _ _ h => h) (Or.inl ⟨by rfl, fun V hV => by go_simp⟩) hHeld ?_
  change wpAnyH _ _ _ _ _ _ _ (Act.put _ (some 7) _) _
  simp only [Act.put, List.setIfInBounds_toArray, List.set_cons_zero, List.set_cons_succ]
  refine wpAnyH_take (i := 2) (oi := _) (v := .pointer (some ⟨h, 1, none⟩)) rfl (by kernel_rfl) (by kernel_rfl) (by kernel_rfl) (fun _ _ _ h => h) (Or.inl ⟨by rfl, fun V hV => by go_simp⟩) hHeld ?_
  change wpAnyH _ _ _ _ _ _ _ (Act.put _ (some 8) _) _
  simp only [Act.put, List.setIfInBounds_toArray, List.set_cons_zero, List.set_cons_succ]
  refine wpAnyH_take (i := 3) (oi := _) (v := .map (some mb)) rfl (by kernel_rfl) (by kernel_rfl) (by kernel_rfl) (fun _ _ _ h => h) (Or.inl ⟨by rfl, fun V hV => by (have c1 := bearS_map hV; have c2 := bearS_key hV; clear hV; go_simp)⟩) hHeld ?_
  change wpAnyH _ _ _ _ _ _ _ (Act.put _ (some 9) _) _
  simp only [Act.put, List.setIfInBounds_toArray, List.set_cons_zero, List.set_cons_succ]
  refine wpAnyH_take (i := 4) (oi := _) (v := .pointer (some ⟨bx, 0, none⟩)) rfl (by kernel_rfl) (by kernel_rfl) (by kernel_rfl) (fun _ _ _ h => h) (Or.inl ⟨by rfl, fun V hV => by go_simp⟩) hHeld ?_
  change wpAnyH _ _ _ _ _ _ _ (Act.put _ (some 10) _) _
  simp only [Act.put, List.setIfInBounds_toArray, List.set_cons_zero, List.set_cons_succ]
  refine wpAnyH_take (i := 5) (oi := _) (v := .int .i64 key) rfl (by kernel_rfl) (by kernel_rfl) (by kernel_rfl) (fun _ _ _ h => h) (Or.inl ⟨by rfl, fun V hV => by (have c1 := bearS_map hV; have c2 := bearS_key hV; clear hV; go_simp)⟩) hHeld ?_
  change wpAnyH _ _ _ _ _ _ _ (Act.put _ (some 11) _) _
  simp only [Act.put, List.setIfInBounds_toArray, List.set_cons_zero, List.set_cons_succ]
  refine wpAnyH_take (i := 6) (oi := _) (v := .pointer (some ⟨h, 0, none⟩)) rfl (by kernel_rfl) (by kernel_rfl) (by kernel_rfl) (fun _ _ _ h => h) (Or.inl ⟨by rfl, fun V hV => by go_simp⟩) hHeld ?_
  change wpAnyH _ _ _ _ _ _ _ (Act.put _ (some 12) _) _
  simp only [Act.put, List.setIfInBounds_toArray, List.set_cons_zero, List.set_cons_succ]
  refine wpAnyH_take (i := 7) (oi := _) (v := .pointer (some ⟨h, 0, none⟩)) rfl (by kernel_rfl) (by kernel_rfl) (by kernel_rfl) (fun _ _ _ h => h) (Or.inl ⟨by rfl, fun V hV => by go_simp⟩) hHeld ?_
  change wpAnyH _ _ _ _ _ _ _ (Act.put _ (some 13) _) _
  simp only [Act.put, List.setIfInBounds_toArray, List.set_cons_zero, List.set_cons_succ]
  refine wpAnyH_take (i := 8) (oi := _) (v := .pointer (some ⟨h, 1, none⟩)) rfl (by kernel_rfl) (by kernel_rfl) (by kernel_rfl) (fun _ _ _ h => h) (Or.inl ⟨by rfl, fun V hV => by go_simp⟩) hHeld ?_
  change wpAnyH _ _ _ _ _ _ _ (Act.put _ (some 14) _) _
  simp only [Act.put, List.setIfInBounds_toArray, List.set_cons_zero, List.set_cons_succ]
  refine wpAnyH_take (i := 9) (oi := _) (v := .map (some mb)) rfl (by kernel_rfl) (by kernel_rfl) (by kernel_rfl) (fun _ _ _ h => h) (Or.inl ⟨by rfl, fun V hV => by (have c1 := bearS_map hV; have c2 := bearS_key hV; clear hV; go_simp)⟩) hHeld ?_
  change wpAnyH _ _ _ _ _ _ _ (Act.put _ (some 15) _) _
  simp only [Act.put, List.setIfInBounds_toArray, List.set_cons_zero, List.set_cons_succ]
  refine wpAnyH_take (i := 10) (oi := _) (v := .pointer (some ⟨bx, 0, none⟩)) rfl (by kernel_rfl) (by kernel_rfl) (by kernel_rfl) (fun _ _ _ h => h) (Or.inl ⟨by rfl, fun V hV => by go_simp⟩) hHeld ?_
  change wpAnyH _ _ _ _ _ _ _ (Act.put _ (some 16) _) _
  simp only [Act.put, List.setIfInBounds_toArray, List.set_cons_zero, List.set_cons_succ]
  refine wpAnyH_take (i := 11) (oi := _) (v := .int .i64 key) rfl (by kernel_rfl) (by kernel_rfl) (by kernel_rfl) (fun _ _ _ h => h) (Or.inl ⟨by rfl, fun V hV => by (have c1 := bearS_map hV; have c2 := bearS_key hV; clear hV; go_simp)⟩) hHeld ?_
  change wpAnyH _ _ _ _ _ _ _ (Act.put _ (some 17) _) _
  simp only [Act.put, List.setIfInBounds_toArray, List.set_cons_zero, List.set_cons_succ]
  refine wpAnyH_take (i := 13) (oi := _) (v := .agg #[.int .i64 key, .string txt]) rfl (by kernel_rfl) (by kernel_rfl) (by kernel_rfl) (fun _ _ _ h => h) (Or.inl ⟨by rfl, fun V hV => by (have c2 := bearS_key hV; have c3 := bearS_txt hV; clear hV; go_simp)⟩) hHeld ?_
  change wpAnyH _ _ _ _ _ _ _ (Act.put _ (some 19) _) _
  simp only [Act.put, List.setIfInBounds_toArray, List.set_cons_zero, List.set_cons_succ]
  refine wpAnyH_take (i := 14) (oi := _) (v := .int .i64 x) rfl (by kernel_rfl) (by kernel_rfl) (by kernel_rfl) (fun _ _ _ h => h) (Or.inl ⟨by rfl, fun V hV => by go_simp⟩) hHeld ?_
  change wpAnyH _ _ _ _ _ _ _ (Act.put _ (some 20) _) _
  simp only [Act.put, List.setIfInBounds_toArray, List.set_cons_zero, List.set_cons_succ]
  refine wpAnyH_take (i := 15) (oi := _) (v := .agg (vcs key ⟨txt, x, 0⟩).toArray) rfl (by kernel_rfl) (by kernel_rfl) (by kernel_rfl) (fun _ _ _ h => h) (Or.inl ⟨by rfl, fun V hV => by (go_simp; rfl)⟩) hHeld ?_
  change wpAnyH _ _ _ _ _ _ _ (Act.put _ (some 21) _) _
  simp only [Act.put, List.setIfInBounds_toArray, List.set_cons_zero, List.set_cons_succ]
  refine wpAnyH_ready (rs := [12, 16]) (by kernel_rfl) (by simp) ?_
  refine AllReadyH.cons (o := _) rfl (fun K hK => ?wayA) (AllReadyH.cons (o := _) rfl (fun K hK => ?wayB) AllReadyH.nil)
  case wayA =>
    have l1 := LK1.out
    go_simp
    clear l1
    refine hK.out _ _ S1.out (fun hHeld => ?_)
    clear hK K
    refine wpAnyH_ready (rs := [16]) (by kernel_rfl) (by simp) ?_
    refine AllReadyH.cons (o := _) rfl (fun K hK => ?_) AllReadyH.nil
    refine step_buildSlice_one _ rfl 117 (.tmp 21) rfl 124 i0 _ 4 Try.underlying117 hi0 hz0 hz1 (by decide) (by decide) (vcs key ⟨txt, x, 0⟩) rfl rfl ?_
    rw [← HwB.out]
    refine hK.out _ _ S2.out (fun hHeld => ?_)
    clear hK K
    refine wpAnyH_ready (rs := [17]) (by kernel_rfl) (by simp) ?_
    refine AllReadyH.cons (o := _) rfl (fun K hK => ?_) AllReadyH.nil
    refine step_append_all _ rfl (.tmp 18) (.tmp 22) 117 117 rfl B 124 i0 _ 4 40 Try.underlying117 hi0 hz0 hz1 hzb rfl (.slice sa n sc) n (vcl key (F key)) rfl XB.out _ 1 (vcs key ⟨txt, x, 0⟩) rfl SB.out (by unfold maxLen; omega) (by omega) bB ?_
    intro v5 w5 ho5 hf5 hg5 hl5
    rw [← HN.out] at ho5
    rw [← HSV.out] at hg5 hl5
    have HO5 := Lib.hid ho5; have HF5 := Lib.hid hf5; have HG5 := Lib.hid hg5; have HL5 := Lib.hid hl5
    obtain ⟨a5, c5, hs5⟩ := ownsRow_shape ho5
    have M5 := Lib.hid (ownsMap_fr (A.out.keep KB.out).hp.hm hf5)
    have S5 : Hid (BearS p h mb bx key txt w5) := Lib.hid ⟨hf5.heap S2.out.1 (by decide), hf5.heap S2.out.2 (by decide)⟩
    clear ho5 hf5 hg5 hl5
    refine hK.out _ _ S5.out (fun hHeld => ?_)
    clear hK K
    refine wpAnyH_ready (rs := [18]) (by kernel_rfl) (by simp) ?_
    refine AllReadyH.cons (o := _) rfl (fun K hK => ?_) AllReadyH.nil
    refine step_mapUpdate _ rfl _ _ _ 114 rfl 2 117 keyed Try.underlying114 Rh mb ks.length (Tm ks S) rfl M5.out (by have := HKS.out; unfold maxLen; omega) (.int .i64 key) v5 (.int .i64 key) rfl rfl KeyB.out (.held v5) [] rfl ?_
    intro w6 hm6 ht6
    obtain ⟨R6, F6, O6⟩ := bear_end A.out key ⟨txt, x, 0⟩ ⟨HX.out, by show (Lit.int .i64 0).wf = true; decide⟩ HK.out KB.out HO5.out HF5.out HG5.out HL5.out hm6 ht6
    have f56 := Fm.turned ht6 [] A.out.hp.bm
    have R6 := Lib.hid R6; have F6 := Lib.hid F6; have O6 := Lib.hid O6
    refine hK.out _ _ ⟨f56.heap S5.out.1 (by simp), f56.heap S5.out.2 (by simp)⟩ (fun hHeld => ?_)
    clear hK K hm6 ht6 f56 hs5
    refine wpAnyH_done (by kernel_rfl) ?_ _
    go_wp2
    exact bodyPost_end (results_none rfl _ _ _) rfl ⟨rfl, _, R6.out, F6.out, O6.out⟩
  case wayB =>
    refine step_buildSlice_one _ rfl 117 (.tmp 21) rfl 124 i0 _ 4 Try.underlying117 hi0 hz0 hz1 (by decide) (by decide) (vcs key ⟨txt, x, 0⟩) rfl rfl ?_
    rw [← HwB.out]
    refine hK.out _ _ S2.out (fun hHeld => ?_)
    clear hK K
    refine wpAnyH_ready (rs := [12]) (by kernel_rfl) (by simp) ?_
    refine AllReadyH.cons (o := _) rfl (fun K hK => ?_) AllReadyH.nil
    have l2 := LK2.out
    go_simp
    clear l2
    refine hK.out _ _ S2.out (fun hHeld => ?_)
    clear hK K
    refine wpAnyH_ready (rs := [17]) (by kernel_rfl) (by simp) ?_
    refine AllReadyH.cons (o := _) rfl (fun K hK => ?_) AllReadyH.nil
    refine step_append_all _ rfl (.tmp 18) (.tmp 22) 117 117 rfl B 124 i0 _ 4 40 Try.underlying117 hi0 hz0 hz1 hzb rfl (.slice sa n sc) n (vcl key (F key)) rfl XB.out _ 1 (vcs key ⟨txt, x, 0⟩) rfl SB.out (by unfold maxLen; omega) (by omega) bB ?_
    intro v5 w5 ho5 hf5 hg5 hl5
    rw [← HN.out] at ho5
    rw [← HSV.out] at hg5 hl5
    have HO5 := Lib.hid ho5; have HF5 := Lib.hid hf5; have HG5 := Lib.hid hg5; have HL5 := Lib.hid hl5
    obtain ⟨a5, c5, hs5⟩ := ownsRow_shape ho5
    have M5 := Lib.hid (ownsMap_fr (A.out.keep KB.out).hp.hm hf5)
    have S5 : Hid (BearS p h mb bx key txt w5) := Lib.hid ⟨hf5.heap S2.out.1 (by decide), hf5.heap S2.out.2 (by decide)⟩
    clear ho5 hf5 hg5 hl5
    refine hK.out _ _ S5.out (fun hHeld => ?_)
    clear hK K
    refine wpAnyH_ready (rs := [18]) (by kernel_rfl) (by simp) ?_
    refine AllReadyH.cons (o := _) rfl (fun K hK => ?_) AllReadyH.nil
    refine step_mapUpdate _ rfl _ _ _ 114 rfl 2 117 keyed Try.underlying114 Rh mb ks.length (Tm ks S) rfl M5.out (by have := HKS.out; unfold maxLen; omega) (.int .i64 key) v5 (.int .i64 key) rfl rfl KeyB.out (.held v5) [] rfl ?_
    intro w6 hm6 ht6
    obtain ⟨R6, F6, O6⟩ := bear_end A.out key ⟨txt, x, 0⟩ ⟨HX.out, by show (Lit.int .i64 0).wf = true; decide⟩ HK.out KB.out HO5.out HF5.out HG5.out HL5.out hm6 ht6
    have f56 := Fm.turned ht6 [] A.out.hp.bm
    have R6 := Lib.hid R6; have F6 := Lib.hid F6; have O6 := Lib.hid O6
    refine hK.out _ _ ⟨f56.heap S5.out.1 (by simp), f56.heap S5.out.2 (by simp)⟩ (fun hHeld => ?_)
    clear hK K hm6 ht6 f56 hs5
    refine wpAnyH_done (by kernel_rfl) ?_ _
    go_wp2
    exact bodyPost_end (results_none rfl _ _ _) rfl ⟨rfl, _, R6.out, F6.out, O6.out⟩

end Go.Proofs.Ytdjhcdgehmpikaa
