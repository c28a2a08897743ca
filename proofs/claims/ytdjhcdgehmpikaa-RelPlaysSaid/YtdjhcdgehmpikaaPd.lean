/-
  The document's heap: Insert, Update.
-/
import Derived.Test.YtdjhcdgehmpikaaPc
namespace Go.Proofs.Ytdjhcdgehmpikaa
set_option linter.unusedVariables false
open Go.RowKit Go.Maps

variable {w w' : World} {B q h : Nat} {v lv : Value} {st : List Nat} {l : Fl}

theorem Try.infoVrR : (Try.prog.info? 130).map (fun i => (i.zero, i.size, i.bytes)) = some (some (.agg #[.int .i64 0, .string ByteArray.empty, .int .i64 0, .int .i64 0]), 4, 40) := by kernel_rfl

/-- The cells that an append reads. -/
def BoxS (V : World) (y z : Nat) (key own : Int) (txt : ByteArray) : Prop := (V.cell? ⟨y, 0, none⟩ = some (.int .i64 key) ∧ V.cell? ⟨y, 1, none⟩ = some (.string txt)) ∧ V.cell? ⟨z, 2, none⟩ = some (.int .i64 own)

theorem boxS {V : World} {y z : Nat} {mx key own : Int} {sl : Value} {txt : ByteArray} (gz : Bw V z mx own sl) (gy : V.heap[y]? = some (.cells #[.int .i64 key, .string txt] 55 (0, 0))) : BoxS V y z key own txt :=
  ⟨⟨by rw [cell_of_row _ _ 0 _ _ _ gy]; rfl, by rw [cell_of_row _ _ 1 _ _ _ gy]; rfl⟩, gz.cells.2.2⟩

/-- All that the region of an append is told. -/
structure AppIn (wr wB : World) (B q h y z : Nat) (u : Option Addr) (n c : Nat) (l : Fl) (key own : Int) (txt : ByteArray) : Prop where
  s1 : BoxS wr.drew y z key own txt
  s2 : BoxS wB y z key own txt
  cl : wr.drew.cell? ⟨h, 1, none⟩ = some (.slice u n c)
  cb : wB.cell? ⟨h, 1, none⟩ = some (.slice u n c)
  xb : wB.ownsRow B 130 4 (.slice u n c) n (fcl l)
  sb : Src Try.prog 4 90 (.slice (some ⟨wr.heap.size, 0, none⟩) 1 1) 1 (vcs key ⟨txt, own, 0⟩) wB
  bb : B ≤ wB.heap.size
  st : ∀ V, Fo (rfoot h (.slice u n c)) wr V → BoxS V y z key own txt
  ar : ∀ v9 w9, w9.ownsRow B 130 4 v9 (n + 1) (fcl l ++ vcs key ⟨txt, own, 0⟩) → wB.grownBy w9 (Value.slice u n c).ownBlock → (v9.ownBlock = (Value.slice u n c).ownBlock ∨ ∃ g, v9.ownBlock = some g ∧ wB.heap.size ≤ g) →
    w9.cell? ⟨h, 1, none⟩ = some (.slice u n c) ∧ w9.frozen? ⟨h, 1, none⟩ = false ∧ Rhe (w9.setCell ⟨h, 1, none⟩ v9) B q h v9 (l ++ [(key, ⟨txt, own, 0⟩)]) ∧ Stp (rfoot h (.slice u n c)) (rfoot h v9) wr (w9.setCell ⟨h, 1, none⟩ v9) ∧ Fo (rfoot h (.slice u n c)) wr w9

theorem appIn {wr wB : World} {y z : Nat} {u : Option Addr} {n c : Nat} {mx key own : Int} {sl : Value} {txt : ByteArray} (a : Rhe wr B q h (.slice u n c) l) (hn : l.length = n) (gz : Bw wr z mx own sl) (gy : wr.heap[y]? = some (.cells #[.int .i64 key, .string txt] 55 (0, 0)))
    (hB : wB = wr.drew.alloc (.cells (vcs key ⟨txt, own, 0⟩).toArray 130)) : AppIn wr wB B q h y z u n c l key own txt := by
  subst hn
  have kd : Kept wr wr.drew [] := (Kept.refl wr []).drew
  have kB : Kept wr wB [] := by rw [hB]; exact kd.alloc _
  have hb : wB.heap[wr.heap.size]? = some (.cells (vcs key ⟨txt, own, 0⟩).toArray 130 (0, 0)) := by rw [hB]; exact heap_alloc_new wr.drew _
  refine ⟨boxS (gz.keep kd) (kd.heap (by simp) gy), boxS (gz.keep kB) (kB.heap (by simp) gy), (a.keep kd).cell.2, (a.keep kB).cell.2, (a.keep kB).hv, ?_, Nat.le_trans a.size kB.size, fun V hV => boxS (a.heap hV gz (by decide)) (a.heap hV gy (by decide)), fun v9 w9 h1 h2 h3 => a.app kB h1 h2 h3⟩
  refine Src.ofSlice wB Try.underlying90 ⟨wr.heap.size, 0, none⟩ 1 1 _ rfl (fun j x hx => ?_) (by intro x hx; simp [vcs] at hx; rcases hx with rfl | rfl | rfl | rfl <;> rfl)
  rw [Addr.add_lit, cell_of_row wB _ _ _ _ _ hb, Nat.zero_add]
  simpa using hx

theorem alloc_drew (w : World) (o : Obj) : (w.drew).alloc o = (w.alloc o).drew := rfl

/-- Where in a list one is in the way. -/
theorem wayR_def (st : List Nat) (V : Vw) (r : Vr) : wayR st V r = (binds st V r.birth && !(decide (0 < r.death) && (decide (r.death = V.own) || stAt st r.death == 2))) := rfl

set_option maxHeartbeats 2000000 in
set_option maxRecDepth 100000 in
theorem rupd_any (m : Rm w B q v st) (a : Rhe w B q h lv l) (mx own : Int) (sl : Value) (opl : List Int) (hsl : RdI w sl opl) (key : Int) (txt : ByteArray) (hl : l.length < 1000000) :
    Calls Try.prog 45 #[.pointer (some ⟨h, 0, none⟩), .agg #[.int .i64 mx, sl, .int .i64 own], .agg #[.int .i64 key, .string txt]] w fun e w' => e = .returned (.int .i64 (flDel st ⟨mx, opl, own⟩ key l).1) ∧
      ∃ lv', Rhe w' B q h lv' (flPut (flDel st ⟨mx, opl, own⟩ key l).1 key ⟨txt, own, 0⟩ (flDel st ⟨mx, opl, own⟩ key l).2) ∧ Stp (rfoot h lv) (rfoot h lv') w w' := by
  obtain ⟨W1, hW1⟩ : ∃ W1, W1 = (w.alloc (.cells #[.int .i64 mx, sl, .int .i64 own] 50)).alloc (.cells #[.int .i64 key, .string txt] 55) := ⟨_, rfl⟩
  have k1 : Kept w W1 [] := by rw [hW1]; exact ((Kept.refl w []).alloc _).alloc _
  obtain ⟨z, hz⟩ : ∃ z, z = w.heap.size := ⟨_, rfl⟩
  have hy1 : (w.alloc (.cells #[.int .i64 mx, sl, .int .i64 own] 50)).heap.size = z + 1 := by rw [hz]; simp
  obtain ⟨y, hy⟩ : ∃ y, y = z + 1 := ⟨_, rfl⟩
  have g1 : Bw W1 z mx own sl := by
    have k9 : Kept (w.alloc (.cells #[.int .i64 mx, sl, .int .i64 own] 50)) W1 [] := by rw [hW1]; exact (Kept.refl _ []).alloc _
    exact k9.heap (by simp) (by rw [hz]; exact heap_alloc_new w _)
  have g2 : W1.heap[y]? = some (.cells #[.int .i64 key, .string txt] 55 (0, 0)) := by rw [hW1, hy, ← hy1]; exact heap_alloc_new _ _
  have G1 := Lib.hid g1; have G2 := Lib.hid g2; have K1 := Lib.hid k1
  have M := Lib.hid (m.keep k1); have A := Lib.hid (a.keep k1); have HS := Lib.hid (hsl.keep k1)
  obtain ⟨i0, hi0, hz0, hz1, hzb⟩ := info_parts Try.infoVrR
  have I := Lib.hid (And.intro hi0 (And.intro hz0 (And.intro hz1 hzb)))
  clear hi0 hz0 hz1 hzb hy1
  have CD := Lib.hid (rdel_any M.out A.out mx own sl opl HS.out key)
  have hdl : (flDel st ⟨mx, opl, own⟩ key l).2.length = l.length := by
    unfold flDel
    split
    · split
      · rfl
      · split
        · rfl
        · split
          · rfl
          · exact flDie_length _ _ _
    · rfl
  obtain ⟨dl, hd⟩ : ∃ dl, flDel st ⟨mx, opl, own⟩ key l = dl := ⟨_, rfl⟩
  rw [hd] at CD hdl ⊢
  obtain ⟨E, l2⟩ := dl
  simp only at CD hdl ⊢
  obtain ⟨sa, sc, rfl, _⟩ := hsl
  obtain ⟨z0, z1, z2⟩ := g1.cells
  have y0 : W1.cell? ⟨y, 0, none⟩ = some (.int .i64 key) := by rw [cell_of_row _ _ 0 _ _ _ g2]; rfl
  have HD := Lib.hid hdl
  clear m a g1 g2 k1 hd hdl
  by_cases he : E = 0
  · subst he
    rw [flPut, if_pos rfl]
    go_enter Try.func45, Try.ntmps45
    go_wp2_with fail
    rw [← hW1, ← hz, ← hy]
    clear hW1 hz hy
    refine CD.out.mono ?_
    rintro e wr ⟨rfl, r2, f2⟩
    obtain ⟨u, c, hlv⟩ := ownsRow_shape r2.hv
    obtain ⟨n, hn⟩ : ∃ n, l2.length = n := ⟨_, rfl⟩
    have HNL := Lib.hid hn
    rw [hn] at hlv
    rw [hlv] at r2
    have AW := Lib.hid r2
    have GZ := Lib.hid (A.out.heap f2 G1.out (by decide)); have GY := Lib.hid (A.out.heap f2 G2.out (by decide)); have F2 := Lib.hid f2
    have hnl : n < 1000000 := by have := HD.out; omega
    have LV := Lib.hid hlv
    clear r2 f2 hn z0 z1 z2 y0 hlv
    obtain ⟨wB, hwB⟩ : ∃ wB, wB = wr.drew.alloc (.cells (vcs key ⟨txt, own, 0⟩).toArray 130) := ⟨_, rfl⟩
    have AI := appIn AW.out HNL.out GZ.out GY.out hwB
    have S1 := Lib.hid AI.s1; have S2 := Lib.hid AI.s2; have CL := Lib.hid AI.cl; have CB := Lib.hid AI.cb; have XB := Lib.hid AI.xb; have SB := Lib.hid AI.sb; have BB := Lib.hid AI.bb; have ST := Lib.hid AI.st; have AR := Lib.hid AI.ar; have HwB := Lib.hid hwB
    clear AI hwB
    go_wp2_with fail
    refine wp_region_held_drew (S := fun V => BoxS V y z key own txt) (by kernel_rfl) S1.out (fun hHeld => ?_)
    refine wpAnyH_take (i := 0) (oi := _) (v := .pointer (some ⟨h, 0, none⟩)) rfl (by kernel_rfl) (by kernel_rfl) (by kernel_rfl) (fun _ _ _ h => h) (Or.inl ⟨by rfl, fun V hV => by go_simp⟩) hHeld ?_
    change wpAnyH _ _ _ _ _ _ _ (Act.put _ (some 15) _) _
    simp only [Act.put, List.setIfInBounds_toArray, List.set_cons_zero, List.set_cons_succ]
    refine wpAnyH_take (i := 1) (oi := _) (v := .pointer (some ⟨h, 0, none⟩)) rfl (by kernel_rfl) (by kernel_rfl) (by kernel_rfl) (fun _ _ _ h => h) (Or.inl ⟨by rfl, fun V hV => by go_simp⟩) hHeld ?_
    change wpAnyH _ _ _ _ _ _ _ (Act.put _ (some 16) _) _
    simp only [Act.put, List.setIfInBounds_toArray, List.set_cons_zero, List.set_cons_succ]
    refine wpAnyH_take (i := 2) (oi := _) (v := .pointer (some ⟨h, 0, none⟩)) rfl (by kernel_rfl) (by kernel_rfl) (by kernel_rfl) (fun _ _ _ h => h) (Or.inl ⟨by rfl, fun V hV => by go_simp⟩) hHeld ?_
    change wpAnyH _ _ _ _ _ _ _ (Act.put _ (some 17) _) _
    simp only [Act.put, List.setIfInBounds_toArray, List.set_cons_zero, List.set_cons_succ]
    refine wpAnyH_take (i := 3) (oi := _) (v := .pointer (some ⟨h, 1, none⟩)) rfl (by kernel_rfl) (by kernel_rfl) (by kernel_rfl) (fun _ _ _ h => h) (Or.inl ⟨by rfl, fun V hV => by go_simp⟩) hHeld ?_
    change wpAnyH _ _ _ _ _ _ _ (Act.put _ (some 18) _) _
    simp only [Act.put, List.setIfInBounds_toArray, List.set_cons_zero, List.set_cons_succ]
    refine wpAnyH_take (i := 5) (oi := _) (v := .agg #[.int .i64 key, .string txt]) rfl (by kernel_rfl) (by kernel_rfl) (by kernel_rfl) (fun _ _ _ h => h) (Or.inl ⟨by rfl, fun V hV => by (obtain ⟨⟨e0, e1⟩, e2⟩ := hV; go_simp)⟩) hHeld ?_
    change wpAnyH _ _ _ _ _ _ _ (Act.put _ (some 20) _) _
    simp only [Act.put, List.setIfInBounds_toArray, List.set_cons_zero, List.set_cons_succ]
    refine wpAnyH_take (i := 6) (oi := _) (v := .pointer (some ⟨z, 2, none⟩)) rfl (by kernel_rfl) (by kernel_rfl) (by kernel_rfl) (fun _ _ _ h => h) (Or.inl ⟨by rfl, fun V hV => by go_simp⟩) hHeld ?_
    change wpAnyH _ _ _ _ _ _ _ (Act.put _ (some 21) _) _
    simp only [Act.put, List.setIfInBounds_toArray, List.set_cons_zero, List.set_cons_succ]
    refine wpAnyH_take (i := 7) (oi := _) (v := .int .i64 own) rfl (by kernel_rfl) (by kernel_rfl) (by kernel_rfl) (fun _ _ _ h => h) (Or.inl ⟨by rfl, fun V hV => by (obtain ⟨⟨e0, e1⟩, e2⟩ := hV; go_simp)⟩) hHeld ?_
    change wpAnyH _ _ _ _ _ _ _ (Act.put _ (some 22) _) _
    simp only [Act.put, List.setIfInBounds_toArray, List.set_cons_zero, List.set_cons_succ]
    refine wpAnyH_take (i := 8) (oi := _) (v := .agg #[.int .i64 key, .string txt, .int .i64 own, .int .i64 0]) rfl (by kernel_rfl) (by kernel_rfl) (by kernel_rfl) (fun _ _ _ h => h) (Or.inl ⟨by rfl, fun V hV => by go_simp⟩) hHeld ?_
    change wpAnyH _ _ _ _ _ _ _ (Act.put _ (some 23) _) _
    simp only [Act.put, List.setIfInBounds_toArray, List.set_cons_zero, List.set_cons_succ]
    refine wpAnyH_ready (rs := [4, 9]) (by kernel_rfl) (by simp) ?_
    refine AllReadyH.cons (o := _) rfl (fun K hK => ?wayA15) (AllReadyH.cons (o := _) rfl (fun K hK => ?wayB15) AllReadyH.nil)
    case wayA15 =>
      have l1 : wr.drew.cell? ⟨h, 1, none⟩ = some (.slice u n c) := CL.out
      go_simp
      clear l1
      refine hK.out _ _ S1.out (fun hHeld => ?_)
      clear hK K
      refine wpAnyH_ready (rs := [9]) (by kernel_rfl) (by simp) ?_
      refine AllReadyH.cons (o := _) rfl (fun K hK => ?_) AllReadyH.nil
      refine step_buildSlice_one _ rfl 90 (.tmp 23) rfl 130 i0 _ 4 Try.underlying90 I.out.1 I.out.2.1 I.out.2.2.1 (by decide) (by decide) (vcs key ⟨txt, own, 0⟩) rfl rfl ?_
      rw [← HwB.out]
      refine hK.out _ _ S2.out (fun hHeld => ?_)
      clear hK K
      refine wpAnyH_ready (rs := [10]) (by kernel_rfl) (by simp) ?_
      refine AllReadyH.cons (o := _) rfl (fun K hK => ?_) AllReadyH.nil
      refine step_append_all _ rfl (.tmp 19) (.tmp 24) 90 90 rfl B 130 i0 _ 4 40 Try.underlying90 I.out.1 I.out.2.1 I.out.2.2.1 I.out.2.2.2 rfl (.slice u n c) n (fcl l2) rfl XB.out _ 1 (vcs key ⟨txt, own, 0⟩) rfl SB.out (by unfold maxLen; omega) (by omega) BB.out ?_
      intro v9 w9 ho9 hf9 hg9 hl9
      obtain ⟨c9, f9, r9, p9, q9⟩ := AR.out v9 w9 ho9 hg9 hl9
      have R9 := Lib.hid r9; have P9 := Lib.hid p9
      have S3 := Lib.hid (ST.out w9 q9); have S4 := Lib.hid (ST.out _ p9.1)
      obtain ⟨a9, d9, hs9⟩ := ownsRow_shape ho9
      clear r9 p9 q9 ho9 hf9 hg9 hl9
      subst hs9
      refine hK.out _ _ S3.out (fun hHeld => ?_)
      clear hK K
      refine wpAnyH_take (i := 11) (oi := _) (v := .pointer (some ⟨h, 0, none⟩)) rfl (by kernel_rfl) (by kernel_rfl) (by kernel_rfl) (fun _ _ _ h => h) (Or.inl ⟨by rfl, fun V hV => by go_simp⟩) hHeld ?_
      refine wpAnyH_take (i := 12) (oi := _) (v := .pointer (some ⟨h, 1, none⟩)) rfl (by kernel_rfl) (by kernel_rfl) (by kernel_rfl) (fun _ _ _ h => h) (Or.inl ⟨by rfl, fun V hV => by go_simp⟩) hHeld ?_
      refine wpAnyH_ready (rs := [13]) (by kernel_rfl) (by simp) ?_
      refine AllReadyH.cons (o := _) rfl (fun K hK => ?_) AllReadyH.nil
      go_simp
      refine hK.out _ _ S4.out (fun hHeld => ?_)
      clear hK K
      refine wpAnyH_done (by kernel_rfl) ?_ _
      clear c9 f9
      go_wp2
      go_ret
      rw [LV.out]
      exact ⟨rfl, _, R9.out, ((Fo.ofKept K1.out _).trans (by have := F2.out; rw [LV.out] at this; exact this)).trans P9.out.1, fun k hk => (P9.out.2 k hk).imp id (fun h => Nat.le_trans (Nat.le_trans K1.out.size F2.out.size) h)⟩
    case wayB15 =>
      refine step_buildSlice_one _ rfl 90 (.tmp 23) rfl 130 i0 _ 4 Try.underlying90 I.out.1 I.out.2.1 I.out.2.2.1 (by decide) (by decide) (vcs key ⟨txt, own, 0⟩) rfl rfl ?_
      rw [← HwB.out]
      refine hK.out _ _ S2.out (fun hHeld => ?_)
      clear hK K
      refine wpAnyH_ready (rs := [4]) (by kernel_rfl) (by simp) ?_
      refine AllReadyH.cons (o := _) rfl (fun K hK => ?_) AllReadyH.nil
      have l1 : wB.cell? ⟨h, 1, none⟩ = some (.slice u n c) := CB.out
      go_simp
      clear l1
      refine hK.out _ _ S2.out (fun hHeld => ?_)
      clear hK K
      refine wpAnyH_ready (rs := [10]) (by kernel_rfl) (by simp) ?_
      refine AllReadyH.cons (o := _) rfl (fun K hK => ?_) AllReadyH.nil
      refine step_append_all _ rfl (.tmp 19) (.tmp 24) 90 90 rfl B 130 i0 _ 4 40 Try.underlying90 I.out.1 I.out.2.1 I.out.2.2.1 I.out.2.2.2 rfl (.slice u n c) n (fcl l2) rfl XB.out _ 1 (vcs key ⟨txt, own, 0⟩) rfl SB.out (by unfold maxLen; omega) (by omega) BB.out ?_
      intro v9 w9 ho9 hf9 hg9 hl9
      obtain ⟨c9, f9, r9, p9, q9⟩ := AR.out v9 w9 ho9 hg9 hl9
      have R9 := Lib.hid r9; have P9 := Lib.hid p9
      have S3 := Lib.hid (ST.out w9 q9); have S4 := Lib.hid (ST.out _ p9.1)
      obtain ⟨a9, d9, hs9⟩ := ownsRow_shape ho9
      clear r9 p9 q9 ho9 hf9 hg9 hl9
      subst hs9
      refine hK.out _ _ S3.out (fun hHeld => ?_)
      clear hK K
      refine wpAnyH_take (i := 11) (oi := _) (v := .pointer (some ⟨h, 0, none⟩)) rfl (by kernel_rfl) (by kernel_rfl) (by kernel_rfl) (fun _ _ _ h => h) (Or.inl ⟨by rfl, fun V hV => by go_simp⟩) hHeld ?_
      refine wpAnyH_take (i := 12) (oi := _) (v := .pointer (some ⟨h, 1, none⟩)) rfl (by kernel_rfl) (by kernel_rfl) (by kernel_rfl) (fun _ _ _ h => h) (Or.inl ⟨by rfl, fun V hV => by go_simp⟩) hHeld ?_
      refine wpAnyH_ready (rs := [13]) (by kernel_rfl) (by simp) ?_
      refine AllReadyH.cons (o := _) rfl (fun K hK => ?_) AllReadyH.nil
      go_simp
      refine hK.out _ _ S4.out (fun hHeld => ?_)
      clear hK K
      refine wpAnyH_done (by kernel_rfl) ?_ _
      clear c9 f9
      go_wp2
      go_ret
      rw [LV.out]
      exact ⟨rfl, _, R9.out, ((Fo.ofKept K1.out _).trans (by have := F2.out; rw [LV.out] at this; exact this)).trans P9.out.1, fun k hk => (P9.out.2 k hk).imp id (fun h => Nat.le_trans (Nat.le_trans K1.out.size F2.out.size) h)⟩
  · rw [flPut, if_neg he]
    have he' : (E == 0) = false := by simpa using he
    go_enter Try.func45, Try.ntmps45
    go_wp2_with fail
    rw [← hW1, ← hz, ← hy]
    clear hW1 hz hy
    refine CD.out.mono ?_
    rintro e wr ⟨rfl, r2, f2⟩
    have R2 := Lib.hid r2; have F2 := Lib.hid f2
    clear r2 f2 z0 z1 z2 y0
    go_wp2
    go_ret
    exact ⟨rfl, lv, R2.out, (Fo.ofKept K1.out _).trans F2.out, fun k hk => .inl hk⟩
end Go.Proofs.Ytdjhcdgehmpikaa
