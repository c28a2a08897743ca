/-
  Spc, Spd in one text.
-/
import Derived.Test.YticiofkiffgclaaGreatNr30
import Derived.Deep.RegionHeld3
namespace Go.Proofs.YticiofkiffgclaaGreat
set_option linter.unusedVariables false
open Go.RowKit

theorem Tryz.infoEv_g6 : (Tryz.prog.info? 50).map (fun i => (i.zero, i.size, i.bytes)) = some (some (.agg #[.int .i64 0, .int .i64 0, .string ByteArray.empty, .int .i64 0, .int .i64 0, .int .u8 0, .int .i64 0, .string ByteArray.empty]), 8, 80) := by kernel_rfl

variable {w w' : World} {B h c : Nat} {V : Nat → Value} {l : Nat → List Ev}

theorem ev_cells {w : World} {z : Nat} {b0 b1 b3 b4 b5 b6 : Int} {b2 b7 : ByteArray} {T : TypeId} (hz : w.heap[z]? = some (.cells #[.int .i64 b0, .int .i64 b1, .string b2, .int .i64 b3, .int .i64 b4, .int .u8 b5, .int .i64 b6, .string b7] T (0, 0))) :
    w.cell? ⟨z, 0, none⟩ = some (.int .i64 b0) ∧ w.cell? ⟨z, 1, none⟩ = some (.int .i64 b1) ∧ w.cell? ⟨z, 2, none⟩ = some (.string b2) ∧ w.cell? ⟨z, 3, none⟩ = some (.int .i64 b3) ∧ w.cell? ⟨z, 4, none⟩ = some (.int .i64 b4) ∧ w.cell? ⟨z, 5, none⟩ = some (.int .u8 b5) ∧ w.cell? ⟨z, 6, none⟩ = some (.int .i64 b6) ∧ w.cell? ⟨z, 7, none⟩ = some (.string b7) := by
  refine ⟨?_, ?_, ?_, ?_, ?_, ?_, ?_, ?_⟩ <;> (rw [cell_of_row _ _ _ _ _ _ hz]; rfl)

theorem ecs_snoc (l : List Ev) (e : Ev) : ecs l ++ e.cs.toList = ecs (l ++ [e]) := by rw [ecs_append]; simp [ecs]

structure AddIn (T : TypeId) (w wr wB : World) (B h z i : Nat) (V : Nat → Value) (l : Nat → List Ev) (c : Nat) (u : Option Addr) (n cp : Nat) (e : Ev) : Prop where
  s1 : wr.drew.heap[z]? = some (.cells e.cs 50 (0, 0))
  s2 : wB.heap[z]? = some (.cells e.cs 50 (0, 0))
  cl : wr.drew.cell? ⟨h, i, none⟩ = some (.slice u n cp)
  cb : wB.cell? ⟨h, i, none⟩ = some (.slice u n cp)
  xb : wB.ownsRow B 50 8 (.slice u n cp) n (ecs (l i))
  sb : Src Tryz.prog 8 57 (.slice (some ⟨wr.heap.size, 0, none⟩) 1 1) 1 e.cs.toList wB
  bb : B ≤ wB.heap.size
  ar : ∀ v9 w9, w9.ownsRow B 50 8 v9 (n + 1) (ecs (l i) ++ e.cs.toList) → wB.grownBy w9 (Value.slice u n cp).ownBlock → (v9.ownBlock = (Value.slice u n cp).ownBlock ∨ ∃ g, v9.ownBlock = some g ∧ wB.heap.size ≤ g) →
    w9.cell? ⟨h, i, none⟩ = some (.slice u n cp) ∧ w9.frozen? ⟨h, i, none⟩ = false ∧ Sp T (w9.setCell ⟨h, i, none⟩ v9) B h (upd V i v9) (upd l i (l i ++ [e])) c ∧ Dst (upd V i v9) ∧ Stp (sfoot h V) (sfoot h (upd V i v9)) w (w9.setCell ⟨h, i, none⟩ v9) ∧
      w9.heap[z]? = some (.cells e.cs 50 (0, 0)) ∧ (w9.setCell ⟨h, i, none⟩ v9).heap[z]? = some (.cells e.cs 50 (0, 0))

theorem addIn {T : TypeId} (hT : T ≠ 50) (a : Sp T w B h V l c) (d : Dst V) {wr wB : World} {z i : Nat} (hi : i < 3) {u : Option Addr} {n cp : Nat} (hV : V i = .slice u n cp) (hn : n = (l i).length) (e : Ev) (kr : Kept w wr []) (hz : w.heap.size ≤ z) (gz : wr.heap[z]? = some (.cells e.cs 50 (0, 0)))
    (hB : wB = wr.drew.alloc (.cells e.cs 50)) : AddIn T w wr wB B h z i V l c u n cp e := by
  have kd : Kept wr wr.drew [] := (Kept.refl wr []).drew
  have kB : Kept wr wB [] := by rw [hB]; exact kd.alloc _
  have kwB : Kept w wB [] := kr.trans kB (by simp)
  have hb : wB.heap[wr.heap.size]? = some (.cells e.cs 50 (0, 0)) := by rw [hB]; exact heap_alloc_new wr.drew _
  refine ⟨kd.heap (by simp) gz, kB.heap (by simp) gz, ?_, ?_, ?_, ?_, Nat.le_trans a.size kwB.size, ?_⟩
  · rw [((a.keep kr).keep kd).cell i hi |>.1, hV]
  · rw [(a.keep kwB).cell i hi |>.1, hV]
  · have := (a.keep kwB).own i hi
    rw [hV] at this
    unfold OwnE at this
    rw [hn] at this ⊢
    exact this
  · refine Src.ofSlice wB Tryz.underlying57 ⟨wr.heap.size, 0, none⟩ 1 1 _ rfl (fun j x hx => ?_) (encE_one e)
    rw [Addr.add_lit, cell_of_row wB _ _ _ _ _ hb, Nat.zero_add]
    simpa using hx
  · intro v9 w9 h1 h2 h3
    rw [← hV] at h2 h3
    have f : Fo (fun k => (V i).ownBlock = some k) w w9 := (Fo.ofKept kwB _).grown h2 (fun k hk => .inl hk)
    have x9 : OwnE w9 B 50 v9 (l i ++ [e]) := by unfold OwnE; rw [← ecs_snoc, List.length_append, ← hn]; exact h1
    obtain ⟨⟨r1, r2⟩, r3, r4, r5, r6⟩ := a.lay hT d hi f x9 (fun k hk => by
      rcases h3 with h3 | ⟨g, h3, h4⟩
      · exact .inl (by rw [← h3]; exact hk)
      · rw [h3] at hk
        simp only [Option.some.injEq] at hk
        subst hk
        exact .inr (Nat.le_trans kwB.size h4))
    have nf : (V i).ownBlock ≠ some z := fun h => by have := ((a.own i hi).lt z h).2; omega
    have g9 : w9.heap[z]? = some (.cells e.cs 50 (0, 0)) := by
      have gB := kB.heap (by simp) gz
      have k : Fo (fun k => (V i).ownBlock = some k) wB w9 := (Fo.refl _ wB).grown h2 (fun k hk => .inl hk)
      exact k.heap nf gB
    have hne : z ≠ h := fun h => by have := heap_lt a.hh; omega
    refine ⟨by rw [r1, hV], r2, r3, r4, r5, g9, ?_⟩
    have k2 : Fo (fun k => k = h) w9 (w9.setCell ⟨h, i, none⟩ v9) := Fo.setCell (O := fun k => k = h) (Fo.refl _ w9) (p := ⟨h, i, none⟩) (.inl rfl) v9
    exact k2.heap hne g9

set_option maxHeartbeats 2000000 in
set_option maxRecDepth 100000 in
theorem addto_any (a : Sp spT w B h V l c) (d : Dst V) (i : Nat) (hi : i < 3) (hl : (l i).length < 1000000) (e : Ev) :
    Calls Tryz.prog 136 #[.pointer (some ⟨h, 0, none⟩), .int .i64 i, .agg e.cs] w fun r w' => r = .returned (.int .i64 0) ∧ ∃ V', Sp spT w' B h V' (upd l i (l i ++ [e])) c ∧ Dst V' ∧ Stp (sfoot h V) (sfoot h V') w w' := by
  obtain ⟨u, cp, hV⟩ := a.shape i hi
  obtain ⟨n, hn⟩ : ∃ n, n = (l i).length := ⟨_, rfl⟩
  rw [← hn] at hV hl
  obtain ⟨z, hz⟩ : ∃ z, z = w.heap.size := ⟨_, rfl⟩
  obtain ⟨W1, hW1⟩ : ∃ W1, W1 = w.alloc (.cells e.cs 50) := ⟨_, rfl⟩
  have k1 : Kept w W1 [] := by rw [hW1]; exact (Kept.refl w []).alloc _
  have g1 : W1.heap[z]? = some (.cells e.cs 50 (0, 0)) := by rw [hW1, hz]; exact heap_alloc_new w _
  obtain ⟨wB, hwB⟩ : ∃ wB, wB = W1.drew.alloc (.cells e.cs 50) := ⟨_, rfl⟩
  have AI := addIn (by decide) a d hi hV hn e k1 (by omega) g1 hwB
  obtain ⟨i0, hi0, hz0, hz1, hzb⟩ := info_parts Tryz.infoEv_g6
  have I := Lib.hid (And.intro hi0 (And.intro hz0 (And.intro hz1 hzb)))
  have hh : isT (i : Int) = true := by unfold isT; rw [decide_eq_true]; omega
  have HH := Lib.hid (has_any_g6 h i W1)
  rw [hh] at HH
  rcases e with ⟨b0, b1, b2, b3, b4, b5, b6, b7⟩
  have hi3 : ¬ (3 : Int) ≤ (i : Int) := by omega
  have S1 := Lib.hid AI.s1; have S2 := Lib.hid AI.s2; have CL := Lib.hid AI.cl; have CB := Lib.hid AI.cb; have XB := Lib.hid AI.xb; have SB := Lib.hid AI.sb; have BB := Lib.hid AI.bb; have AR := Lib.hid AI.ar; have HwB := Lib.hid hwB; have HW1 := Lib.hid hW1; have HZ := Lib.hid hz
  clear hi0 hz0 hz1 hzb AI hwB hn hh a d k1 g1 hV
  simp only [Ev.cs] at *
  go_enter Tryz.func136, Tryz.ntmps136
  go_wp2_with fail
  rw [← HW1.out, ← HZ.out]
  clear hW1 hz
  refine HH.out.mono ?_
  rintro e w' ⟨rfl, rfl⟩
  go_wp2_with fail
  refine wp_region_held_drew (S := fun V => V.heap[z]? = some (.cells #[.int .i64 b0, .int .i64 b1, .string b2, .int .i64 b3, .int .i64 b4, .int .u8 b5, .int .i64 b6, .string b7] 50 (0, 0))) (by kernel_rfl) S1.out (fun hHeld => ?_)
  refine wpAnyH_take (i := 0) (oi := _) (v := .pointer (some ⟨h, 0, none⟩)) rfl (by kernel_rfl) (by kernel_rfl) (by kernel_rfl) (fun _ _ _ h => h) (Or.inl ⟨by rfl, fun V hV => by go_simp⟩) hHeld ?_
  change wpAnyH _ _ _ _ _ _ _ (Act.put _ (some 13) _) _
  simp only [Act.put, List.setIfInBounds_toArray, List.set_cons_zero, List.set_cons_succ]
  refine wpAnyH_take (i := 1) (oi := _) (v := .int .i64 i) rfl (by kernel_rfl) (by kernel_rfl) (by kernel_rfl) (fun _ _ _ h => h) (Or.inl ⟨by rfl, fun V hV => by go_simp⟩) hHeld ?_
  change wpAnyH _ _ _ _ _ _ _ (Act.put _ (some 14) _) _
  simp only [Act.put, List.setIfInBounds_toArray, List.set_cons_zero, List.set_cons_succ]
  refine wpAnyH_take (i := 2) (oi := _) (v := .pointer (some ⟨h, 0, none⟩)) rfl (by kernel_rfl) (by kernel_rfl) (by kernel_rfl) (fun _ _ _ h => h) (Or.inl ⟨by rfl, fun V hV => by go_simp⟩) hHeld ?_
  change wpAnyH _ _ _ _ _ _ _ (Act.put _ (some 15) _) _
  simp only [Act.put, List.setIfInBounds_toArray, List.set_cons_zero, List.set_cons_succ]
  refine wpAnyH_take (i := 3) (oi := _) (v := .int .i64 i) rfl (by kernel_rfl) (by kernel_rfl) (by kernel_rfl) (fun _ _ _ h => h) (Or.inl ⟨by rfl, fun V hV => by go_simp⟩) hHeld ?_
  change wpAnyH _ _ _ _ _ _ _ (Act.put _ (some 16) _) _
  simp only [Act.put, List.setIfInBounds_toArray, List.set_cons_zero, List.set_cons_succ]
  refine wpAnyH_take (i := 4) (oi := _) (v := .pointer (some ⟨h, 0, none⟩)) rfl (by kernel_rfl) (by kernel_rfl) (by kernel_rfl) (fun _ _ _ h => h) (Or.inl ⟨by rfl, fun V hV => by go_simp⟩) hHeld ?_
  change wpAnyH _ _ _ _ _ _ _ (Act.put _ (some 17) _) _
  simp only [Act.put, List.setIfInBounds_toArray, List.set_cons_zero, List.set_cons_succ]
  refine wpAnyH_take (i := 5) (oi := _) (v := .pointer (some ⟨h, 0, none⟩)) rfl (by kernel_rfl) (by kernel_rfl) (by kernel_rfl) (fun _ _ _ h => h) (Or.inl ⟨by rfl, fun V hV => by go_simp⟩) hHeld ?_
  change wpAnyH _ _ _ _ _ _ _ (Act.put _ (some 18) _) _
  simp only [Act.put, List.setIfInBounds_toArray, List.set_cons_zero, List.set_cons_succ]
  refine wpAnyH_take (i := 6) (oi := _) (v := .pointer (some ⟨h, i, none⟩)) rfl (by kernel_rfl) (by kernel_rfl) (by kernel_rfl) (fun _ _ _ h => h) (Or.inl ⟨by rfl, fun V hV => by go_simp⟩) hHeld ?_
  change wpAnyH _ _ _ _ _ _ _ (Act.put _ (some 19) _) _
  simp only [Act.put, List.setIfInBounds_toArray, List.set_cons_zero, List.set_cons_succ]
  refine wpAnyH_take (i := 8) (oi := _) (v := .agg #[.int .i64 b0, .int .i64 b1, .string b2, .int .i64 b3, .int .i64 b4, .int .u8 b5, .int .i64 b6, .string b7]) rfl (by kernel_rfl) (by kernel_rfl) (by kernel_rfl) (fun _ _ _ h => h) (Or.inl ⟨by rfl, fun V hV => by (obtain ⟨q0, q1, q2, q3, q4, q5, q6, q7⟩ := ev_cells hV; clear hV; go_simp)⟩) hHeld ?_
  change wpAnyH _ _ _ _ _ _ _ (Act.put _ (some 21) _) _
  simp only [Act.put, List.setIfInBounds_toArray, List.set_cons_zero, List.set_cons_succ]
  refine wpAnyH_take (i := 11) (oi := _) (v := .pointer (some ⟨h, 0, none⟩)) rfl (by kernel_rfl) (by kernel_rfl) (by kernel_rfl) (fun _ _ _ h => h) (Or.inl ⟨by rfl, fun V hV => by go_simp⟩) hHeld ?_
  change wpAnyH _ _ _ _ _ _ _ (Act.put _ (some 24) _) _
  simp only [Act.put, List.setIfInBounds_toArray, List.set_cons_zero, List.set_cons_succ]
  refine wpAnyH_take (i := 12) (oi := _) (v := .pointer (some ⟨h, 0, none⟩)) rfl (by kernel_rfl) (by kernel_rfl) (by kernel_rfl) (fun _ _ _ h => h) (Or.inl ⟨by rfl, fun V hV => by go_simp⟩) hHeld ?_
  change wpAnyH _ _ _ _ _ _ _ (Act.put _ (some 25) _) _
  simp only [Act.put, List.setIfInBounds_toArray, List.set_cons_zero, List.set_cons_succ]
  refine wpAnyH_ready (rs := [7, 9]) (by kernel_rfl) (by simp) ?_
  refine AllReadyH.cons (o := _) rfl (fun K hK => ?wayA) (AllReadyH.cons (o := _) rfl (fun K hK => ?wayB) AllReadyH.nil)
  case wayA =>
    have l1 : w'.drew.cell? ⟨h, i, none⟩ = some (.slice u n cp) := CL.out
    go_simp
    clear l1
    refine hK.out _ _ S1.out (fun hHeld => ?_)
    clear hK K
    refine wpAnyH_ready (rs := [9]) (by kernel_rfl) (by simp) ?_
    refine AllReadyH.cons (o := _) rfl (fun K hK => ?_) AllReadyH.nil
    refine step_buildSlice_one _ rfl 57 (.tmp 21) rfl 50 i0 _ 8 Tryz.underlying57 I.out.1 I.out.2.1 I.out.2.2.1 (by decide) (by decide) [.int .i64 b0, .int .i64 b1, .string b2, .int .i64 b3, .int .i64 b4, .int .u8 b5, .int .i64 b6, .string b7] rfl rfl ?_
    rw [← HwB.out]
    refine hK.out _ _ S2.out (fun hHeld => ?_)
    clear hK K
    refine wpAnyH_ready (rs := [10]) (by kernel_rfl) (by simp) ?_
    refine AllReadyH.cons (o := _) rfl (fun K hK => ?_) AllReadyH.nil
    refine step_append_all _ rfl (.tmp 20) (.tmp 22) 57 57 rfl B 50 i0 _ 8 80 Tryz.underlying57 I.out.1 I.out.2.1 I.out.2.2.1 I.out.2.2.2 rfl (.slice u n cp) n (ecs (l i)) rfl XB.out _ 1 [.int .i64 b0, .int .i64 b1, .string b2, .int .i64 b3, .int .i64 b4, .int .u8 b5, .int .i64 b6, .string b7] rfl SB.out (by unfold maxLen; omega) (by omega) BB.out ?_
    intro v9 w9 ho9 hf9 hg9 hl9
    obtain ⟨c9, f9, r9, d9, p9, s9, t9⟩ := AR.out v9 w9 ho9 hg9 hl9
    have R9 := Lib.hid r9; have D9 := Lib.hid d9; have P9 := Lib.hid p9; have S3 := Lib.hid s9; have S4 := Lib.hid t9
    obtain ⟨a9, q9, hs9⟩ := ownsRow_shape ho9
    clear r9 d9 p9 s9 t9 ho9 hf9 hg9 hl9
    subst hs9
    refine hK.out _ _ S3.out (fun hHeld => ?_)
    clear hK K
    refine wpAnyH_take (i := 13) (oi := _) (v := .pointer (some ⟨h, i, none⟩)) rfl (by kernel_rfl) (by kernel_rfl) (by kernel_rfl) (fun _ _ _ h => h) (Or.inl ⟨by rfl, fun V hV => by go_simp⟩) hHeld ?_
    refine wpAnyH_ready (rs := [14]) (by kernel_rfl) (by simp) ?_
    refine AllReadyH.cons (o := _) rfl (fun K hK => ?_) AllReadyH.nil
    go_simp
    refine hK.out _ _ S4.out (fun hHeld => ?_)
    clear hK K
    refine wpAnyH_done (by kernel_rfl) ?_ _
    clear c9 f9
    go_wp2
    go_ret
    exact ⟨rfl, _, R9.out, D9.out, P9.out⟩
  case wayB =>
    refine step_buildSlice_one _ rfl 57 (.tmp 21) rfl 50 i0 _ 8 Tryz.underlying57 I.out.1 I.out.2.1 I.out.2.2.1 (by decide) (by decide) [.int .i64 b0, .int .i64 b1, .string b2, .int .i64 b3, .int .i64 b4, .int .u8 b5, .int .i64 b6, .string b7] rfl rfl ?_
    rw [← HwB.out]
    refine hK.out _ _ S2.out (fun hHeld => ?_)
    clear hK K
    refine wpAnyH_ready (rs := [7]) (by kernel_rfl) (by simp) ?_
    refine AllReadyH.cons (o := _) rfl (fun K hK => ?_) AllReadyH.nil
    have l1 : wB.cell? ⟨h, i, none⟩ = some (.slice u n cp) := CB.out
    go_simp
    clear l1
    refine hK.out _ _ S2.out (fun hHeld => ?_)
    clear hK K
    refine wpAnyH_ready (rs := [10]) (by kernel_rfl) (by simp) ?_
    refine AllReadyH.cons (o := _) rfl (fun K hK => ?_) AllReadyH.nil
    refine step_append_all _ rfl (.tmp 20) (.tmp 22) 57 57 rfl B 50 i0 _ 8 80 Tryz.underlying57 I.out.1 I.out.2.1 I.out.2.2.1 I.out.2.2.2 rfl (.slice u n cp) n (ecs (l i)) rfl XB.out _ 1 [.int .i64 b0, .int .i64 b1, .string b2, .int .i64 b3, .int .i64 b4, .int .u8 b5, .int .i64 b6, .string b7] rfl SB.out (by unfold maxLen; omega) (by omega) BB.out ?_
    intro v9 w9 ho9 hf9 hg9 hl9
    obtain ⟨c9, f9, r9, d9, p9, s9, t9⟩ := AR.out v9 w9 ho9 hg9 hl9
    have R9 := Lib.hid r9; have D9 := Lib.hid d9; have P9 := Lib.hid p9; have S3 := Lib.hid s9; have S4 := Lib.hid t9
    obtain ⟨a9, q9, hs9⟩ := ownsRow_shape ho9
    clear r9 d9 p9 s9 t9 ho9 hf9 hg9 hl9
    subst hs9
    refine hK.out _ _ S3.out (fun hHeld => ?_)
    clear hK K
    refine wpAnyH_take (i := 13) (oi := _) (v := .pointer (some ⟨h, i, none⟩)) rfl (by kernel_rfl) (by kernel_rfl) (by kernel_rfl) (fun _ _ _ h => h) (Or.inl ⟨by rfl, fun V hV => by go_simp⟩) hHeld ?_
    refine wpAnyH_ready (rs := [14]) (by kernel_rfl) (by simp) ?_
    refine AllReadyH.cons (o := _) rfl (fun K hK => ?_) AllReadyH.nil
    go_simp
    refine hK.out _ _ S4.out (fun hHeld => ?_)
    clear hK K
    refine wpAnyH_done (by kernel_rfl) ?_ _
    clear c9 f9
    go_wp2
    go_ret
    exact ⟨rfl, _, R9.out, D9.out, P9.out⟩

end Go.Proofs.YticiofkiffgclaaGreat

namespace Go.Proofs.YticiofkiffgclaaGreat
set_option linter.unusedVariables false
open Go.RowKit

variable {w w' : World} {B h c : Nat} {V : Nat → Value} {l : Nat → List Ev}

theorem Stp.ofKept {O : Nat → Prop} {a b : World} (h : Kept a b []) : Stp O O a b := ⟨Fo.ofKept h O, fun _ h => .inl h⟩
theorem Stp.after {O O1 : Nat → Prop} {a b c : World} (h : Kept a b []) (k : Stp O O1 b c) : Stp O O1 a c := (Stp.ofKept h).trans k
theorem Stp.then {O O1 : Nat → Prop} {a b c : World} (h : Stp O O1 a b) (k : Kept b c []) : Stp O O1 a c := h.trans (Stp.ofKept k)

set_option maxHeartbeats 2000000 in
set_option maxRecDepth 100000 in
theorem add_any (a : Sp spT w B h V l c) (d : Dst V) (hl : (l c).length < 1000000) (e : Ev) :
    Calls Tryz.prog 80 #[.pointer (some ⟨h, 0, none⟩), .agg e.cs] w fun r w' => r = .returned (.tuple #[]) ∧ ∃ V', Sp spT w' B h V' (upd l c (l c ++ [e])) c ∧ Dst V' ∧ Stp (sfoot h V) (sfoot h V') w w' := by
  obtain ⟨z, hz⟩ : ∃ z, z = w.heap.size := ⟨_, rfl⟩
  obtain ⟨W1, hW1⟩ : ∃ W1, W1 = w.alloc (.cells e.cs 50) := ⟨_, rfl⟩
  have k1 : Kept w W1 [] := by rw [hW1]; exact (Kept.refl w []).alloc _
  have g1 : W1.heap[z]? = some (.cells e.cs 50 (0, 0)) := by rw [hW1, hz]; exact heap_alloc_new w _
  have S1 := Lib.hid (((Kept.refl W1 []).drew).heap (by simp) g1)
  have CU := Lib.hid (cur_any (a.keep k1.drew))
  have CA := Lib.hid (addto_any (a.keep k1.drew) d c a.c3 hl e)
  have ZF := Lib.hid (show ¬ sfoot h V z from fun hk => by have := (a.lt z hk).2; omega)
  have K1 := Lib.hid k1.drew; have HW1 := Lib.hid hW1; have HZ := Lib.hid hz
  rcases e with ⟨b0, b1, b2, b3, b4, b5, b6, b7⟩
  have G1 := Lib.hid g1
  clear a d k1 g1 hl
  simp only [Ev.cs] at *
  go_enter Tryz.func80, Tryz.ntmps80
  go_wp2_with fail
  rw [← HW1.out, ← HZ.out]
  clear hW1 hz
  refine wp_region_held_drew (S := fun V => V.heap[z]? = some (.cells #[.int .i64 b0, .int .i64 b1, .string b2, .int .i64 b3, .int .i64 b4, .int .u8 b5, .int .i64 b6, .string b7] 50 (0, 0))) (by kernel_rfl) S1.out (fun hHeld => ?_)
  refine wpAnyH_take (i := 0) (oi := _) (v := .pointer (some ⟨h, 0, none⟩)) rfl (by kernel_rfl) (by kernel_rfl) (by kernel_rfl) (fun _ _ _ h => h) (Or.inl ⟨by rfl, fun V hV => by go_simp⟩) hHeld ?_
  change wpAnyH _ _ _ _ _ _ _ (Act.put _ (some 4) _) _
  simp only [Act.put, List.setIfInBounds_toArray, List.set_cons_zero, List.set_cons_succ]
  refine wpAnyH_take (i := 1) (oi := _) (v := .pointer (some ⟨h, 0, none⟩)) rfl (by kernel_rfl) (by kernel_rfl) (by kernel_rfl) (fun _ _ _ h => h) (Or.inl ⟨by rfl, fun V hV => by go_simp⟩) hHeld ?_
  change wpAnyH _ _ _ _ _ _ _ (Act.put _ (some 5) _) _
  simp only [Act.put, List.setIfInBounds_toArray, List.set_cons_zero, List.set_cons_succ]
  refine wpAnyH_take (i := 3) (oi := _) (v := .agg #[.int .i64 b0, .int .i64 b1, .string b2, .int .i64 b3, .int .i64 b4, .int .u8 b5, .int .i64 b6, .string b7]) rfl (by kernel_rfl) (by kernel_rfl) (by kernel_rfl) (fun _ _ _ h => h) (Or.inl ⟨by rfl, fun V hV => by (obtain ⟨q0, q1, q2, q3, q4, q5, q6, q7⟩ := ev_cells hV; clear hV; go_simp)⟩) hHeld ?_
  change wpAnyH _ _ _ _ _ _ _ (Act.put _ (some 7) _) _
  simp only [Act.put, List.setIfInBounds_toArray, List.set_cons_zero, List.set_cons_succ]
  refine wpAnyH_ready (rs := [2]) (by kernel_rfl) (by simp) ?_
  refine AllReadyH.cons (o := _) rfl (fun K hK => ?_) AllReadyH.nil
  go_simp
  go_at_call 72
  refine CU.out.mono ?_
  rintro e w2 ⟨rfl, rfl⟩
  go_wp2_with fail
  refine hK.out _ _ S1.out (fun hHeld => ?_)
  clear hK K
  refine wpAnyH_ready (rs := [4]) (by kernel_rfl) (by simp) ?_
  refine AllReadyH.cons (o := _) rfl (fun K hK => ?_) AllReadyH.nil
  go_simp
  go_at_call 136
  refine CA.out.mono ?_
  rintro e w2 ⟨rfl, V2, r9, d9, p9⟩
  have R9 := Lib.hid r9; have D9 := Lib.hid d9; have P9 := Lib.hid p9
  clear r9 d9 p9
  go_wp2_with fail
  refine hK.out _ _ ?_ (fun hHeld => ?_)
  · exact P9.out.1.heap ZF.out S1.out
  · clear hK K
    refine wpAnyH_done (by kernel_rfl) ?_ _
    go_wp2
    exact bodyPost_end (results_none rfl _ _ _) rfl ⟨rfl, V2, R9.out, D9.out, P9.out.after K1.out⟩

end Go.Proofs.YticiofkiffgclaaGreat
