/-
  The contracts of the document's own answers for layer 3, second part: Put.
-/
import Derived.Test.YtfhdblbiamdplaaRefB
namespace Go.Proofs.Ytfhdblbiamdplaa
open Go.RowKit

/-- Before the append: the list and the new element in memory. -/
theorem rput_pre {w w1 wB : World} {B q n i : Nat} {vs vw pv : Value} {safe : List UInt8} {ws : List (Nat × List UInt8)} {xs : List (Nat × Value)} (R : Rf w B q vs vw n safe ws) (hx : w.ownsRow B 108 2 vw ws.length (qcells xs))
    (hk : Kept w w1 []) (hwB : wB = w1.alloc (.cells #[.int .i64 i, pv] 108)) (hB : B ≤ w.heap.size) (hpv : pv.oneCell' = true) :
    Kept w wB [] ∧ B ≤ wB.heap.size ∧ wB.ownsRow B 108 2 vw ws.length (qcells xs) ∧ Src Try.prog 2 50 (.slice (some ⟨w1.heap.size, 0, none⟩) 1 1) 1 [.int .i64 i, pv] wB ∧
      w1.cell? ⟨q, 1, none⟩ = some vw ∧ wB.cell? ⟨q, 1, none⟩ = some vw := by
  have hkB : Kept w wB [] := by rw [hwB]; exact hk.alloc _
  have hb : wB.heap[w1.heap.size]? = some (.cells #[.int .i64 i, pv] 108 (0, 0)) := by rw [hwB]; exact heap_alloc_new w1 _
  refine ⟨hkB, Nat.le_trans hB hkB.size, ownsRow_kept hx hkB (fun _ _ => by simp), Src.ofSlice wB Try.underlying50 ⟨w1.heap.size, 0, none⟩ 1 1 _ rfl (fun j u hu => ?_) (by intro u hu; simp at hu; rcases hu with rfl | rfl; rfl; exact hpv), hk.cell (p := ⟨q, 1, none⟩) (by simp) R.cell1, hkB.cell (p := ⟨q, 1, none⟩) (by simp) R.cell1⟩
  rw [Addr.add_lit, cell_of_row wB _ _ _ _ _ hb, Nat.zero_add]
  simpa using hu

/-- Behind the append: what the store of the new list makes. -/
theorem rput_end {w w1 wB w5 : World} {B q n i : Nat} {vs vw v5 pv : Value} {safe l : List UInt8} {ws : List (Nat × List UInt8)} {xs : List (Nat × Value)} (R : Rf w B q vs vw n safe ws) (hq : Wq w B xs ws)
    (hk : Kept w w1 []) (ho1 : Own w1 w.heap.size 5 pv l) (hk1 : Kept w1 wB [])
    (ho : w5.ownsRow B 108 2 v5 (ws.length + 1) (qcells xs ++ [.int .i64 i, pv])) (hf : Fr B [108] wB w5) (hi : i < n) (hl : l.length ≤ 32) :
    (∃ a5 n5 c5, v5 = .slice a5 n5 c5) ∧ w5.cell? ⟨q, 1, none⟩ = some vw ∧ w5.frozen? ⟨q, 1, none⟩ = false ∧
      Rf (w5.setCell ⟨q, 1, none⟩ v5) B q vs v5 n safe (ws ++ [(i, l)]) ∧ Fr B rts w (w5.setCell ⟨q, 1, none⟩ v5) := by
  obtain ⟨a5, c5, hv5⟩ := ownsRow_shape ho
  have hkB := hk.trans hk1 (by simp)
  have f5 : Fr B [108] w w5 := (Fr.ofKept hkB B _).trans hf
  have hq5 := f5.heap R.hq (by decide)
  have hk6 : Kept w5 (w5.setCell ⟨q, 1, none⟩ v5) [q] := (Kept.refl w5 [q]).setCell (p := ⟨q, 1, none⟩) (.inl (by simp)) v5
  have f6 : Fr B rts w5 (w5.setCell ⟨q, 1, none⟩ v5) := (Fr.refl B rts w5).setCell hq5 (.inr ⟨R.bq, by decide⟩) 1 v5
  have f7 : Fr B rts w (w5.setCell ⟨q, 1, none⟩ v5) := (f5.mono (Nat.le_refl _) (by decide)).trans f6
  have hwq : Wq (w5.setCell ⟨q, 1, none⟩ v5) B (xs ++ [(i, pv)]) (ws ++ [(i, l)]) := (hq.frame f7 (Nat.le_refl _) (by decide)).snoc i pv l ((((ho1.rb B).frame (Fr.ofKept hk1 B []) (Nat.le_refl _) (by simp)).frame hf (Nat.le_refl _) (by decide)).frame f6 (Nat.le_refl _) (by decide))
  refine ⟨⟨a5, _, c5, hv5⟩, by simpa using cell_of_row w5 q 1 _ _ _ hq5, frozen_of_row _ _ _ _ _ hq5, { hq := by simpa using heap_setCell_at hq5 1 v5, hs := R.hs.frame f7 (by decide), hw := ⟨xs ++ [(i, pv)], ?_, hwq⟩, bq := R.bq, n12 := R.n12, ls := R.ls, ok := R.ok.snoc hi hl }, f7⟩
  have e : qcells (xs ++ [(i, pv)]) = qcells xs ++ [.int .i64 i, pv] := by simp [qcells]
  rw [e, List.length_append]
  exact ownsRow_kept ho hk6 (fun g hg => by simpa using own_ne ho hq5 (by decide) g hg)

set_option maxHeartbeats 1000000 in
set_option maxRecDepth 100000 in
theorem rput_ok {w : World} {B q n : Nat} {vs vw : Value} {safe : List UInt8} {ws : List (Nat × List UInt8)} (R : Rf w B q vs vw n safe ws) (i : Nat) (hi : i < n) (vp : Value) (l : List UInt8) (hl : l.length ≤ 32)
    (hr : Rd w vp l) (hws : ws.length ≤ 1000000) (hB : B ≤ w.heap.size) :
    Calls Try.prog 58 #[.pointer (some ⟨q, 0, none⟩), .int .i64 i, vp] w fun e w' => e = .returned (.int .i64 0) ∧ ∃ v', Rf w' B q vs v' n safe (ws ++ [(i, l)]) ∧ Fr B rts w w' := by
  obtain ⟨a, c, rfl, hc, _, _⟩ := id hr
  obtain ⟨as0, cs0, hvs⟩ := R.hs.shape
  obtain ⟨xs, hx, hwq⟩ := R.hw
  obtain ⟨aw, cw, hvw⟩ := ownsRow_shape hx
  subst hvs; subst hvw
  have c0 := R.cell0
  rw [R.ls] at c0
  have hq : ((32 * n : Nat) : Int) / 32 = (n : Int) := quo_len
  have hwn := wrap_len R.n12
  have c1 : w.drew.cell? ⟨q, 1, none⟩ = some (.slice aw ws.length cw) := R.cell1
  have Hx := Lib.hid hx; have Hwq := Lib.hid hwq; have Hr := Lib.hid hr; have HR := Lib.hid R
  clear hx hwq hr R
  obtain ⟨i0, hi0, hz0, hz1, hzb⟩ := info_parts Try.infoQ
  go_enter Try.func58, Try.ntmps58
  go_wp2_with fail
  refine wp_region_held_drew (S := fun _ => True) (by kernel_rfl) trivial (fun hHeld => ?_)
  refine wpAnyH_take (i := 0) (oi := _) (v := .pointer (some ⟨q, 0, none⟩)) rfl (by kernel_rfl) (by kernel_rfl) (by kernel_rfl) (fun _ _ _ h => h) (Or.inl ⟨by rfl, fun w hSw => by go_simp⟩) hHeld ?_
  refine wpAnyH_take (i := 1) (oi := _) (v := .pointer (some ⟨q, 0, none⟩)) rfl (by kernel_rfl) (by kernel_rfl) (by kernel_rfl) (fun _ _ _ h => h) (Or.inl ⟨by rfl, fun w hSw => by go_simp⟩) hHeld ?_
  refine wpAnyH_take (i := 2) (oi := _) (v := .pointer (some ⟨q, 0, none⟩)) rfl (by kernel_rfl) (by kernel_rfl) (by kernel_rfl) (fun _ _ _ h => h) (Or.inl ⟨by rfl, fun w hSw => by go_simp⟩) hHeld ?_
  refine wpAnyH_take (i := 3) (oi := _) (v := .pointer (some ⟨q, 1, none⟩)) rfl (by kernel_rfl) (by kernel_rfl) (by kernel_rfl) (fun _ _ _ h => h) (Or.inl ⟨by rfl, fun w hSw => by go_simp⟩) hHeld ?_
  refine wpAnyH_take (i := 5) (oi := _) (v := .int .i64 i) rfl (by kernel_rfl) (by kernel_rfl) (by kernel_rfl) (fun _ _ _ h => h) (Or.inl ⟨by rfl, fun w hSw => by go_simp⟩) hHeld ?_
  refine wpAnyH_take (i := 6) (oi := _) (v := .slice a l.length c) rfl (by kernel_rfl) (by kernel_rfl) (by kernel_rfl) (fun _ _ _ h => h) (Or.inl ⟨by rfl, fun w hSw => by go_simp⟩) hHeld ?_
  refine wpAnyH_ready (rs := [4, 7]) (by kernel_rfl) (by simp) ?_
  refine AllReadyH.cons (o := _) rfl (fun K hK => ?wayA) (AllReadyH.cons (o := _) rfl (fun K hK => ?wayB) AllReadyH.nil)
  case wayA =>
    go_simp
    refine hK.out _ _ trivial (fun hHeld => ?_)
    clear hK K
    refine wpAnyH_ready (rs := [7]) (by kernel_rfl) (by simp) ?_
    refine AllReadyH.cons (o := _) rfl (fun K hK => ?_) AllReadyH.nil
    go_simp
    refine (join_any _ (.slice none 0 0) l [] w.drew (Hr.out.kept (Kept.refl w []).drew (by simp)) (Rd.nil _) (by omega) (by decide)).mono ?_
    rintro e w1 ⟨pv, rfl, ho, hk⟩
    rw [List.append_nil] at ho
    obtain ⟨ap, cp, hvp⟩ := ho.shape
    subst hvp
    obtain ⟨wB, hwB⟩ : ∃ wB, wB = w1.alloc (.cells #[.int .i64 i, .slice ap l.length cp] 108) := ⟨_, rfl⟩
    have hk1 : Kept w w1 [] := ((Kept.refl w []).drew).trans hk (by simp)
    obtain ⟨kB, bB, xB, sB, c4, c5⟩ := rput_pre HR.out Hx.out hk1 hwB hB rfl
    have k1B : Kept w1 wB [] := by rw [hwB]; exact (Kept.refl w1 []).alloc _
    have KB := Lib.hid kB; have XB := Lib.hid xB; have SB := Lib.hid sB; have K1B := Lib.hid k1B; have Ho := Lib.hid ho; have K1 := Lib.hid hk1; have HwB := Lib.hid hwB
    clear kB xB sB k1B ho hk hk1 hwB
    dsimp only
    refine hK.out _ _ trivial (fun hHeld => ?_)
    clear hK K
    refine wpAnyH_take (i := 8) (oi := _) (v := .agg #[.int .i64 i, .slice ap l.length cp]) rfl (by kernel_rfl) (by kernel_rfl) (by kernel_rfl) (fun _ _ _ h => h) (Or.inl ⟨by rfl, fun w hSw => by go_simp⟩) hHeld ?_
    refine wpAnyH_ready (rs := [9]) (by kernel_rfl) (by simp) ?_
    refine AllReadyH.cons (o := _) rfl (fun K hK => ?_) AllReadyH.nil
    refine step_buildSlice_one _ rfl 50 (.tmp 32) rfl 108 i0 _ 2 Try.underlying50 hi0 hz0 hz1 (by decide) (by decide) [.int .i64 i, .slice ap l.length cp] rfl rfl ?_
    rw [← HwB.out]
    refine hK.out _ _ trivial (fun hHeld => ?_)
    clear hK K
    refine wpAnyH_ready (rs := [10]) (by kernel_rfl) (by simp) ?_
    refine AllReadyH.cons (o := _) rfl (fun K hK => ?_) AllReadyH.nil
    refine step_append_fr _ rfl (.tmp 28) (.tmp 33) 50 50 rfl B 108 i0 _ 2 32 Try.underlying50 hi0 hz0 hz1 hzb rfl (.slice aw ws.length cw) ws.length (qcells xs) rfl XB.out _ 1 [.int .i64 i, .slice ap l.length cp] rfl SB.out (by unfold maxLen; omega) (by omega) bB ?_
    intro v5 w5 ho5 hf5 _
    obtain ⟨⟨a5, n5, c5', rfl⟩, q5, f5, R6, F6⟩ := rput_end HR.out Hwq.out K1.out Ho.out K1B.out ho5 hf5 hi hl
    have R6 := Lib.hid R6; have F6 := Lib.hid F6
    clear ho5 hf5
    refine hK.out _ _ trivial (fun hHeld => ?_)
    clear hK K
    refine wpAnyH_take (i := 11) (oi := _) (v := .pointer (some ⟨q, 0, none⟩)) rfl (by kernel_rfl) (by kernel_rfl) (by kernel_rfl) (fun _ _ _ h => h) (Or.inl ⟨by rfl, fun w hSw => by go_simp⟩) hHeld ?_
    refine wpAnyH_take (i := 12) (oi := _) (v := .pointer (some ⟨q, 1, none⟩)) rfl (by kernel_rfl) (by kernel_rfl) (by kernel_rfl) (fun _ _ _ h => h) (Or.inl ⟨by rfl, fun w hSw => by go_simp⟩) hHeld ?_
    refine wpAnyH_ready (rs := [13]) (by kernel_rfl) (by simp) ?_
    refine AllReadyH.cons (o := _) rfl (fun K hK => ?_) AllReadyH.nil
    go_simp
    refine hK.out _ _ trivial (fun hHeld => ?_)
    clear hK K
    refine wpAnyH_done (by kernel_rfl) ?_ _
    go_wp2
    go_ret
    exact ⟨rfl, _, R6.out, F6.out⟩
  case wayB =>
    go_simp
    refine (join_any _ (.slice none 0 0) l [] w.drew (Hr.out.kept (Kept.refl w []).drew (by simp)) (Rd.nil _) (by omega) (by decide)).mono ?_
    rintro e w1 ⟨pv, rfl, ho, hk⟩
    rw [List.append_nil] at ho
    obtain ⟨ap, cp, hvp⟩ := ho.shape
    subst hvp
    obtain ⟨wB, hwB⟩ : ∃ wB, wB = w1.alloc (.cells #[.int .i64 i, .slice ap l.length cp] 108) := ⟨_, rfl⟩
    have hk1 : Kept w w1 [] := ((Kept.refl w []).drew).trans hk (by simp)
    obtain ⟨kB, bB, xB, sB, c4, c5⟩ := rput_pre HR.out Hx.out hk1 hwB hB rfl
    have k1B : Kept w1 wB [] := by rw [hwB]; exact (Kept.refl w1 []).alloc _
    have KB := Lib.hid kB; have XB := Lib.hid xB; have SB := Lib.hid sB; have K1B := Lib.hid k1B; have Ho := Lib.hid ho; have K1 := Lib.hid hk1; have HwB := Lib.hid hwB
    clear kB xB sB k1B ho hk hk1 hwB
    dsimp only
    refine hK.out _ _ trivial (fun hHeld => ?_)
    clear hK K
    refine wpAnyH_take (i := 8) (oi := _) (v := .agg #[.int .i64 i, .slice ap l.length cp]) rfl (by kernel_rfl) (by kernel_rfl) (by kernel_rfl) (fun _ _ _ h => h) (Or.inl ⟨by rfl, fun w hSw => by go_simp⟩) hHeld ?_
    refine wpAnyH_ready (rs := [4, 9]) (by kernel_rfl) (by simp) ?_
    refine AllReadyH.cons (o := _) rfl (fun K hK => ?_) (AllReadyH.cons (o := _) rfl (fun K hK => ?_) AllReadyH.nil)
    · go_simp
      refine hK.out _ _ trivial (fun hHeld => ?_)
      clear hK K
      refine wpAnyH_ready (rs := [9]) (by kernel_rfl) (by simp) ?_
      refine AllReadyH.cons (o := _) rfl (fun K hK => ?_) AllReadyH.nil
      refine step_buildSlice_one _ rfl 50 (.tmp 32) rfl 108 i0 _ 2 Try.underlying50 hi0 hz0 hz1 (by decide) (by decide) [.int .i64 i, .slice ap l.length cp] rfl rfl ?_
      rw [← HwB.out]
      refine hK.out _ _ trivial (fun hHeld => ?_)
      clear hK K
      refine wpAnyH_ready (rs := [10]) (by kernel_rfl) (by simp) ?_
      refine AllReadyH.cons (o := _) rfl (fun K hK => ?_) AllReadyH.nil
      refine step_append_fr _ rfl (.tmp 28) (.tmp 33) 50 50 rfl B 108 i0 _ 2 32 Try.underlying50 hi0 hz0 hz1 hzb rfl (.slice aw ws.length cw) ws.length (qcells xs) rfl XB.out _ 1 [.int .i64 i, .slice ap l.length cp] rfl SB.out (by unfold maxLen; omega) (by omega) bB ?_
      intro v5 w5 ho5 hf5 _
      obtain ⟨⟨a5, n5, c5', rfl⟩, q5, f5, R6, F6⟩ := rput_end HR.out Hwq.out K1.out Ho.out K1B.out ho5 hf5 hi hl
      have R6 := Lib.hid R6; have F6 := Lib.hid F6
      clear ho5 hf5
      refine hK.out _ _ trivial (fun hHeld => ?_)
      clear hK K
      refine wpAnyH_take (i := 11) (oi := _) (v := .pointer (some ⟨q, 0, none⟩)) rfl (by kernel_rfl) (by kernel_rfl) (by kernel_rfl) (fun _ _ _ h => h) (Or.inl ⟨by rfl, fun w hSw => by go_simp⟩) hHeld ?_
      refine wpAnyH_take (i := 12) (oi := _) (v := .pointer (some ⟨q, 1, none⟩)) rfl (by kernel_rfl) (by kernel_rfl) (by kernel_rfl) (fun _ _ _ h => h) (Or.inl ⟨by rfl, fun w hSw => by go_simp⟩) hHeld ?_
      refine wpAnyH_ready (rs := [13]) (by kernel_rfl) (by simp) ?_
      refine AllReadyH.cons (o := _) rfl (fun K hK => ?_) AllReadyH.nil
      go_simp
      refine hK.out _ _ trivial (fun hHeld => ?_)
      clear hK K
      refine wpAnyH_done (by kernel_rfl) ?_ _
      go_wp2
      go_ret
      exact ⟨rfl, _, R6.out, F6.out⟩
    · refine step_buildSlice_one _ rfl 50 (.tmp 32) rfl 108 i0 _ 2 Try.underlying50 hi0 hz0 hz1 (by decide) (by decide) [.int .i64 i, .slice ap l.length cp] rfl rfl ?_
      rw [← HwB.out]
      refine hK.out _ _ trivial (fun hHeld => ?_)
      clear hK K
      refine wpAnyH_ready (rs := [4]) (by kernel_rfl) (by simp) ?_
      refine AllReadyH.cons (o := _) rfl (fun K hK => ?_) AllReadyH.nil
      go_simp
      refine hK.out _ _ trivial (fun hHeld => ?_)
      clear hK K
      refine wpAnyH_ready (rs := [10]) (by kernel_rfl) (by simp) ?_
      refine AllReadyH.cons (o := _) rfl (fun K hK => ?_) AllReadyH.nil
      refine step_append_fr _ rfl (.tmp 28) (.tmp 33) 50 50 rfl B 108 i0 _ 2 32 Try.underlying50 hi0 hz0 hz1 hzb rfl (.slice aw ws.length cw) ws.length (qcells xs) rfl XB.out _ 1 [.int .i64 i, .slice ap l.length cp] rfl SB.out (by unfold maxLen; omega) (by omega) bB ?_
      intro v5 w5 ho5 hf5 _
      obtain ⟨⟨a5, n5, c5', rfl⟩, q5, f5, R6, F6⟩ := rput_end HR.out Hwq.out K1.out Ho.out K1B.out ho5 hf5 hi hl
      have R6 := Lib.hid R6; have F6 := Lib.hid F6
      clear ho5 hf5
      refine hK.out _ _ trivial (fun hHeld => ?_)
      clear hK K
      refine wpAnyH_take (i := 11) (oi := _) (v := .pointer (some ⟨q, 0, none⟩)) rfl (by kernel_rfl) (by kernel_rfl) (by kernel_rfl) (fun _ _ _ h => h) (Or.inl ⟨by rfl, fun w hSw => by go_simp⟩) hHeld ?_
      refine wpAnyH_take (i := 12) (oi := _) (v := .pointer (some ⟨q, 1, none⟩)) rfl (by kernel_rfl) (by kernel_rfl) (by kernel_rfl) (fun _ _ _ h => h) (Or.inl ⟨by rfl, fun w hSw => by go_simp⟩) hHeld ?_
      refine wpAnyH_ready (rs := [13]) (by kernel_rfl) (by simp) ?_
      refine AllReadyH.cons (o := _) rfl (fun K hK => ?_) AllReadyH.nil
      go_simp
      refine hK.out _ _ trivial (fun hHeld => ?_)
      clear hK K
      refine wpAnyH_done (by kernel_rfl) ?_ _
      go_wp2
      go_ret
      exact ⟨rfl, _, R6.out, F6.out⟩

end Go.Proofs.Ytfhdblbiamdplaa
