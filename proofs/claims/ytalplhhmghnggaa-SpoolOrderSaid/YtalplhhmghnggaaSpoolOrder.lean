/-
  Proved: whatever the arguments are, carrierlaw10.SpoolOrder answers true and leaves its arguments as they were. No condition.
-/
import Derived.Test.YtalplhhmghnggaaSpj
import Derived.Deep.DeepCutAuto
import Derived.BigQuiet
namespace Go.Proofs.Ytalplhhmghnggaa.spoolOrder
open Go.ChangeShapes Go.WideShapes Go.ChangeAt Go.RowKit
set_option linter.unusedVariables false

theorem own : ownKnob Try.prog.godebug = none := by kernel_rfl
theorem laidOut : laidOutB Try.prog = true := by kernel_rfl

/-- What comes, one by one. -/
def evO (f : Nat → ActD) (j : Nat) : Ev := ⟨(f j).id, 0, ⟨#[]⟩, 0, (j : Int), 0, 0, ⟨#[]⟩⟩
def seqO (f : Nat → ActD) (i : Nat) : List (Nat × Ev) := (List.range i).map fun j : Nat => ((f j).d % 3, evO f j)
theorem seqO_succ (f : Nat → ActD) (i : Nat) : seqO f (i + 1) = seqO f i ++ [((f i).d % 3, evO f i)] := by simp [seqO, List.range_succ]
theorem seqO_length (f : Nat → ActD) (i : Nat) : (seqO f i).length = i := by simp [seqO]
theorem seqO_lt (f : Nat → ActD) (i : Nat) : ∀ p ∈ seqO f i, p.1 < 3 := by
  intro p hp
  simp only [seqO, List.mem_map] at hp
  obtain ⟨j, _, rfl⟩ := hp
  exact Nat.mod_lt _ (by omega)
theorem tabs_range (f : Nat → ActD) (n i : Nat) : tabs (seqO f n) i = ((List.range n).filter fun j => (f j).d % 3 == i).map (evO f) := by
  unfold tabs seqO
  rw [List.filter_map, List.map_map]
  rfl
/-- Who stands ahead, of like numbers. -/
def ahead (f : Nat → ActD) (a b : Ev) : Prop := (f a.tb.toNat).d % 3 < (f b.tb.toNat).d % 3 ∨ ((f a.tb.toNat).d % 3 = (f b.tb.toNat).d % 3 ∧ a.tb < b.tb)
theorem in_tab {f : Nat → ActD} {n i : Nat} {e : Ev} (h : e ∈ tabs (seqO f n) i) : (f e.tb.toNat).d % 3 = i ∧ ∃ j, j < n ∧ e = evO f j := by
  rw [tabs_range] at h
  simp only [List.mem_map, List.mem_filter, List.mem_range, beq_iff_eq] at h
  obtain ⟨j, ⟨h1, h2⟩, rfl⟩ := h
  exact ⟨h2, j, h1, rfl⟩
theorem one_tab (f : Nat → ActD) (n i : Nat) : (tabs (seqO f n) i).Pairwise (ahead f) := by
  have h1 : (tabs (seqO f n) i).Pairwise (fun a b : Ev => a.tb < b.tb) := by
    rw [tabs_range, List.pairwise_map]
    have := (List.pairwise_lt_range (n := n)).filter (fun j => (f j).d % 3 == i)
    exact this.imp (fun h => by simp only [evO]; omega)
  refine List.Pairwise.imp_of_mem ?_ h1
  intro a b ha hb h
  exact .inr ⟨(in_tab ha).1.trans (in_tab hb).1.symm, h⟩
theorem all_tabs (f : Nat → ActD) (n : Nat) : (pre (tabs (seqO f n)) 3).Pairwise (ahead f) := by
  simp only [pre, List.nil_append]
  refine List.pairwise_append.2 ⟨List.pairwise_append.2 ⟨one_tab f n 0, one_tab f n 1, fun a ha b hb => ?_⟩, one_tab f n 2, fun a ha b hb => ?_⟩
  · exact .inl (by rw [(in_tab ha).1, (in_tab hb).1]; omega)
  · rcases List.mem_append.1 ha with ha | ha
    · exact .inl (by rw [(in_tab ha).1, (in_tab hb).1]; omega)
    · exact .inl (by rw [(in_tab ha).1, (in_tab hb).1]; omega)
theorem order_adj {f : Nat → ActD} {n j : Nat} {a b : Ev} (ha : (srt byId (pre (tabs (seqO f n)) 3))[j]? = some a) (hb : (srt byId (pre (tabs (seqO f n)) 3))[j + 1]? = some b) :
    ∃ ta tb : Nat, a.tb = ta ∧ b.tb = tb ∧ ta < n ∧ tb < n ∧ (a.id < b.id ∨ a.id = b.id ∧ ((f ta).d % 3 < (f tb).d % 3 ∨ ((f ta).d % 3 = (f tb).d % 3 ∧ ta < tb))) := by
  have m1 := List.mem_of_getElem? ha
  have m2 := List.mem_of_getElem? hb
  rw [mem_all] at m1 m2
  obtain ⟨i1, _, m1⟩ := m1
  obtain ⟨i2, _, m2⟩ := m2
  obtain ⟨_, ta, l1, e1⟩ := in_tab m1
  obtain ⟨_, tb, l2, e2⟩ := in_tab m2
  have t1 : a.tb = ta := by rw [e1]; rfl
  have t2 : b.tb = tb := by rw [e2]; rfl
  refine ⟨ta, tb, t1, t2, l1, l2, ?_⟩
  obtain ⟨hj, g1⟩ := List.getElem?_eq_some_iff.1 ha
  obtain ⟨hj2, g2⟩ := List.getElem?_eq_some_iff.1 hb
  have hsub : [a, b].Sublist (srt byId (pre (tabs (seqO f n)) 3)) := by
    have := List.drop_sublist j (srt byId (pre (tabs (seqO f n)) 3))
    rw [List.drop_eq_getElem_cons hj, List.drop_eq_getElem_cons hj2, g1, g2] at this
    exact List.Sublist.trans (List.Sublist.cons_cons _ (List.Sublist.cons_cons _ (List.nil_sublist _))) this
  have hle : a.id ≤ b.id := by
    have := List.pairwise_iff_forall_sublist.1 (srt_sorted tot_byId (pre (tabs (seqO f n)) 3)) hsub
    simpa [byId] using this
  by_cases he : a.id = b.id
  · right
    refine ⟨he, ?_⟩
    have hf := hsub.filter (eqv byId a)
    rw [srt_stab tot_byId (pre (tabs (seqO f n)) 3) a] at hf
    have e3 : [a, b].filter (eqv byId a) = [a, b] := by simp [eqv, byId, he]
    rw [e3] at hf
    have := List.pairwise_iff_forall_sublist.1 (all_tabs f n) (hf.trans List.filter_sublist)
    unfold ahead at this
    rw [t1, t2] at this
    simpa using this
  · left; omega

/-- Eight cells of a block are written. -/
def set8 (w : World) (g : Nat) (u0 u1 u2 u3 u4 u5 u6 u7 : Value) : World := (((((((w.setCell ⟨g, 0, none⟩ u0).setCell ⟨g, 1, none⟩ u1).setCell ⟨g, 2, none⟩ u2).setCell ⟨g, 3, none⟩ u3).setCell ⟨g, 4, none⟩ u4).setCell ⟨g, 5, none⟩ u5).setCell ⟨g, 6, none⟩ u6).setCell ⟨g, 7, none⟩ u7
theorem set8_kept {a w : World} (h : Kept a w []) {g : Nat} (hg : a.heap.size ≤ g) (u0 u1 u2 u3 u4 u5 u6 u7 : Value) : Kept a (set8 w g u0 u1 u2 u3 u4 u5 u6 u7) [] :=
  (((((((h.setCell (p := ⟨g, 0, none⟩) (.inr hg) u0).setCell (p := ⟨g, 1, none⟩) (.inr hg) u1).setCell (p := ⟨g, 2, none⟩) (.inr hg) u2).setCell (p := ⟨g, 3, none⟩) (.inr hg) u3).setCell (p := ⟨g, 4, none⟩) (.inr hg) u4).setCell (p := ⟨g, 5, none⟩) (.inr hg) u5).setCell (p := ⟨g, 6, none⟩) (.inr hg) u6).setCell (p := ⟨g, 7, none⟩) (.inr hg) u7
theorem set8_far {w : World} {g k : Nat} (h : k ≠ g) (u0 u1 u2 u3 u4 u5 u6 u7 : Value) {o : Obj} (ho : w.heap[k]? = some o) : (set8 w g u0 u1 u2 u3 u4 u5 u6 u7).heap[k]? = some o := by
  have f : Fo (fun k => k = g) w (set8 w g u0 u1 u2 u3 u4 u5 u6 u7) := Fo.set8 (O := fun k => k = g) (Fo.refl _ w) (g := g) rfl 0 u0 u1 u2 u3 u4 u5 u6 u7
  exact f.heap h ho
theorem set8_at {w : World} {g : Nat} {z0 z1 z2 z3 z4 z5 z6 z7 : Value} {T : TypeId} (h : w.heap[g]? = some (.cells #[z0, z1, z2, z3, z4, z5, z6, z7] T (0, 0))) (u0 u1 u2 u3 u4 u5 u6 u7 : Value) : (set8 w g u0 u1 u2 u3 u4 u5 u6 u7).heap[g]? = some (.cells #[u0, u1, u2, u3, u4, u5, u6, u7] T (0, 0)) :=
  by
  unfold set8
  rw [heap_setCell_at (heap_setCell_at (heap_setCell_at (heap_setCell_at (heap_setCell_at (heap_setCell_at (heap_setCell_at (heap_setCell_at h 0 u0) 1 u1) 2 u2) 3 u3) 4 u4) 5 u5) 6 u6) 7 u7]
  simp only [List.setIfInBounds_toArray, List.set_cons_zero, List.set_cons_succ]
theorem ev_frozen {w : World} {g : Nat} {cs : Array Value} {T : TypeId} (h : w.heap[g]? = some (.cells cs T (0, 0))) : w.frozen? ⟨g, 0, none⟩ = false ∧ w.frozen? ⟨g, 1, none⟩ = false ∧ w.frozen? ⟨g, 2, none⟩ = false ∧ w.frozen? ⟨g, 3, none⟩ = false ∧ w.frozen? ⟨g, 4, none⟩ = false ∧ w.frozen? ⟨g, 5, none⟩ = false ∧ w.frozen? ⟨g, 6, none⟩ = false ∧ w.frozen? ⟨g, 7, none⟩ = false :=
  ⟨frozen_of_row _ _ _ _ _ h, frozen_of_row _ _ _ _ _ h, frozen_of_row _ _ _ _ _ h, frozen_of_row _ _ _ _ _ h, frozen_of_row _ _ _ _ _ h, frozen_of_row _ _ _ _ _ h, frozen_of_row _ _ _ _ _ h, frozen_of_row _ _ _ _ _ h⟩
abbrev zE8 : Obj := .cells #[.int .i64 0, .int .i64 0, .string ⟨#[]⟩, .int .i64 0, .int .i64 0, .int .u8 0, .int .i64 0, .string ⟨#[]⟩] 36

set_option maxHeartbeats 8000000 in
set_option maxRecDepth 100000 in
theorem walk (a0 : Option Addr) (len cap : Nat) (f : Nat → ActD) (W : World) (w0 : IsActs W W.heap.size a0 len f ∧ len ≤ maxLen) :
    Calls Try.prog 5 #[.slice a0 len cap] W fun e w' => e = .returned (.bool true) ∧ Below W.heap.size W w' := by
  have HA := Lib.hid w0.1
  have hlm : len ≤ 9223372036854775807 := by have := w0.2; unfold maxLen at this; omega
  clear w0
  by_cases h60 : 60 < len
  · have x0 : (60 : Int) < (len : Int) := by omega
    go_enter Try.func5, Try.ntmps5
    go_wp2_with fail
    refine (turns_any W).mono ?_
    rintro e w1 ⟨rfl, k1⟩
    have K1 := Lib.hid k1; clear k1
    go_wp2_with fail
    refine (turns_any w1).mono ?_
    rintro e w2 ⟨rfl, k2⟩
    have K2 := Lib.hid (K1.out.trans k2 (by simp)); clear k2
    go_wp2
    go_ret
    exact ⟨rfl, K2.out.below (Nat.le_refl _) (by simp)⟩
  · have x0 : ¬ (60 : Int) < (len : Int) := by omega
    go_enter Try.func5, Try.ntmps5
    go_wp2_with fail
    refine (turns_any W).mono ?_
    rintro e w1 ⟨rfl, k1⟩
    have K1 := Lib.hid k1; clear k1
    go_wp2_with fail
    refine (new_any w1).mono ?_
    rintro e w2 ⟨h, rfl, a2, k2⟩
    have K2 := Lib.hid (K1.out.trans k2 (by simp))
    have HB : RowKit.Hid (W.heap.size ≤ w1.heap.size) := Lib.hid K1.out.size
    have A2 := Lib.hid (show Sp spT w2 w1.heap.size h noV (tabs (seqO f 0)) 0 from a2)
    clear a2 k2
    go_wp2
    go_loopg [4] len (fun kx s4 wr => ∃ (i : Nat) (V : Nat → Value), s4 = .int .i64 i ∧ i ≤ len ∧ len - i ≤ kx ∧ RowKit.Hid (Sp spT wr w1.heap.size h V (tabs (seqO f i)) 0 ∧ Dst V ∧ Kept W wr []))
    case atStart => exact ⟨0, noV, rfl, by omega, by omega, A2.out, dst_no, K2.out⟩
    case round =>
      clear A2 K2
      obtain ⟨i, V, rfl, hik, hkx, HS⟩ := hrel
      obtain ⟨p1, p2, p3⟩ := HS.out
      by_cases hlt : i < len
      · have x1 : (i : Int) < (len : Int) := by omega
        obtain ⟨bb, oo, rfl, hbb, hact⟩ := HA.out (by omega)
        have ac := (hact i hlt).kept p3 (by simp)
        have ad := ac.kept (Kept.refl wr []).drew (by simp)
        have hact' := Lib.hid (hact i hlt)
        obtain ⟨t, ht⟩ : ∃ t, t = (f i).d % 3 := ⟨_, rfl⟩
        have hc := addto_any (p1.keep (Kept.refl wr []).drew) p2 t (by omega) (by have := tabs_le (seqO f i) t; rw [seqO_length] at this; omega) (evO f i)
        rw [ht, tabs_snoc, ← seqO_succ, ← ht] at hc
        obtain ⟨D, hD⟩ : ∃ D, D = (f i).d := ⟨_, rfl⟩
        obtain ⟨ID, hID⟩ : ∃ ID, ID = (f i).id := ⟨_, rfl⟩
        have hev : (evO f i).cs = #[.int .i64 ID, .int .i64 0, .string ⟨#[]⟩, .int .i64 0, .int .i64 (i : Int), .int .u8 0, .int .i64 0, .string ⟨#[]⟩] := by rw [hID]; rfl
        rw [hev] at hc
        have c0 := ad.c0; have c2 := ad.c2
        rw [← hD] at c0 ht
        rw [← hID] at c2
        have HD := Lib.hid hD; have HID := Lib.hid hID
        have d3 : (D : Int).tmod 3 = t := by rw [Int.tmod_eq_emod_of_nonneg (by omega)]; omega
        have d3' : (D : Int) % 3 = t := by omega
        have ht3 : t < 3 := by omega
        have mt : IntKind.i64.wrap (t : Int) = t := by rw [IntKind.wrap_i64]; omega
        have HC := Lib.hid hc; have P1 := Lib.hid p1; have P3 := Lib.hid p3
        have S1 := Lib.hid (And.intro c0 c2)
        clear p1 p2 p3 hc hev HS hact ac ad hD hID ht c0 c2
        go_wp2_with fail
        refine wp_region_held_drew (S := fun V => V.cell? ⟨bb, oo + i * 5, none⟩ = some (.int .u8 D) ∧ V.cell? ⟨bb, oo + i * 5 + 2, none⟩ = some (.int .i64 ID)) (by kernel_rfl) S1.out (fun hHeld => ?_)
        refine wpAnyH_take (i := 0) (oi := _) (v := .pointer (some ⟨h, 0, none⟩)) rfl (by kernel_rfl) (by kernel_rfl) (by kernel_rfl) (fun _ _ _ h => h) (Or.inl ⟨by rfl, fun V hV => by go_simp⟩) hHeld ?_
        change wpAnyH _ _ _ _ _ _ _ (Act.put _ (some 24) _) _
        simp only [Act.put, List.setIfInBounds_toArray, List.set_cons_zero, List.set_cons_succ]
        refine wpAnyH_take (i := 1) (oi := _) (v := .slice (some ⟨bb, oo, none⟩) len cap) rfl (by kernel_rfl) (by kernel_rfl) (by kernel_rfl) (fun _ _ _ h => h) (Or.inl ⟨by rfl, fun V hV => by go_simp⟩) hHeld ?_
        change wpAnyH _ _ _ _ _ _ _ (Act.put _ (some 25) _) _
        simp only [Act.put, List.setIfInBounds_toArray, List.set_cons_zero, List.set_cons_succ]
        refine wpAnyH_take (i := 2) (oi := _) (v := .int .i64 i) rfl (by kernel_rfl) (by kernel_rfl) (by kernel_rfl) (fun _ _ _ h => h) (Or.inl ⟨by rfl, fun V hV => by go_simp⟩) hHeld ?_
        change wpAnyH _ _ _ _ _ _ _ (Act.put _ (some 26) _) _
        simp only [Act.put, List.setIfInBounds_toArray, List.set_cons_zero, List.set_cons_succ]
        refine wpAnyH_take (i := 3) (oi := _) (v := .pointer (some ⟨bb, oo + i * 5, none⟩)) rfl (by kernel_rfl) (by kernel_rfl) (by kernel_rfl) (fun _ _ _ h => h) (Or.inl ⟨by rfl, fun V hV => by go_simp⟩) hHeld ?_
        change wpAnyH _ _ _ _ _ _ _ (Act.put _ (some 27) _) _
        simp only [Act.put, List.setIfInBounds_toArray, List.set_cons_zero, List.set_cons_succ]
        refine wpAnyH_take (i := 4) (oi := _) (v := .pointer (some ⟨bb, oo + i * 5, none⟩)) rfl (by kernel_rfl) (by kernel_rfl) (by kernel_rfl) (fun _ _ _ h => h) (Or.inl ⟨by rfl, fun V hV => by go_simp⟩) hHeld ?_
        change wpAnyH _ _ _ _ _ _ _ (Act.put _ (some 28) _) _
        simp only [Act.put, List.setIfInBounds_toArray, List.set_cons_zero, List.set_cons_succ]
        refine wpAnyH_take (i := 5) (oi := _) (v := .int .u8 D) rfl (by kernel_rfl) (by kernel_rfl) (by kernel_rfl) (fun _ _ _ h => h) (Or.inl ⟨by rfl, fun V hV => by (obtain ⟨s0, s3⟩ := hV; go_simp)⟩) hHeld ?_
        change wpAnyH _ _ _ _ _ _ _ (Act.put _ (some 29) _) _
        simp only [Act.put, List.setIfInBounds_toArray, List.set_cons_zero, List.set_cons_succ]
        refine wpAnyH_take (i := 6) (oi := _) (v := .int .u8 t) rfl (by kernel_rfl) (by kernel_rfl) (by kernel_rfl) (fun _ _ _ h => h) (Or.inl ⟨by rfl, fun V hV => by go_simp⟩) hHeld ?_
        change wpAnyH _ _ _ _ _ _ _ (Act.put _ (some 30) _) _
        simp only [Act.put, List.setIfInBounds_toArray, List.set_cons_zero, List.set_cons_succ]
        refine wpAnyH_take (i := 7) (oi := _) (v := .int .i64 t) rfl (by kernel_rfl) (by kernel_rfl) (by kernel_rfl) (fun _ _ _ h => h) (Or.inl ⟨by rfl, fun V hV => by go_simp⟩) hHeld ?_
        change wpAnyH _ _ _ _ _ _ _ (Act.put _ (some 31) _) _
        simp only [Act.put, List.setIfInBounds_toArray, List.set_cons_zero, List.set_cons_succ]
        refine wpAnyH_take (i := 8) (oi := _) (v := .slice (some ⟨bb, oo, none⟩) len cap) rfl (by kernel_rfl) (by kernel_rfl) (by kernel_rfl) (fun _ _ _ h => h) (Or.inl ⟨by rfl, fun V hV => by go_simp⟩) hHeld ?_
        change wpAnyH _ _ _ _ _ _ _ (Act.put _ (some 32) _) _
        simp only [Act.put, List.setIfInBounds_toArray, List.set_cons_zero, List.set_cons_succ]
        refine wpAnyH_take (i := 9) (oi := _) (v := .int .i64 i) rfl (by kernel_rfl) (by kernel_rfl) (by kernel_rfl) (fun _ _ _ h => h) (Or.inl ⟨by rfl, fun V hV => by go_simp⟩) hHeld ?_
        change wpAnyH _ _ _ _ _ _ _ (Act.put _ (some 33) _) _
        simp only [Act.put, List.setIfInBounds_toArray, List.set_cons_zero, List.set_cons_succ]
        refine wpAnyH_take (i := 10) (oi := _) (v := .pointer (some ⟨bb, oo + i * 5, none⟩)) rfl (by kernel_rfl) (by kernel_rfl) (by kernel_rfl) (fun _ _ _ h => h) (Or.inl ⟨by rfl, fun V hV => by go_simp⟩) hHeld ?_
        change wpAnyH _ _ _ _ _ _ _ (Act.put _ (some 34) _) _
        simp only [Act.put, List.setIfInBounds_toArray, List.set_cons_zero, List.set_cons_succ]
        refine wpAnyH_take (i := 11) (oi := _) (v := .pointer (some ⟨bb, oo + i * 5 + 2, none⟩)) rfl (by kernel_rfl) (by kernel_rfl) (by kernel_rfl) (fun _ _ _ h => h) (Or.inl ⟨by rfl, fun V hV => by go_simp⟩) hHeld ?_
        change wpAnyH _ _ _ _ _ _ _ (Act.put _ (some 35) _) _
        simp only [Act.put, List.setIfInBounds_toArray, List.set_cons_zero, List.set_cons_succ]
        refine wpAnyH_take (i := 12) (oi := _) (v := .int .i64 ID) rfl (by kernel_rfl) (by kernel_rfl) (by kernel_rfl) (fun _ _ _ h => h) (Or.inl ⟨by rfl, fun V hV => by (obtain ⟨s0, s3⟩ := hV; go_simp)⟩) hHeld ?_
        change wpAnyH _ _ _ _ _ _ _ (Act.put _ (some 36) _) _
        simp only [Act.put, List.setIfInBounds_toArray, List.set_cons_zero, List.set_cons_succ]
        refine wpAnyH_take (i := 13) (oi := _) (v := .int .i64 i) rfl (by kernel_rfl) (by kernel_rfl) (by kernel_rfl) (fun _ _ _ h => h) (Or.inl ⟨by rfl, fun V hV => by go_simp⟩) hHeld ?_
        change wpAnyH _ _ _ _ _ _ _ (Act.put _ (some 37) _) _
        simp only [Act.put, List.setIfInBounds_toArray, List.set_cons_zero, List.set_cons_succ]
        refine wpAnyH_take (i := 14) (oi := _) (v := .agg #[.int .i64 ID, .int .i64 0, .string ⟨#[]⟩, .int .i64 0, .int .i64 (i : Int), .int .u8 0, .int .i64 0, .string ⟨#[]⟩]) rfl (by kernel_rfl) (by kernel_rfl) (by kernel_rfl) (fun _ _ _ h => h) (Or.inl ⟨by rfl, fun V hV => by go_simp⟩) hHeld ?_
        change wpAnyH _ _ _ _ _ _ _ (Act.put _ (some 38) _) _
        simp only [Act.put, List.setIfInBounds_toArray, List.set_cons_zero, List.set_cons_succ]
        refine wpAnyH_ready (rs := [15]) (by kernel_rfl) (by simp) ?_
        refine AllReadyH.cons (o := _) rfl (fun K hK => ?_) AllReadyH.nil
        go_simp
        go_at_call 13
        refine HC.out.mono ?_
        rintro e w3 ⟨rfl, V3, q1, q2, q3⟩
        have K3 := Lib.hid (P3.out.drew.sp (P1.out.keep (Kept.refl wr []).drew) HB.out q3)
        have Q := Lib.hid (And.intro q1 q2)
        have z0 := (hact'.out.kept K3.out (by simp))
        have S3 := Lib.hid (show w3.cell? ⟨bb, oo + i * 5, none⟩ = some (.int .u8 D) ∧ w3.cell? ⟨bb, oo + i * 5 + 2, none⟩ = some (.int .i64 ID) from ⟨by rw [HD.out]; exact z0.c0, by rw [HID.out]; exact z0.c2⟩)
        clear q1 q2 q3 z0
        go_wp2_with fail
        refine hK.out _ _ S3.out (fun hHeld => ?_)
        clear hK K
        refine wpAnyH_done (by kernel_rfl) ?_ _
        go_wp2
        go_roundg (len - (i + 1))
        case measure => omega
        case rel => exact ⟨i + 1, _, by go_num, by omega, by omega, Q.out.1, Q.out.2, K3.out⟩
      · have x1 : ¬ (i : Int) < (len : Int) := by omega
        obtain rfl : i = len := by omega
        have LT : RowKit.Hid (∀ j, j < 3 → (tabs (seqO f i) j).length < 1000000) := Lib.hid (fun j hj => by
          have := tabs_le (seqO f i) j
          rw [seqO_length] at this
          omega)
        have hc := all_any p1 LT.out
        have HC1 := Lib.hid hc; have P1 := Lib.hid p1; have P3 := Lib.hid p3
        clear p1 p2 p3 hc HS
        go_wp2_with fail
        refine HC1.out.mono ?_
        rintro e w4 ⟨v4, rfl, o4, k4⟩
        have K4 := Lib.hid (P3.out.trans k4 (by simp))
        have Q4 := Lib.hid (P1.out.keep k4)
        obtain ⟨u4, n4, e4⟩ := o4.shape
        obtain ⟨N, hN⟩ : ∃ N, N = (srt byId (pre (tabs (seqO f i)) 3)).length := ⟨_, rfl⟩
        rw [← hN] at e4
        rw [e4] at o4
        rw [e4]
        have HNl : RowKit.Hid (N = i) := Lib.hid (by rw [hN, srt_length, pre3_length, lenN_tabs _ (seqO_lt f i), seqO_length])
        have hNb : N ≤ 60 := by have := HNl.out; omega
        have O4 := Lib.hid o4; have HN := Lib.hid hN
        clear o4 k4 e4 hN
        go_wp2
        go_loopg [6, 7, 8] N (fun kx s6 _ _ w5 => ∃ j : Nat, s6 = .int .i64 (j + 1 : Nat) ∧ j ≤ N ∧ N - j ≤ kx ∧ RowKit.Hid (Kept w4 w5 []))
        case atStart => exact ⟨0, rfl, by omega, by omega, Kept.refl _ _⟩
        case round =>
          obtain ⟨j, rfl, hj, hkx2, HK⟩ := hrel
          by_cases hjl : j + 1 < N
          · have x2 : ((j + 1 : Nat) : Int) < (N : Int) := by omega
            have x2' : (j : Int) + 1 < (N : Int) := by omega
            obtain ⟨a, ha⟩ : ∃ r, (srt byId (pre (tabs (seqO f i)) 3))[j]? = some r := ⟨_, List.getElem?_eq_getElem (by rw [← HN.out]; omega)⟩
            obtain ⟨b, hb⟩ : ∃ r, (srt byId (pre (tabs (seqO f i)) 3))[j + 1]? = some r := ⟨_, List.getElem?_eq_getElem (by rw [← HN.out]; exact hjl)⟩
            obtain ⟨ta, tb, ea, eb, hta, htb, hord⟩ := order_adj ha hb
            obtain ⟨g, hg, _⟩ := O4.out.at j (by rw [← HN.out]; omega)
            subst hg
            have CA := Lib.hid (fun V (hV : Kept w4 V []) => (O4.out.kept hV (by simp)).eight ha)
            have CB := Lib.hid (fun V (hV : Kept w4 V []) => (O4.out.kept hV (by simp)).eight hb)
            obtain ⟨bb, oo, rfl, hbb, hact⟩ := HA.out (by omega)
            have TA := Lib.hid (hact ta hta); have TB := Lib.hid (hact tb htb)
            obtain ⟨Da, hDa⟩ : ∃ D, D = (f ta).d := ⟨_, rfl⟩
            obtain ⟨Db, hDb⟩ : ∃ D, D = (f tb).d := ⟨_, rfl⟩
            rw [← hDa, ← hDb] at hord
            have HDa := Lib.hid hDa; have HDb := Lib.hid hDb; have HO := Lib.hid hord
            obtain ⟨a1, a2, a3, a4, a5, a6, a7, a8⟩ := a
            obtain ⟨b1, b2, b3, b4, b5, b6, b7, b8⟩ := b
            simp only at ea eb
            subst ea eb
            have HT := Lib.hid (And.intro hta htb)
            clear ha hb hact hDa hDb hord hta htb
            go_upto_region 12 with fail
            go_cut [7, 8] (fun s7 s8 wx => ∃ pa pb, s7 = .pointer (some ⟨pa, 0, none⟩) ∧ s8 = .pointer (some ⟨pb, 0, none⟩) ∧ RowKit.Hid (Kept w4 wx []) ∧ wx.heap[pa]? = some (.cells #[.int .i64 a1, .int .i64 a2, .string a3, .int .i64 a4, .int .i64 ta, .int .u8 a6, .int .i64 a7, .string a8] 36 (0, 0)) ∧ wx.heap[pb]? = some (.cells #[.int .i64 b1, .int .i64 b2, .string b3, .int .i64 b4, .int .i64 tb, .int .u8 b6, .int .i64 b7, .string b8] 36 (0, 0)))
            case first =>
              have mj : IntKind.i64.wrap (((j : Int) + 1) - 1) = (j : Int) := by rw [IntKind.wrap_i64]; omega
              have mj2 : (j : Int) + 1 - 1 = (j : Int) := by omega
              have mj3 : (j : Int) < (N : Int) := by omega
              have mj4 : ¬ (j : Int) + 1 < 0 := by omega
              have mj5 : IntKind.i64.wrap (j : Int) = (j : Int) := by rw [IntKind.wrap_i64]; omega
              refine wp_region_held_drew (S := fun V => Kept w4 V []) (by kernel_rfl) HK.out.drew (fun hHeld => ?_)
              refine wpAnyH_take (i := 0) (oi := _) (v := .slice (some ⟨g, 0, none⟩) N n4) rfl (by kernel_rfl) (by kernel_rfl) (by kernel_rfl) (fun _ _ _ h => h) (Or.inl ⟨by rfl, fun V hV => by go_simp⟩) hHeld ?_
              change wpAnyH _ _ _ _ _ _ _ (Act.put _ (some 48) _) _
              simp only [Act.put, List.setIfInBounds_toArray, List.set_cons_zero, List.set_cons_succ]
              refine wpAnyH_take (i := 1) (oi := _) (v := .int .i64 ((j : Int) + 1)) rfl (by kernel_rfl) (by kernel_rfl) (by kernel_rfl) (fun _ _ _ h => h) (Or.inl ⟨by rfl, fun V hV => by go_simp⟩) hHeld ?_
              change wpAnyH _ _ _ _ _ _ _ (Act.put _ (some 49) _) _
              simp only [Act.put, List.setIfInBounds_toArray, List.set_cons_zero, List.set_cons_succ]
              refine wpAnyH_take (i := 2) (oi := _) (v := .int .i64 j) rfl (by kernel_rfl) (by kernel_rfl) (by kernel_rfl) (fun _ _ _ h => h) (Or.inl ⟨by rfl, fun V hV => by go_simp⟩) hHeld ?_
              change wpAnyH _ _ _ _ _ _ _ (Act.put _ (some 50) _) _
              simp only [Act.put, List.setIfInBounds_toArray, List.set_cons_zero, List.set_cons_succ]
              refine wpAnyH_take (i := 3) (oi := _) (v := .pointer (some ⟨g, j * 8, none⟩)) rfl (by kernel_rfl) (by kernel_rfl) (by kernel_rfl) (fun _ _ _ h => h) (Or.inl ⟨by rfl, fun V hV => by go_simp⟩) hHeld ?_
              change wpAnyH _ _ _ _ _ _ _ (Act.put _ (some 51) _) _
              simp only [Act.put, List.setIfInBounds_toArray, List.set_cons_zero, List.set_cons_succ]
              refine wpAnyH_take (i := 4) (oi := _) (v := .agg #[.int .i64 a1, .int .i64 a2, .string a3, .int .i64 a4, .int .i64 ta, .int .u8 a6, .int .i64 a7, .string a8]) rfl (by kernel_rfl) (by kernel_rfl) (by kernel_rfl) (fun _ _ _ h => h) (Or.inl ⟨by rfl, fun V hV => by (obtain ⟨q0, q1, q2, q3, q4, q5, q6, q7⟩ := CA.out V hV; clear hV; go_simp)⟩) hHeld ?_
              change wpAnyH _ _ _ _ _ _ _ (Act.put _ (some 52) _) _
              simp only [Act.put, List.setIfInBounds_toArray, List.set_cons_zero, List.set_cons_succ]
              refine wpAnyH_take (i := 5) (oi := _) (v := .slice (some ⟨g, 0, none⟩) N n4) rfl (by kernel_rfl) (by kernel_rfl) (by kernel_rfl) (fun _ _ _ h => h) (Or.inl ⟨by rfl, fun V hV => by go_simp⟩) hHeld ?_
              change wpAnyH _ _ _ _ _ _ _ (Act.put _ (some 53) _) _
              simp only [Act.put, List.setIfInBounds_toArray, List.set_cons_zero, List.set_cons_succ]
              refine wpAnyH_take (i := 6) (oi := _) (v := .int .i64 ((j : Int) + 1)) rfl (by kernel_rfl) (by kernel_rfl) (by kernel_rfl) (fun _ _ _ h => h) (Or.inl ⟨by rfl, fun V hV => by go_simp⟩) hHeld ?_
              change wpAnyH _ _ _ _ _ _ _ (Act.put _ (some 54) _) _
              simp only [Act.put, List.setIfInBounds_toArray, List.set_cons_zero, List.set_cons_succ]
              refine wpAnyH_take (i := 7) (oi := _) (v := .pointer (some ⟨g, (j + 1) * 8, none⟩)) rfl (by kernel_rfl) (by kernel_rfl) (by kernel_rfl) (fun _ _ _ h => h) (Or.inl ⟨by rfl, fun V hV => by go_simp⟩) hHeld ?_
              change wpAnyH _ _ _ _ _ _ _ (Act.put _ (some 55) _) _
              simp only [Act.put, List.setIfInBounds_toArray, List.set_cons_zero, List.set_cons_succ]
              refine wpAnyH_take (i := 8) (oi := _) (v := .agg #[.int .i64 b1, .int .i64 b2, .string b3, .int .i64 b4, .int .i64 tb, .int .u8 b6, .int .i64 b7, .string b8]) rfl (by kernel_rfl) (by kernel_rfl) (by kernel_rfl) (fun _ _ _ h => h) (Or.inl ⟨by rfl, fun V hV => by (obtain ⟨q0, q1, q2, q3, q4, q5, q6, q7⟩ := CB.out V hV; clear hV; go_simp)⟩) hHeld ?_
              change wpAnyH _ _ _ _ _ _ _ (Act.put _ (some 56) _) _
              simp only [Act.put, List.setIfInBounds_toArray, List.set_cons_zero, List.set_cons_succ]
              refine wpAnyH_ready (rs := [9, 10]) (by kernel_rfl) (by simp) ?_
              refine AllReadyH.cons (o := _) rfl (fun K hK => ?wayA) (AllReadyH.cons (o := _) rfl (fun K hK => ?wayB) AllReadyH.nil)
              case wayA =>
                go_simp
                refine hK.out _ _ ((HK.out.alloc zE8).drew) (fun hHeld => ?_)
                clear hK K
                refine wpAnyH_ready (rs := [10]) (by kernel_rfl) (by simp) ?_
                refine AllReadyH.cons (o := _) rfl (fun K hK => ?_) AllReadyH.nil
                go_simp
                refine hK.out _ _ (((HK.out.alloc zE8).alloc zE8).drew) (fun hHeld => ?_)
                clear hK K
                obtain ⟨wA, hwA⟩ : ∃ wA, wA = ((wr.alloc zE8).alloc zE8).drew := ⟨_, rfl⟩
                have kA : Kept w4 wA [] := by rw [hwA]; exact ((HK.out.alloc zE8).alloc zE8).drew
                have g0 : wA.heap[wr.heap.size]? = some zE8 := by rw [hwA]; exact ((Kept.refl (wr.alloc zE8) []).alloc zE8).heap (by simp) (heap_alloc_new wr zE8)
                have g1 : wA.heap[wr.heap.size + 1]? = some zE8 := by rw [hwA]; have := heap_alloc_new (wr.alloc zE8) zE8; show ((wr.alloc zE8).alloc zE8).heap[wr.heap.size + 1]? = some zE8; simpa using this
                have hsz : w4.heap.size ≤ wr.heap.size := HK.out.size
                rw [← hwA]
                clear hwA
                obtain ⟨pa, hpa⟩ : ∃ p, p = wr.heap.size := ⟨_, rfl⟩
                obtain ⟨pb, hpb⟩ : ∃ p, p = wr.heap.size + 1 := ⟨_, rfl⟩
                rw [← hpa] at g0
                rw [← hpb] at g1
                try rw [← hpb]
                try rw [← hpa]
                have hne : pa ≠ pb := by omega
                have sa : w4.heap.size ≤ pa := by omega
                have sb : w4.heap.size ≤ pb := by omega
                clear hpa hpb
                refine wpAnyH_ready (rs := [11]) (by kernel_rfl) (by simp) ?_
                refine AllReadyH.cons (o := _) rfl (fun K hK => ?_) AllReadyH.nil
                obtain ⟨q0, q1, q2, q3, q4, q5, q6, q7⟩ := ev_cells g0
                obtain ⟨f0, f1, f2, f3, f4, f5, f6, f7⟩ := ev_frozen g0
                go_simp
                clear q0 q1 q2 q3 q4 q5 q6 q7 f0 f1 f2 f3 f4 f5 f6 f7
                refine hK.out _ (set8 wA pa (.int .i64 a1) (.int .i64 a2) (.string a3) (.int .i64 a4) (.int .i64 ta) (.int .u8 a6) (.int .i64 a7) (.string a8)) (set8_kept kA sa _ _ _ _ _ _ _ _) (fun hHeld => ?_)
                clear hK K
                have m0 := set8_at g0 (.int .i64 a1) (.int .i64 a2) (.string a3) (.int .i64 a4) (.int .i64 ta) (.int .u8 a6) (.int .i64 a7) (.string a8)
                have m1 := set8_far hne.symm (.int .i64 a1) (.int .i64 a2) (.string a3) (.int .i64 a4) (.int .i64 ta) (.int .u8 a6) (.int .i64 a7) (.string a8) g1
                have kB := set8_kept kA sa (.int .i64 a1) (.int .i64 a2) (.string a3) (.int .i64 a4) (.int .i64 ta) (.int .u8 a6) (.int .i64 a7) (.string a8)
                obtain ⟨w9, hw9⟩ : ∃ w9, w9 = set8 wA pa (.int .i64 a1) (.int .i64 a2) (.string a3) (.int .i64 a4) (.int .i64 ta) (.int .u8 a6) (.int .i64 a7) (.string a8) := ⟨_, rfl⟩
                rw [← hw9] at m0 m1 kB ⊢
                clear hw9 g0 g1 kA
                refine wpAnyH_ready (rs := [12]) (by kernel_rfl) (by simp) ?_
                refine AllReadyH.cons (o := _) rfl (fun K hK => ?_) AllReadyH.nil
                obtain ⟨q0, q1, q2, q3, q4, q5, q6, q7⟩ := ev_cells m1
                obtain ⟨f0, f1, f2, f3, f4, f5, f6, f7⟩ := ev_frozen m1
                go_simp
                clear q0 q1 q2 q3 q4 q5 q6 q7 f0 f1 f2 f3 f4 f5 f6 f7
                refine hK.out _ (set8 w9 pb (.int .i64 b1) (.int .i64 b2) (.string b3) (.int .i64 b4) (.int .i64 tb) (.int .u8 b6) (.int .i64 b7) (.string b8)) (set8_kept kB sb _ _ _ _ _ _ _ _) (fun hHeld => ?_)
                clear hK K
                have n0 := set8_far hne (.int .i64 b1) (.int .i64 b2) (.string b3) (.int .i64 b4) (.int .i64 tb) (.int .u8 b6) (.int .i64 b7) (.string b8) m0
                have n1 := set8_at m1 (.int .i64 b1) (.int .i64 b2) (.string b3) (.int .i64 b4) (.int .i64 tb) (.int .u8 b6) (.int .i64 b7) (.string b8)
                have kC := set8_kept kB sb (.int .i64 b1) (.int .i64 b2) (.string b3) (.int .i64 b4) (.int .i64 tb) (.int .u8 b6) (.int .i64 b7) (.string b8)
                obtain ⟨wz, hwz⟩ : ∃ wy, wy = set8 w9 pb (.int .i64 b1) (.int .i64 b2) (.string b3) (.int .i64 b4) (.int .i64 tb) (.int .u8 b6) (.int .i64 b7) (.string b8) := ⟨_, rfl⟩
                rw [← hwz] at n0 n1 kC ⊢
                clear hwz m0 m1 kB
                refine wpAnyH_done (by kernel_rfl) ?_ _
                go_wp2_with fail
                go_meet
                exact ⟨pa, pb, rfl, rfl, kC, n0, n1⟩
              case wayB =>
                go_simp
                refine hK.out _ _ ((HK.out.alloc zE8).drew) (fun hHeld => ?_)
                clear hK K
                refine wpAnyH_ready (rs := [9]) (by kernel_rfl) (by simp) ?_
                refine AllReadyH.cons (o := _) rfl (fun K hK => ?_) AllReadyH.nil
                go_simp
                refine hK.out _ _ (((HK.out.alloc zE8).alloc zE8).drew) (fun hHeld => ?_)
                clear hK K
                obtain ⟨wA, hwA⟩ : ∃ wA, wA = ((wr.alloc zE8).alloc zE8).drew := ⟨_, rfl⟩
                have kA : Kept w4 wA [] := by rw [hwA]; exact ((HK.out.alloc zE8).alloc zE8).drew
                have g0 : wA.heap[wr.heap.size]? = some zE8 := by rw [hwA]; exact ((Kept.refl (wr.alloc zE8) []).alloc zE8).heap (by simp) (heap_alloc_new wr zE8)
                have g1 : wA.heap[wr.heap.size + 1]? = some zE8 := by rw [hwA]; have := heap_alloc_new (wr.alloc zE8) zE8; show ((wr.alloc zE8).alloc zE8).heap[wr.heap.size + 1]? = some zE8; simpa using this
                have hsz : w4.heap.size ≤ wr.heap.size := HK.out.size
                rw [← hwA]
                clear hwA
                obtain ⟨pa, hpa⟩ : ∃ p, p = wr.heap.size + 1 := ⟨_, rfl⟩
                obtain ⟨pb, hpb⟩ : ∃ p, p = wr.heap.size := ⟨_, rfl⟩
                rw [← hpa] at g1
                rw [← hpb] at g0
                try rw [← hpa]
                try rw [← hpb]
                have hne : pa ≠ pb := by omega
                have sa : w4.heap.size ≤ pa := by omega
                have sb : w4.heap.size ≤ pb := by omega
                clear hpa hpb
                refine wpAnyH_ready (rs := [11]) (by kernel_rfl) (by simp) ?_
                refine AllReadyH.cons (o := _) rfl (fun K hK => ?_) AllReadyH.nil
                obtain ⟨q0, q1, q2, q3, q4, q5, q6, q7⟩ := ev_cells g1
                obtain ⟨f0, f1, f2, f3, f4, f5, f6, f7⟩ := ev_frozen g1
                go_simp
                clear q0 q1 q2 q3 q4 q5 q6 q7 f0 f1 f2 f3 f4 f5 f6 f7
                refine hK.out _ (set8 wA pa (.int .i64 a1) (.int .i64 a2) (.string a3) (.int .i64 a4) (.int .i64 ta) (.int .u8 a6) (.int .i64 a7) (.string a8)) (set8_kept kA sa _ _ _ _ _ _ _ _) (fun hHeld => ?_)
                clear hK K
                have m0 := set8_at g1 (.int .i64 a1) (.int .i64 a2) (.string a3) (.int .i64 a4) (.int .i64 ta) (.int .u8 a6) (.int .i64 a7) (.string a8)
                have m1 := set8_far hne.symm (.int .i64 a1) (.int .i64 a2) (.string a3) (.int .i64 a4) (.int .i64 ta) (.int .u8 a6) (.int .i64 a7) (.string a8) g0
                have kB := set8_kept kA sa (.int .i64 a1) (.int .i64 a2) (.string a3) (.int .i64 a4) (.int .i64 ta) (.int .u8 a6) (.int .i64 a7) (.string a8)
                obtain ⟨w9, hw9⟩ : ∃ w9, w9 = set8 wA pa (.int .i64 a1) (.int .i64 a2) (.string a3) (.int .i64 a4) (.int .i64 ta) (.int .u8 a6) (.int .i64 a7) (.string a8) := ⟨_, rfl⟩
                rw [← hw9] at m0 m1 kB ⊢
                clear hw9 g0 g1 kA
                refine wpAnyH_ready (rs := [12]) (by kernel_rfl) (by simp) ?_
                refine AllReadyH.cons (o := _) rfl (fun K hK => ?_) AllReadyH.nil
                obtain ⟨q0, q1, q2, q3, q4, q5, q6, q7⟩ := ev_cells m1
                obtain ⟨f0, f1, f2, f3, f4, f5, f6, f7⟩ := ev_frozen m1
                go_simp
                clear q0 q1 q2 q3 q4 q5 q6 q7 f0 f1 f2 f3 f4 f5 f6 f7
                refine hK.out _ (set8 w9 pb (.int .i64 b1) (.int .i64 b2) (.string b3) (.int .i64 b4) (.int .i64 tb) (.int .u8 b6) (.int .i64 b7) (.string b8)) (set8_kept kB sb _ _ _ _ _ _ _ _) (fun hHeld => ?_)
                clear hK K
                have n0 := set8_far hne (.int .i64 b1) (.int .i64 b2) (.string b3) (.int .i64 b4) (.int .i64 tb) (.int .u8 b6) (.int .i64 b7) (.string b8) m0
                have n1 := set8_at m1 (.int .i64 b1) (.int .i64 b2) (.string b3) (.int .i64 b4) (.int .i64 tb) (.int .u8 b6) (.int .i64 b7) (.string b8)
                have kC := set8_kept kB sb (.int .i64 b1) (.int .i64 b2) (.string b3) (.int .i64 b4) (.int .i64 tb) (.int .u8 b6) (.int .i64 b7) (.string b8)
                obtain ⟨wz, hwz⟩ : ∃ wy, wy = set8 w9 pb (.int .i64 b1) (.int .i64 b2) (.string b3) (.int .i64 b4) (.int .i64 tb) (.int .u8 b6) (.int .i64 b7) (.string b8) := ⟨_, rfl⟩
                rw [← hwz] at n0 n1 kC ⊢
                clear hwz m0 m1 kB
                refine wpAnyH_done (by kernel_rfl) ?_ _
                go_wp2_with fail
                go_meet
                exact ⟨pa, pb, rfl, rfl, kC, n0, n1⟩
            case rest =>
              obtain ⟨pa, pb, rfl, rfl, KX, ga, gb⟩ := hcut
              have A0 := (cell_of_row _ _ 0 _ _ _ ga); have A4 := (cell_of_row _ _ 4 _ _ _ ga)
              have B0 := (cell_of_row _ _ 0 _ _ _ gb); have B4 := (cell_of_row _ _ 4 _ _ _ gb)
              simp only [List.getElem?_toArray, List.getElem?_cons_zero, List.getElem?_cons_succ] at A0 A4 B0 B4
              have kW := K4.out.trans KX.out (by simp)
              have LA := (TA.out.kept kW (by simp)).c0
              have LB := (TB.out.kept kW (by simp)).c0
              rw [← HDa.out] at LA
              rw [← HDb.out] at LB
              obtain ⟨la, lb⟩ := HT.out
              have xa : (ta : Int) < (i : Int) := by omega
              have xb : (tb : Int) < (i : Int) := by omega
              obtain ⟨da, hda⟩ : ∃ d, d = Da % 3 := ⟨_, rfl⟩
              obtain ⟨db, hdb⟩ : ∃ d, d = Db % 3 := ⟨_, rfl⟩
              have hord := HO.out
              rw [← hda, ← hdb] at hord
              dsimp only at hord
              have ea3 : (Da : Int).tmod 3 = da := by rw [Int.tmod_eq_emod_of_nonneg (by omega)]; omega
              have ea3' : (Da : Int) % 3 = da := by omega
              have eb3 : (Db : Int).tmod 3 = db := by rw [Int.tmod_eq_emod_of_nonneg (by omega)]; omega
              have eb3' : (Db : Int) % 3 = db := by omega
              clear hda hdb ga gb kW
              rcases hord with hlt1 | ⟨heq, hlt2 | ⟨hdd, htt⟩⟩
              · have y1 : decide (b1 < a1) = false := decide_eq_false (by omega)
                have y2 : (a1 == b1) = false := beq_eq_false_iff_ne.2 (by omega)
                go_wp2_with fail
                go_quiet (fail)
                have KN := Lib.hid (KX.out.drewN nq)
                clear A0 A4 B0 B4 LA LB
                generalize wc.drewN nq = wn at KN ⊢
                go_wp2
                go_roundg (N - (j + 1))
                case measure => omega
                case rel => exact ⟨j + 1, by go_num, by omega, by omega, KN⟩
              · subst heq
                have y1 : decide (a1 < a1) = false := decide_eq_false (by omega)
                have y3 : decide ((db : Int) < (da : Int)) = false := decide_eq_false (by omega)
                have y3' : decide (db < da) = false := decide_eq_false (by omega)
                have y4 : ((da : Int) == (db : Int)) = false := beq_eq_false_iff_ne.2 (by omega)
                have y4' : (da == db) = false := beq_eq_false_iff_ne.2 (by omega)
                go_wp2_with fail
                go_quiet (fail)
                have KN := Lib.hid (KX.out.drewN nq)
                clear A0 A4 B0 B4 LA LB
                generalize wc.drewN nq = wn at KN ⊢
                go_wp2
                go_roundg (N - (j + 1))
                case measure => omega
                case rel => exact ⟨j + 1, by go_num, by omega, by omega, KN⟩
              · subst heq
                subst hdd
                have y1 : decide (a1 < a1) = false := decide_eq_false (by omega)
                have y3 : decide ((da : Int) < (da : Int)) = false := decide_eq_false (by omega)
                have y3' : decide (da < da) = false := decide_eq_false (by omega)
                have y5 : decide ((tb : Int) < (ta : Int)) = false := decide_eq_false (by omega)
                have y5' : decide (tb < ta) = false := decide_eq_false (by omega)
                go_wp2_with fail
                go_quiet (fail)
                have KN := Lib.hid (KX.out.drewN nq)
                clear A0 A4 B0 B4 LA LB
                generalize wc.drewN nq = wn at KN ⊢
                go_wp2
                go_roundg (N - (j + 1))
                case measure => omega
                case rel => exact ⟨j + 1, by go_num, by omega, by omega, KN⟩
          · have x2 : ¬ ((j + 1 : Nat) : Int) < (N : Int) := by omega
            have x2' : ¬ (j : Int) + 1 < (N : Int) := by omega
            have hl := len_any (Q4.out.keep HK.out) (fun q hq => by have := LT.out q hq; omega)
            rw [lenN_tabs _ (seqO_lt f i), seqO_length] at hl
            have HLn := Lib.hid hl
            have KF := Lib.hid (K4.out.trans HK.out (by simp))
            have hNi := HNl.out
            subst hNi
            clear hl
            go_wp2_with fail
            refine HLn.out.mono ?_
            rintro e w6 ⟨rfl, rfl⟩
            go_wp2
            go_ret
            exact ⟨rfl, KF.out.below (Nat.le_refl _) (by simp)⟩

set_option maxRecDepth 100000 in
theorem lifted (os : Os) (started : os.Started) (H : Type) (enc : TypeId × Value → H) :
    ReturnsInHanded {} Try.checked os 5 .any (Rows.spoolOrderSpec.pre6 enc Try.prog Try.f5 Rows.spoolOrderRow.domain false) (Rows.spoolOrderSpec.post enc Try.prog Try.f5 false true false false) := by
  refine returnsInHanded_of_change (C := Try.checked) own started (by kernel_rfl) Try.func5
    (ChangeSpec.witness6 (enc := enc) (C := Try.checked) false ⟨#[], #[.slice none 0 0], []⟩ 8 (by kernel_rfl) (by kernel_rfl) (by kernel_rfl) (by kernel_rfl)) ?_
  intro W base args ds gs before hval0 hW hcnd _
  have hval : ∀ (j : Nat) t v, Try.f5.params[j]? = some t → args[j]? = some v → Value.okWide Try.prog W .any base t v := hval0
  have hW' := hW
  obtain ⟨p, q, hA0, hV, rfl, hfz, hnd⟩ := hW
  have hA : DataW.TrodAll enc Try.prog W 0 (fun _ => true) true Try.f5.params.toList args.toList ds p := hA0
  rw [Try.params5] at hA hval
  obtain ⟨v0, vs0, d0, ds0, p0, q0, hargs, rfl, rfl, h0, r0⟩ := trodAll_cons hA
  obtain ⟨rfl, rfl, rfl⟩ := trodAll_nil r0
  obtain rfl : args = #[v0] := by cases args; simp_all
  obtain ⟨rfl, rfl⟩ := trodVars_none hV
  obtain ⟨a0, len0, cap0, rfl⟩ := okWide_slice Try.underlying22 (hval 0 22 v0 rfl rfl)
  have k0 := h0
  have lt0 : ∀ x ∈ p0, x.block < W.heap.size := by obtain ⟨m, hm⟩ := k0; exact DataW.trod_lt m _ _ _ hm
  obtain ⟨z0, w0⟩ : ∃ f, IsActs W W.heap.size a0 len0 f ∧ len0 ≤ maxLen := by
    obtain ⟨fuel, hf⟩ := h0
    exact acts_open (by simpa [Value.cells] using hf)
  clear hA0 hval0
  refine (walk a0 len0 cap0 z0 W w0).mono fun e W' ⟨he, bel⟩ => ?_
  subst he
  exact ⟨_, rfl, _, _, _, [], _, [], hW', trodAll_mk1 (shut_bool Try.underlying4 _), (trodAll_cons_mk (Below.trod laidOut (by kernel_rfl) (of_decide_eq_true (by kernel_rfl)) k0 bel lt0) trodAll_mk0), rfl, bel.frame _, fun h => by cases h⟩

theorem over : Rows.spoolOrderRow.holds Try.pinned (OpenSpec.ofChange Rows.spoolOrderSpec) :=
  OpenClaim.holds_of_wide 5 Try.f5 rfl rfl rfl rfl rfl rfl rfl ⟨rfl, rfl, rfl, rfl, rfl⟩ rfl rfl rfl rfl rfl (by kernel_rfl) Try.func5 (by kernel_rfl)
    (of_decide_eq_true (by kernel_rfl)) (by unfold Func.isWrapper; first | (rw [if_pos (by decide +kernel)]; kernel_rfl) | (rw [if_neg (by decide +kernel)]; exact ⟨rfl, rfl⟩))
    (fun os started H enc _ => lifted os started H enc)

theorem proved : Rows.SpoolOrderSaid :=
  over
end Go.Proofs.Ytalplhhmghnggaa.spoolOrder

namespace Go.Proofs.Ytalplhhmghnggaa
theorem spoolOrder_holds : Rows.SpoolOrderSaid := spoolOrder.proved
#print axioms spoolOrder_holds
end Go.Proofs.Ytalplhhmghnggaa

