/-
  Proved: whatever the arguments are, carrierlaw10.SpoolForget answers true and leaves its arguments as they were. No condition.
-/
import Derived.Test.YtalplhhmghnggaaSpj
namespace Go.Proofs.Ytalplhhmghnggaa.spoolForget
open Go.ChangeShapes Go.WideShapes Go.ChangeAt Go.RowKit
set_option linter.unusedVariables false

theorem own : ownKnob Try.prog.godebug = none := by kernel_rfl
theorem laidOut : laidOutB Try.prog = true := by kernel_rfl

/-- What comes, one by one. -/
def evF (f : Nat → ActD) (j : Nat) : Ev := ⟨(j : Int) + 1, ((f j).x % 4 : Nat), ⟨#[]⟩, 0, 0, 0, 0, ⟨#[]⟩⟩
def seqF (f : Nat → ActD) (i : Nat) : List (Nat × Ev) := (List.range i).map fun j : Nat => ((f j).d % 3, evF f j)
theorem seqF_succ (f : Nat → ActD) (i : Nat) : seqF f (i + 1) = seqF f i ++ [((f i).d % 3, evF f i)] := by simp [seqF, List.range_succ]
theorem seqF_length (f : Nat → ActD) (i : Nat) : (seqF f i).length = i := by simp [seqF]
theorem seqF_lt (f : Nat → ActD) (i : Nat) : ∀ p ∈ seqF f i, p.1 < 3 := by
  intro p hp
  simp only [seqF, List.mem_map] at hp
  obtain ⟨j, _, rfl⟩ := hp
  exact Nat.mod_lt _ (by omega)
def cntF (f : Nat → ActD) (q i : Nat) : Nat := ((seqF f i).filter fun p => ofX q p.2).length
theorem cntF_hit {f : Nat → ActD} {q i : Nat} (h : (f i).x % 4 = q) : cntF f q (i + 1) = cntF f q i + 1 := by
  subst h
  have : ofX ((f i).x % 4 : Nat) (evF f i) = true := by simp [ofX, evF]
  simp only [cntF, seqF_succ, List.filter_append, List.length_append, List.filter_cons, List.filter_nil, this, if_true, List.length_cons, List.length_nil]
theorem cntF_miss {f : Nat → ActD} {q i : Nat} (h : (f i).x % 4 ≠ q) : cntF f q (i + 1) = cntF f q i := by
  have : ofX q (evF f i) = false := by simp only [ofX, evF]; rw [beq_eq_false_iff_ne]; omega
  simp only [cntF, seqF_succ, List.filter_append, List.length_append, List.filter_cons, List.filter_nil, this, Bool.false_eq_true, if_false, List.length_nil, Nat.add_zero]
theorem cntF_le (f : Nat → ActD) (q i : Nat) : cntF f q i ≤ i := by
  have := List.length_filter_le (fun p => ofX q p.2) (seqF f i)
  rw [seqF_length] at this
  exact this
theorem filter_not {α : Type} (p : α → Bool) (l : List α) : (l.filter fun a => !p a).length + (l.filter p).length = l.length := by
  induction l with
  | nil => rfl
  | cons a t ih =>
    cases h : p a
    · rw [List.filter_cons, List.filter_cons, h]
      simp only [Bool.not_false, if_true, Bool.false_eq_true, if_false, List.length_cons]
      omega
    · rw [List.filter_cons, List.filter_cons, h]
      simp only [Bool.not_true, if_true, Bool.false_eq_true, if_false, List.length_cons]
      omega
theorem forL_len (f : Nat → ActD) (q i : Nat) : lenN (tabs (seqF f i)) = i ∧ lenN (forL q (tabs (seqF f i))) = i - cntF f q i := by
  refine ⟨by rw [lenN_tabs _ (seqF_lt f i), seqF_length], ?_⟩
  rw [forL_tabs, lenN_tabs _ (fun p hp => seqF_lt f i p (List.mem_filter.1 hp).1)]
  have := filter_not (fun p => ofX q p.2) (seqF f i)
  rw [seqF_length] at this
  unfold cntF
  omega
theorem all_ne {q : Nat} {l : Nat → List Ev} {j : Nat} {r : Ev} (h : (srt byId (pre (forL q l) 3))[j]? = some r) : (r.tx == (q : Int)) = false := by
  have hm := List.mem_of_getElem? h
  rw [mem_all] at hm
  obtain ⟨i, _, hi⟩ := hm
  unfold forL at hi
  have := (List.mem_filter.1 hi).2
  simpa [ofX] using this

set_option maxHeartbeats 8000000 in
set_option maxRecDepth 100000 in
theorem walk (a0 : Option Addr) (len cap : Nat) (f : Nat → ActD) (a1 : Int) (W : World) (w0 : IsActs W W.heap.size a0 len f ∧ len ≤ maxLen) (w1 : (Lit.int .u8 a1).wf = true) :
    Calls Try.prog 6 #[.slice a0 len cap, .int .u8 a1] W fun e w' => e = .returned (.bool true) ∧ Below W.heap.size W w' := by
  have B0 := bounds_u8 w1
  obtain ⟨q, hq⟩ : ∃ q : Nat, a1.tmod 4 = q := ⟨(a1.tmod 4).toNat, by have := Int.tmod_nonneg 4 B0.1; omega⟩
  have hq4 : q < 4 := by have := Int.tmod_lt_of_pos a1 (show (0 : Int) < 4 by omega); omega
  have HA := Lib.hid w0.1
  have hlm : len ≤ 9223372036854775807 := by have := w0.2; unfold maxLen at this; omega
  clear w0 w1 B0
  by_cases h60 : 60 < len
  · have x0 : (60 : Int) < (len : Int) := by omega
    go_enter Try.func6, Try.ntmps6
    go_wp2_with fail
    refine (turns_any W).mono ?_
    rintro e w1 ⟨rfl, k1⟩
    have K1 := Lib.hid k1; clear k1
    go_wp2_with fail
    refine (turns_any w1).mono ?_
    rintro e w2 ⟨rfl, k2⟩
    have K2 := Lib.hid (K1.out.trans k2 (by simp)); clear k2
    go_wp2
    go_ret
    exact ⟨rfl, K2.out.below (Nat.le_refl _) (by simp)⟩
  · have x0 : ¬ (60 : Int) < (len : Int) := by omega
    go_enter Try.func6, Try.ntmps6
    go_wp2_with fail
    refine (turns_any W).mono ?_
    rintro e w1 ⟨rfl, k1⟩
    have K1 := Lib.hid k1; clear k1
    go_wp2_with fail
    refine (new_any w1).mono ?_
    rintro e w2 ⟨h, rfl, a2, k2⟩
    have K2 := Lib.hid (K1.out.trans k2 (by simp))
    have HB : RowKit.Hid (W.heap.size ≤ w1.heap.size) := Lib.hid K1.out.size
    have A2 := Lib.hid (show Sp spT w2 w1.heap.size h noV (tabs (seqF f 0)) 0 from a2)
    clear a2 k2
    go_wp2
    go_loopg [6, 7] len (fun kx s6 s7 wr => ∃ (i m : Nat) (V : Nat → Value), s6 = .int .i64 m ∧ s7 = .int .i64 i ∧ i ≤ len ∧ m ≤ i ∧ len - i ≤ kx ∧ RowKit.Hid (Sp spT wr w1.heap.size h V (tabs (seqF f i)) 0 ∧ Dst V ∧ Kept W wr [] ∧ m = cntF f q i))
    case atStart => exact ⟨0, 0, noV, rfl, rfl, by omega, by omega, by omega, A2.out, dst_no, K2.out, rfl⟩
    case round =>
      clear A2 K2
      obtain ⟨i, m, V, rfl, rfl, hik, hmi, hkx, HS⟩ := hrel
      obtain ⟨p1, p2, p3, p4⟩ := HS.out
      by_cases hlt : i < len
      · have x1 : (i : Int) < (len : Int) := by omega
        obtain ⟨bb, oo, rfl, hbb, hact⟩ := HA.out (by omega)
        have ac := (hact i hlt).kept p3 (by simp)
        have ad := ac.kept (Kept.refl wr []).drew (by simp)
        have hact' := Lib.hid (hact i hlt)
        obtain ⟨t, ht⟩ : ∃ t, t = (f i).d % 3 := ⟨_, rfl⟩
        obtain ⟨y, hy⟩ : ∃ y, y = (f i).x % 4 := ⟨_, rfl⟩
        have hc := addto_any (p1.keep (Kept.refl wr []).drew) p2 t (by omega) (by have := tabs_le (seqF f i) t; rw [seqF_length] at this; omega) (evF f i)
        rw [ht, tabs_snoc, ← seqF_succ, ← ht] at hc
        have hev : (evF f i).cs = #[.int .i64 ((i : Int) + 1), .int .i64 (y : Int), .string ⟨#[]⟩, .int .i64 0, .int .i64 0, .int .u8 0, .int .i64 0, .string ⟨#[]⟩] := by rw [hy]; rfl
        rw [hev] at hc
        have HCN : RowKit.Hid (cntF f q (i + 1) = if y = q then m + 1 else m) := Lib.hid (by
          by_cases e : y = q
          · rw [if_pos e, p4]; exact cntF_hit (by rw [← hy]; exact e)
          · rw [if_neg e, p4]; exact cntF_miss (by rw [← hy]; exact e))
        obtain ⟨D, hD⟩ : ∃ D, D = (f i).d := ⟨_, rfl⟩
        obtain ⟨X, hX⟩ : ∃ X, X = (f i).x := ⟨_, rfl⟩
        have c0 := ad.c0; have c3 := ad.c3
        rw [← hD] at c0 ht
        rw [← hX] at c3 hy
        have HX := Lib.hid hX; have HD := Lib.hid hD
        have d3 : (D : Int).tmod 3 = t := by rw [Int.tmod_eq_emod_of_nonneg (by omega)]; omega
        have d3' : (D : Int) % 3 = t := by omega
        have x4 : (X : Int).tmod 4 = y := by rw [Int.tmod_eq_emod_of_nonneg (by omega)]; omega
        have x4' : (X : Int) % 4 = y := by omega
        have ht3 : t < 3 := by omega
        have hy4 : y < 4 := by omega
        have mt : IntKind.i64.wrap (t : Int) = t := by rw [IntKind.wrap_i64]; omega
        have mi : IntKind.i64.wrap ((i : Int) + 1) = (i : Int) + 1 := by rw [IntKind.wrap_i64]; omega
        have my : IntKind.i64.wrap (y : Int) = y := by rw [IntKind.wrap_i64]; omega
        have HC := Lib.hid hc; have P1 := Lib.hid p1; have P3 := Lib.hid p3
        have S1 := Lib.hid (And.intro c0 c3)
        clear p1 p2 p3 p4 hc hev HS hact ac ad hD hX ht hy c0 c3
        go_wp2_with fail
        refine wp_region_held_drew (S := fun V => V.cell? ⟨bb, oo + i * 5, none⟩ = some (.int .u8 D) ∧ V.cell? ⟨bb, oo + i * 5 + 3, none⟩ = some (.int .u8 X)) (by kernel_rfl) S1.out (fun hHeld => ?_)
        refine wpAnyH_take (i := 0) (oi := _) (v := .pointer (some ⟨h, 0, none⟩)) rfl (by kernel_rfl) (by kernel_rfl) (by kernel_rfl) (fun _ _ _ h => h) (Or.inl ⟨by rfl, fun V hV => by go_simp⟩) hHeld ?_
        change wpAnyH _ _ _ _ _ _ _ (Act.put _ (some 26) _) _
        simp only [Act.put, List.setIfInBounds_toArray, List.set_cons_zero, List.set_cons_succ]
        refine wpAnyH_take (i := 1) (oi := _) (v := .slice (some ⟨bb, oo, none⟩) len cap) rfl (by kernel_rfl) (by kernel_rfl) (by kernel_rfl) (fun _ _ _ h => h) (Or.inl ⟨by rfl, fun V hV => by go_simp⟩) hHeld ?_
        change wpAnyH _ _ _ _ _ _ _ (Act.put _ (some 27) _) _
        simp only [Act.put, List.setIfInBounds_toArray, List.set_cons_zero, List.set_cons_succ]
        refine wpAnyH_take (i := 2) (oi := _) (v := .int .i64 i) rfl (by kernel_rfl) (by kernel_rfl) (by kernel_rfl) (fun _ _ _ h => h) (Or.inl ⟨by rfl, fun V hV => by go_simp⟩) hHeld ?_
        change wpAnyH _ _ _ _ _ _ _ (Act.put _ (some 28) _) _
        simp only [Act.put, List.setIfInBounds_toArray, List.set_cons_zero, List.set_cons_succ]
        refine wpAnyH_take (i := 3) (oi := _) (v := .pointer (some ⟨bb, oo + i * 5, none⟩)) rfl (by kernel_rfl) (by kernel_rfl) (by kernel_rfl) (fun _ _ _ h => h) (Or.inl ⟨by rfl, fun V hV => by go_simp⟩) hHeld ?_
        change wpAnyH _ _ _ _ _ _ _ (Act.put _ (some 29) _) _
        simp only [Act.put, List.setIfInBounds_toArray, List.set_cons_zero, List.set_cons_succ]
        refine wpAnyH_take (i := 4) (oi := _) (v := .pointer (some ⟨bb, oo + i * 5, none⟩)) rfl (by kernel_rfl) (by kernel_rfl) (by kernel_rfl) (fun _ _ _ h => h) (Or.inl ⟨by rfl, fun V hV => by go_simp⟩) hHeld ?_
        change wpAnyH _ _ _ _ _ _ _ (Act.put _ (some 30) _) _
        simp only [Act.put, List.setIfInBounds_toArray, List.set_cons_zero, List.set_cons_succ]
        refine wpAnyH_take (i := 5) (oi := _) (v := .int .u8 D) rfl (by kernel_rfl) (by kernel_rfl) (by kernel_rfl) (fun _ _ _ h => h) (Or.inl ⟨by rfl, fun V hV => by (obtain ⟨s0, s3⟩ := hV; go_simp)⟩) hHeld ?_
        change wpAnyH _ _ _ _ _ _ _ (Act.put _ (some 31) _) _
        simp only [Act.put, List.setIfInBounds_toArray, List.set_cons_zero, List.set_cons_succ]
        refine wpAnyH_take (i := 6) (oi := _) (v := .int .u8 t) rfl (by kernel_rfl) (by kernel_rfl) (by kernel_rfl) (fun _ _ _ h => h) (Or.inl ⟨by rfl, fun V hV => by go_simp⟩) hHeld ?_
        change wpAnyH _ _ _ _ _ _ _ (Act.put _ (some 32) _) _
        simp only [Act.put, List.setIfInBounds_toArray, List.set_cons_zero, List.set_cons_succ]
        refine wpAnyH_take (i := 7) (oi := _) (v := .int .i64 t) rfl (by kernel_rfl) (by kernel_rfl) (by kernel_rfl) (fun _ _ _ h => h) (Or.inl ⟨by rfl, fun V hV => by go_simp⟩) hHeld ?_
        change wpAnyH _ _ _ _ _ _ _ (Act.put _ (some 33) _) _
        simp only [Act.put, List.setIfInBounds_toArray, List.set_cons_zero, List.set_cons_succ]
        refine wpAnyH_take (i := 8) (oi := _) (v := .int .i64 i) rfl (by kernel_rfl) (by kernel_rfl) (by kernel_rfl) (fun _ _ _ h => h) (Or.inl ⟨by rfl, fun V hV => by go_simp⟩) hHeld ?_
        change wpAnyH _ _ _ _ _ _ _ (Act.put _ (some 34) _) _
        simp only [Act.put, List.setIfInBounds_toArray, List.set_cons_zero, List.set_cons_succ]
        refine wpAnyH_take (i := 9) (oi := _) (v := .int .i64 ((i : Int) + 1)) rfl (by kernel_rfl) (by kernel_rfl) (by kernel_rfl) (fun _ _ _ h => h) (Or.inl ⟨by rfl, fun V hV => by go_simp⟩) hHeld ?_
        change wpAnyH _ _ _ _ _ _ _ (Act.put _ (some 35) _) _
        simp only [Act.put, List.setIfInBounds_toArray, List.set_cons_zero, List.set_cons_succ]
        refine wpAnyH_take (i := 10) (oi := _) (v := .slice (some ⟨bb, oo, none⟩) len cap) rfl (by kernel_rfl) (by kernel_rfl) (by kernel_rfl) (fun _ _ _ h => h) (Or.inl ⟨by rfl, fun V hV => by go_simp⟩) hHeld ?_
        change wpAnyH _ _ _ _ _ _ _ (Act.put _ (some 36) _) _
        simp only [Act.put, List.setIfInBounds_toArray, List.set_cons_zero, List.set_cons_succ]
        refine wpAnyH_take (i := 11) (oi := _) (v := .int .i64 i) rfl (by kernel_rfl) (by kernel_rfl) (by kernel_rfl) (fun _ _ _ h => h) (Or.inl ⟨by rfl, fun V hV => by go_simp⟩) hHeld ?_
        change wpAnyH _ _ _ _ _ _ _ (Act.put _ (some 37) _) _
        simp only [Act.put, List.setIfInBounds_toArray, List.set_cons_zero, List.set_cons_succ]
        refine wpAnyH_take (i := 12) (oi := _) (v := .pointer (some ⟨bb, oo + i * 5, none⟩)) rfl (by kernel_rfl) (by kernel_rfl) (by kernel_rfl) (fun _ _ _ h => h) (Or.inl ⟨by rfl, fun V hV => by go_simp⟩) hHeld ?_
        change wpAnyH _ _ _ _ _ _ _ (Act.put _ (some 38) _) _
        simp only [Act.put, List.setIfInBounds_toArray, List.set_cons_zero, List.set_cons_succ]
        refine wpAnyH_take (i := 13) (oi := _) (v := .pointer (some ⟨bb, oo + i * 5 + 3, none⟩)) rfl (by kernel_rfl) (by kernel_rfl) (by kernel_rfl) (fun _ _ _ h => h) (Or.inl ⟨by rfl, fun V hV => by go_simp⟩) hHeld ?_
        change wpAnyH _ _ _ _ _ _ _ (Act.put _ (some 39) _) _
        simp only [Act.put, List.setIfInBounds_toArray, List.set_cons_zero, List.set_cons_succ]
        refine wpAnyH_take (i := 14) (oi := _) (v := .int .u8 X) rfl (by kernel_rfl) (by kernel_rfl) (by kernel_rfl) (fun _ _ _ h => h) (Or.inl ⟨by rfl, fun V hV => by (obtain ⟨s0, s3⟩ := hV; go_simp)⟩) hHeld ?_
        change wpAnyH _ _ _ _ _ _ _ (Act.put _ (some 40) _) _
        simp only [Act.put, List.setIfInBounds_toArray, List.set_cons_zero, List.set_cons_succ]
        refine wpAnyH_take (i := 15) (oi := _) (v := .int .u8 y) rfl (by kernel_rfl) (by kernel_rfl) (by kernel_rfl) (fun _ _ _ h => h) (Or.inl ⟨by rfl, fun V hV => by go_simp⟩) hHeld ?_
        change wpAnyH _ _ _ _ _ _ _ (Act.put _ (some 41) _) _
        simp only [Act.put, List.setIfInBounds_toArray, List.set_cons_zero, List.set_cons_succ]
        refine wpAnyH_take (i := 16) (oi := _) (v := .int .i64 y) rfl (by kernel_rfl) (by kernel_rfl) (by kernel_rfl) (fun _ _ _ h => h) (Or.inl ⟨by rfl, fun V hV => by go_simp⟩) hHeld ?_
        change wpAnyH _ _ _ _ _ _ _ (Act.put _ (some 42) _) _
        simp only [Act.put, List.setIfInBounds_toArray, List.set_cons_zero, List.set_cons_succ]
        refine wpAnyH_take (i := 17) (oi := _) (v := .agg #[.int .i64 ((i : Int) + 1), .int .i64 (y : Int), .string ⟨#[]⟩, .int .i64 0, .int .i64 0, .int .u8 0, .int .i64 0, .string ⟨#[]⟩]) rfl (by kernel_rfl) (by kernel_rfl) (by kernel_rfl) (fun _ _ _ h => h) (Or.inl ⟨by rfl, fun V hV => by go_simp⟩) hHeld ?_
        change wpAnyH _ _ _ _ _ _ _ (Act.put _ (some 43) _) _
        simp only [Act.put, List.setIfInBounds_toArray, List.set_cons_zero, List.set_cons_succ]
        refine wpAnyH_ready (rs := [18]) (by kernel_rfl) (by simp) ?_
        refine AllReadyH.cons (o := _) rfl (fun K hK => ?_) AllReadyH.nil
        go_simp
        go_at_call 13
        refine HC.out.mono ?_
        rintro e w3 ⟨rfl, V3, q1, q2, q3⟩
        have K3 := Lib.hid (P3.out.drew.sp (P1.out.keep (Kept.refl wr []).drew) HB.out q3)
        have Q := Lib.hid (And.intro q1 q2)
        have z0 := (hact'.out.kept K3.out (by simp))
        have S3 := Lib.hid (show w3.cell? ⟨bb, oo + i * 5, none⟩ = some (.int .u8 D) ∧ w3.cell? ⟨bb, oo + i * 5 + 3, none⟩ = some (.int .u8 X) from ⟨by rw [HD.out]; exact z0.c0, by rw [HX.out]; exact z0.c3⟩)
        clear q1 q2 q3 z0
        go_wp2_with fail
        refine hK.out _ _ S3.out (fun hHeld => ?_)
        clear hK K
        refine wpAnyH_done (by kernel_rfl) ?_ _
        have Y3 := (hact'.out.kept K3.out (by simp)).c3
        rw [← HX.out] at Y3
        by_cases hyq : y = q
        · subst hyq
          have HC2 := HCN.out
          rw [if_pos rfl] at HC2
          have HC3 := Lib.hid HC2
          clear HC2
          go_wp2
          go_roundg (len - (i + 1))
          case measure => omega
          case rel => exact ⟨i + 1, m + 1, _, by go_num, by go_num, by omega, by omega, by omega, Q.out.1, Q.out.2, K3.out, HC3.out.symm⟩
        · have HC2 := HCN.out
          rw [if_neg hyq] at HC2
          have HC3 := Lib.hid HC2
          have hyz : ((y : Int) == (q : Int)) = false := beq_eq_false_iff_ne.2 (by omega)
          clear HC2
          go_wp2
          go_roundg (len - (i + 1))
          case measure => omega
          case rel => exact ⟨i + 1, m, _, by go_num, by go_num, by omega, by omega, by omega, Q.out.1, Q.out.2, K3.out, HC3.out.symm⟩
      · have x1 : ¬ (i : Int) < (len : Int) := by omega
        obtain rfl : i = len := by omega
        obtain ⟨l1, l2⟩ := forL_len f q i
        have hc := forget_any p1 p2 (fun j hj => by have := tabs_le (seqF f i) j; rw [seqF_length] at this; omega) q
        rw [l1, l2, ← p4, show i - (i - m) = m by omega] at hc
        have HC := Lib.hid hc; have P1 := Lib.hid p1; have P3 := Lib.hid p3
        have L2 := Lib.hid (show lenN (forL q (tabs (seqF f i))) = i - m by rw [l2, ← p4])
        have LT : RowKit.Hid (∀ j, j < 3 → (forL q (tabs (seqF f i)) j).length < 1000000) := Lib.hid (fun j hj => by
          have := tabs_le (seqF f i) j
          rw [seqF_length] at this
          have := List.length_filter_le (fun r => !ofX q r) (tabs (seqF f i) j)
          unfold forL
          omega)
        have mq : wrap64 (q : Int) = q := by unfold wrap64; omega
        clear p1 p2 p3 p4 hc HS l1 l2
        go_wp2_with fail
        refine HC.out.mono ?_
        rintro e w3 ⟨rfl, V3, q1, q2, q3⟩
        have K3 := Lib.hid (P3.out.sp P1.out HB.out q3)
        have hc := all_any q1 LT.out
        have HC1 := Lib.hid hc; have Q1 := Lib.hid q1; have Q2 := Lib.hid q2
        clear q1 q2 q3 HC P1 P3 hc
        go_wp2_with fail
        refine HC1.out.mono ?_
        rintro e w4 ⟨v4, rfl, o4, k4⟩
        have K4 := Lib.hid (K3.out.trans k4 (by simp))
        have hc := forget_any (Q1.out.keep k4) Q2.out LT.out q
        rw [forL_twice, Nat.sub_self] at hc
        have HC2 := Lib.hid hc; have Q4 := Lib.hid (Q1.out.keep k4)
        obtain ⟨u4, n4, e4⟩ := o4.shape
        obtain ⟨N, hN⟩ : ∃ N, N = (srt byId (pre (forL q (tabs (seqF f i))) 3)).length := ⟨_, rfl⟩
        rw [← hN] at e4
        rw [e4] at o4
        rw [e4]
        have HNl : RowKit.Hid (N = i - m) := Lib.hid (by rw [hN, srt_length, pre3_length, L2.out])
        have hNb : N ≤ 60 := by have := HNl.out; omega
        have O4 := Lib.hid o4; have HN := Lib.hid hN
        clear o4 k4 hc e4 hN
        go_wp2
        go_loopg [10] N (fun kx s10 w5 => ∃ j : Nat, s10 = .int .i64 j ∧ j ≤ N ∧ N - j ≤ kx ∧ w4 = w5)
        case atStart => exact ⟨0, rfl, by omega, by omega, rfl⟩
        case round =>
          obtain ⟨j, rfl, hj, hkx2, rfl⟩ := hrel
          by_cases hjl : j < N
          · have x2 : (j : Int) < (N : Int) := by omega
            obtain ⟨r, hr⟩ : ∃ r, (srt byId (pre (forL q (tabs (seqF f i))) 3))[j]? = some r := ⟨_, List.getElem?_eq_getElem (by rw [← HN.out]; exact hjl)⟩
            have hne := all_ne hr
            obtain ⟨g, hg, hcc⟩ := O4.out.at j (by rw [← HN.out]; exact hjl)
            subst hg
            obtain ⟨_, c1, _⟩ := O4.out.eight hr
            clear hr hcc
            generalize r.tx = rt at c1 hne
            go_wp2
            go_roundg (N - (j + 1))
            case measure => omega
            case rel => exact ⟨j + 1, by go_num, by omega, by omega, rfl⟩
          · have x2 : ¬ (j : Int) < (N : Int) := by omega
            obtain rfl : j = N := by omega
            have hNm := HNl.out
            have xj : (i : Int) - (m : Int) = (j : Int) := by omega
            have HNm := Lib.hid hNm
            clear hNm
            go_wp2_with fail
            refine HC2.out.mono ?_
            rintro e w6 ⟨rfl, V6, r1, r2, r3⟩
            have R := Lib.hid (K4.out.sp Q4.out HB.out r3)
            clear r1 r2 r3
            go_wp2
            go_ret
            exact ⟨rfl, R.out.below (Nat.le_refl _) (by simp)⟩

set_option maxRecDepth 100000 in
theorem lifted (os : Os) (started : os.Started) (H : Type) (enc : TypeId × Value → H) :
    ReturnsInHanded {} Try.checked os 6 .any (Rows.spoolForgetSpec.pre6 enc Try.prog Try.f6 Rows.spoolForgetRow.domain false) (Rows.spoolForgetSpec.post enc Try.prog Try.f6 false true false false) := by
  refine returnsInHanded_of_change (C := Try.checked) own started (by kernel_rfl) Try.func6
    (ChangeSpec.witness6 (enc := enc) (C := Try.checked) false ⟨#[], #[.slice none 0 0, .int .u8 0], []⟩ 8 (by kernel_rfl) (by kernel_rfl) (by kernel_rfl) (by kernel_rfl)) ?_
  intro W base args ds gs before hval0 hW hcnd _
  have hval : ∀ (j : Nat) t v, Try.f6.params[j]? = some t → args[j]? = some v → Value.okWide Try.prog W .any base t v := hval0
  have hW' := hW
  obtain ⟨p, q, hA0, hV, rfl, hfz, hnd⟩ := hW
  have hA : DataW.TrodAll enc Try.prog W 0 (fun _ => true) true Try.f6.params.toList args.toList ds p := hA0
  rw [Try.params6] at hA hval
  obtain ⟨v0, vs0, d0, ds0, p0, q0, hargs, rfl, rfl, h0, r0⟩ := trodAll_cons hA
  obtain ⟨v1, vs1, d1, ds1, p1, q1, rfl, rfl, rfl, h1, r1⟩ := trodAll_cons r0
  obtain ⟨rfl, rfl, rfl⟩ := trodAll_nil r1
  obtain rfl : args = #[v0, v1] := by cases args; simp_all
  obtain ⟨rfl, rfl⟩ := trodVars_none hV
  obtain ⟨a0, len0, cap0, rfl⟩ := okWide_slice Try.underlying22 (hval 0 22 v0 rfl rfl)
  have k0 := h0
  have lt0 : ∀ x ∈ p0, x.block < W.heap.size := by obtain ⟨m, hm⟩ := k0; exact DataW.trod_lt m _ _ _ hm
  obtain ⟨z0, w0⟩ : ∃ f, IsActs W W.heap.size a0 len0 f ∧ len0 ≤ maxLen := by
    obtain ⟨fuel, hf⟩ := h0
    exact acts_open (by simpa [Value.cells] using hf)
  obtain ⟨a1, rfl, rfl, rfl, w1⟩ := open_int Try.underlying5 (hval 1 5 v1 rfl rfl) h1
  clear hA0 hval0
  refine (walk a0 len0 cap0 z0 a1 W w0 w1).mono fun e W' ⟨he, bel⟩ => ?_
  subst he
  exact ⟨_, rfl, _, _, _, [], _, [], hW', trodAll_mk1 (shut_bool Try.underlying4 _), (trodAll_cons_mk (Below.trod laidOut (by kernel_rfl) (of_decide_eq_true (by kernel_rfl)) k0 bel lt0) (trodAll_cons_mk (shut_int Try.underlying5 w1) trodAll_mk0)), rfl, bel.frame _, fun h => by cases h⟩

theorem over : Rows.spoolForgetRow.holds Try.pinned (OpenSpec.ofChange Rows.spoolForgetSpec) :=
  OpenClaim.holds_of_wide 6 Try.f6 rfl rfl rfl rfl rfl rfl rfl ⟨rfl, rfl, rfl, rfl, rfl⟩ rfl rfl rfl rfl rfl (by kernel_rfl) Try.func6 (by kernel_rfl)
    (of_decide_eq_true (by kernel_rfl)) (by unfold Func.isWrapper; first | (rw [if_pos (by decide +kernel)]; kernel_rfl) | (rw [if_neg (by decide +kernel)]; exact ⟨rfl, rfl⟩))
    (fun os started H enc _ => lifted os started H enc)

theorem proved : Rows.SpoolForgetSaid :=
  over
end Go.Proofs.Ytalplhhmghnggaa.spoolForget

namespace Go.Proofs.Ytalplhhmghnggaa
theorem spoolForget_holds : Rows.SpoolForgetSaid := spoolForget.proved
#print axioms spoolForget_holds
end Go.Proofs.Ytalplhhmghnggaa

