/-
  Proved: whatever the arguments are, carrierlaw09.EventReads answers true and leaves its arguments as they were. No condition.
-/
import Derived.Test.YtkpjbmcgfdophaaEj
import Derived.ProofKit
import Derived.OpenShut
import Derived.ChangeOld
import Derived.Below
namespace Go.Proofs.Ytkpjbmcgfdophaa.eventReads
open Go.ChangeShapes Go.WideShapes Go.ChangeAt Go.RowKit
set_option linter.unusedVariables false

theorem own : ownKnob Try.prog.godebug = none := by kernel_rfl
theorem laidOut : laidOutB Try.prog = true := by kernel_rfl

theorem blk {w1 w2 : World} {cs : Array Value} {T : TypeId} (k : Kept (w1.alloc (.cells cs T)) w2 []) : w2.heap[w1.heap.size]? = some (.cells cs T (0, 0)) := k.heap (by simp) (heap_alloc_new w1 _)

set_option maxHeartbeats 4000000 in
set_option maxRecDepth 100000 in
theorem walk (a0 : Option Addr) (len0 cap0 : Nat) (z0 : List Int) (W : World) (w0 : IsRow .u8 W a0 len0 cap0 z0) :
    Calls Try.prog 4 #[.slice a0 len0 cap0] W fun e w' => e = .returned (.bool true) ∧ Below W.heap.size W w' := by
  obtain ⟨l, rfl, hrd⟩ := isRow_rd w0
  have R := Lib.hid hrd
  clear w0 hrd
  by_cases h1 : (150 : Int) < (l.length : Int)
  · go_enter Try.func4, Try.ntmps4
    go_wp2_with fail
    refine (nine_any W).mono ?_
    rintro e w1 ⟨rfl, hk⟩
    have K := Lib.hid hk; clear hk
    go_wp2
    go_ret
    exact ⟨rfl, K.out.below (Nat.le_refl _) (by simp)⟩
  have hl : l.length ≤ 150 := by omega
  obtain ⟨⟨a1, b1, o1, c1, d1, k1, y1, t1⟩, hE1⟩ : ∃ E, E = cEv l := ⟨_, rfl⟩
  obtain ⟨x1, hx1⟩ : ∃ x, x = cErr l := ⟨_, rfl⟩
  have HD1 : RowKit.Hid (∀ (v : Value) (V : World), Rd V v l → Calls Try.prog 12 #[v] V fun e w' => e = .returned (.tuple #[.agg #[.int .i64 a1, .int .i64 b1, .string o1, .int .i64 c1, .int .i64 d1, .int .u8 k1, .int .i64 y1, .string t1], .int .i64 x1]) ∧ Kept V w' []) := Lib.hid (fun v V h => by
    refine (decode_any v l V h (by first | omega | (simp; omega))).mono ?_
    rintro e w' ⟨rfl, hk⟩
    rw [← hE1, ← hx1]
    exact ⟨rfl, hk⟩)
  have HF1 : RowKit.Hid (∀ (v : Value) (V : World), Rd V v l → Calls Try.prog 16 #[v] V fun e w' => e = .returned (.tuple #[.agg #[.int .i64 a1, .int .i64 b1, .string o1, .int .i64 c1, .int .i64 d1, .int .u8 k1, .int .i64 y1, .string t1], .int .i64 x1]) ∧ Kept V w' []) := Lib.hid (fun v V h => by
    refine (refdecode_any v l V h (by first | omega | (simp; omega))).mono ?_
    rintro e w' ⟨rfl, hk⟩
    rw [← (dec_same l).1, ← (dec_same l).2, ← hE1, ← hx1]
    exact ⟨rfl, hk⟩)
  have Q1 := ev_eq a1 b1 o1 c1 d1 k1 y1 t1
  clear hE1 hx1
  obtain ⟨⟨a2, b2, o2, c2, d2, k2, y2, t2⟩, hE2⟩ : ∃ E, E = cEv ([7, 3, 1, 97, 0] ++ l) := ⟨_, rfl⟩
  obtain ⟨x2, hx2⟩ : ∃ x, x = cErr ([7, 3, 1, 97, 0] ++ l) := ⟨_, rfl⟩
  have HD2 : RowKit.Hid (∀ (v : Value) (V : World), Rd V v ([7, 3, 1, 97, 0] ++ l) → Calls Try.prog 12 #[v] V fun e w' => e = .returned (.tuple #[.agg #[.int .i64 a2, .int .i64 b2, .string o2, .int .i64 c2, .int .i64 d2, .int .u8 k2, .int .i64 y2, .string t2], .int .i64 x2]) ∧ Kept V w' []) := Lib.hid (fun v V h => by
    refine (decode_any v ([7, 3, 1, 97, 0] ++ l) V h (by first | omega | (simp; omega))).mono ?_
    rintro e w' ⟨rfl, hk⟩
    rw [← hE2, ← hx2]
    exact ⟨rfl, hk⟩)
  have HF2 : RowKit.Hid (∀ (v : Value) (V : World), Rd V v ([7, 3, 1, 97, 0] ++ l) → Calls Try.prog 16 #[v] V fun e w' => e = .returned (.tuple #[.agg #[.int .i64 a2, .int .i64 b2, .string o2, .int .i64 c2, .int .i64 d2, .int .u8 k2, .int .i64 y2, .string t2], .int .i64 x2]) ∧ Kept V w' []) := Lib.hid (fun v V h => by
    refine (refdecode_any v ([7, 3, 1, 97, 0] ++ l) V h (by first | omega | (simp; omega))).mono ?_
    rintro e w' ⟨rfl, hk⟩
    rw [← (dec_same ([7, 3, 1, 97, 0] ++ l)).1, ← (dec_same ([7, 3, 1, 97, 0] ++ l)).2, ← hE2, ← hx2]
    exact ⟨rfl, hk⟩)
  have Q2 := ev_eq a2 b2 o2 c2 d2 k2 y2 t2
  clear hE2 hx2
  have HL := Lib.hid hl
  clear hl
  go_enter Try.func4, Try.ntmps4
  go_wp2_with fail
  refine (HD1.out _ W R.out).mono ?_
  rintro e w1 ⟨rfl, k1⟩
  have K1 := Lib.hid k1; clear k1
  go_wp2_with fail
  refine (HF1.out _ _ (R.out.kept (K1.out.alloc _) (by simp))).mono ?_
  rintro e w2 ⟨rfl, k2⟩
  have K2 := Lib.hid k2; clear k2
  have R0 : Rd ((w2.alloc (.cells #[.int .i64 a1, .int .i64 b1, .string o1, .int .i64 c1, .int .i64 d1, .int .u8 k1, .int .i64 y1, .string t1] 26)).alloc (.cells #[.int .u8 7, .int .u8 3, .int .u8 1, .int .u8 97, .int .u8 0] 5)) (.slice (some ⟨w2.heap.size + 1, 0, none⟩) 5 5) [7, 3, 1, 97, 0] := by
    have := rd_lit (w2.alloc (.cells #[.int .i64 a1, .int .i64 b1, .string o1, .int .i64 c1, .int .i64 d1, .int .u8 k1, .int .i64 y1, .string t1] 26)) [7, 3, 1, 97, 0] #[.int .u8 7, .int .u8 3, .int .u8 1, .int .u8 97, .int .u8 0] 5 5 rfl rfl
    simpa using this
  go_wp2_with fail
  refine (join_any _ _ [7, 3, 1, 97, 0] l _ R0 (R.out.kept ((((K1.out.alloc _).trans K2.out (by simp)).alloc _).alloc _) (by simp)) (by decide) (by have := HL.out; omega)).mono ?_
  rintro e w3 ⟨vq, rfl, oq, k3⟩
  have K3 := Lib.hid k3; have OQ := Lib.hid oq.rd; clear k3 oq R0
  go_wp2_with fail
  refine (HD2.out _ w3 OQ.out).mono ?_
  rintro e w4 ⟨rfl, k4⟩
  have K4 := Lib.hid k4; clear k4
  go_wp2_with fail
  refine (HF2.out _ _ (OQ.out.kept (K4.out.alloc _) (by simp))).mono ?_
  rintro e w5 ⟨rfl, k5⟩
  have K5 := Lib.hid k5; clear k5
  go_wp2_with fail
  refine (nine_any _).mono ?_
  rintro e w6 ⟨rfl, k6⟩
  have h4 : w6.heap[w5.heap.size]? = _ := blk k6
  have h3 := ((Kept.refl w5 []).alloc _ |>.trans k6 (by simp)).heap (by simp) (blk K5.out)
  have m3 := ((K4.out.alloc _).trans K5.out (by simp) |>.alloc _).trans k6 (by simp)
  have m2 := ((((Kept.refl w2 []).alloc _).alloc _).trans K3.out (by simp)).trans m3 (by simp)
  have h2 := ((((Kept.refl _ []).alloc _).trans K3.out (by simp)).trans m3 (by simp)).heap (by simp) (heap_alloc_new w2 (.cells #[.int .i64 a1, .int .i64 b1, .string o1, .int .i64 c1, .int .i64 d1, .int .u8 k1, .int .i64 y1, .string t1] 26))
  have h1 := m2.heap (by simp) (blk K2.out)
  have KF := Lib.hid (((K1.out.alloc _).trans K2.out (by simp)).trans m2 (by simp))
  clear k6 m2 m3
  have p1_0 := cell_of_row w6 w1.heap.size 0 _ _ _ h1
  have p1_1 := cell_of_row w6 w1.heap.size 1 _ _ _ h1
  have p1_2 := cell_of_row w6 w1.heap.size 2 _ _ _ h1
  have p1_3 := cell_of_row w6 w1.heap.size 3 _ _ _ h1
  have p1_4 := cell_of_row w6 w1.heap.size 4 _ _ _ h1
  have p1_5 := cell_of_row w6 w1.heap.size 5 _ _ _ h1
  have p1_6 := cell_of_row w6 w1.heap.size 6 _ _ _ h1
  have p1_7 := cell_of_row w6 w1.heap.size 7 _ _ _ h1
  simp at p1_0 p1_1 p1_2 p1_3 p1_4 p1_5 p1_6 p1_7
  have p2_0 := cell_of_row w6 w2.heap.size 0 _ _ _ h2
  have p2_1 := cell_of_row w6 w2.heap.size 1 _ _ _ h2
  have p2_2 := cell_of_row w6 w2.heap.size 2 _ _ _ h2
  have p2_3 := cell_of_row w6 w2.heap.size 3 _ _ _ h2
  have p2_4 := cell_of_row w6 w2.heap.size 4 _ _ _ h2
  have p2_5 := cell_of_row w6 w2.heap.size 5 _ _ _ h2
  have p2_6 := cell_of_row w6 w2.heap.size 6 _ _ _ h2
  have p2_7 := cell_of_row w6 w2.heap.size 7 _ _ _ h2
  simp at p2_0 p2_1 p2_2 p2_3 p2_4 p2_5 p2_6 p2_7
  have p3_0 := cell_of_row w6 w4.heap.size 0 _ _ _ h3
  have p3_1 := cell_of_row w6 w4.heap.size 1 _ _ _ h3
  have p3_2 := cell_of_row w6 w4.heap.size 2 _ _ _ h3
  have p3_3 := cell_of_row w6 w4.heap.size 3 _ _ _ h3
  have p3_4 := cell_of_row w6 w4.heap.size 4 _ _ _ h3
  have p3_5 := cell_of_row w6 w4.heap.size 5 _ _ _ h3
  have p3_6 := cell_of_row w6 w4.heap.size 6 _ _ _ h3
  have p3_7 := cell_of_row w6 w4.heap.size 7 _ _ _ h3
  simp at p3_0 p3_1 p3_2 p3_3 p3_4 p3_5 p3_6 p3_7
  have p4_0 := cell_of_row w6 w5.heap.size 0 _ _ _ h4
  have p4_1 := cell_of_row w6 w5.heap.size 1 _ _ _ h4
  have p4_2 := cell_of_row w6 w5.heap.size 2 _ _ _ h4
  have p4_3 := cell_of_row w6 w5.heap.size 3 _ _ _ h4
  have p4_4 := cell_of_row w6 w5.heap.size 4 _ _ _ h4
  have p4_5 := cell_of_row w6 w5.heap.size 5 _ _ _ h4
  have p4_6 := cell_of_row w6 w5.heap.size 6 _ _ _ h4
  have p4_7 := cell_of_row w6 w5.heap.size 7 _ _ _ h4
  simp at p4_0 p4_1 p4_2 p4_3 p4_4 p4_5 p4_6 p4_7
  clear h1 h2 h3 h4
  go_wp2
  go_ret
  exact ⟨rfl, KF.out.below (Nat.le_refl _) (by simp)⟩

set_option maxRecDepth 100000 in
theorem lifted (os : Os) (started : os.Started) (H : Type) (enc : TypeId × Value → H) :
    ReturnsInHanded {} Try.checked os 4 .any (Rows.eventReadsSpec.pre6 enc Try.prog Try.f4 Rows.eventReadsRow.domain false) (Rows.eventReadsSpec.post enc Try.prog Try.f4 false true false false) := by
  refine returnsInHanded_of_change (C := Try.checked) own started (by kernel_rfl) Try.func4
    (ChangeSpec.witness6 (enc := enc) (C := Try.checked) false ⟨#[], #[.slice none 0 0], []⟩ 8 (by kernel_rfl) (by kernel_rfl) (by kernel_rfl) (by kernel_rfl)) ?_
  intro W base args ds gs before hval0 hW hcnd _
  have hval : ∀ (j : Nat) t v, Try.f4.params[j]? = some t → args[j]? = some v → Value.okWide Try.prog W .any base t v := hval0
  have hW' := hW
  obtain ⟨p, q, hA0, hV, rfl, hfz, hnd⟩ := hW
  have hA : DataW.TrodAll enc Try.prog W 0 (fun _ => true) true Try.f4.params.toList args.toList ds p := hA0
  rw [Try.params4] at hA hval
  obtain ⟨v0, vs0, d0, ds0, p0, q0, hargs, rfl, rfl, h0, r0⟩ := trodAll_cons hA
  obtain ⟨rfl, rfl, rfl⟩ := trodAll_nil r0
  obtain rfl : args = #[v0] := by cases args; simp_all
  obtain ⟨rfl, rfl⟩ := trodVars_none hV
  obtain ⟨a0, len0, cap0, rfl⟩ := okWide_slice Try.underlying28 (hval 0 28 v0 rfl rfl)
  have k0 := h0
  have lt0 : ∀ x ∈ p0, x.block < W.heap.size := by obtain ⟨m, hm⟩ := k0; exact DataW.trod_lt m _ _ _ hm
  obtain ⟨z0, w0⟩ : ∃ zs, IsRow .u8 W a0 len0 cap0 zs := by
    obtain ⟨fuel, hf⟩ := h0
    rcases open_ints Try.underlying28 Try.underlying5 (by kernel_rfl) hf with ⟨hcs, _⟩ | ⟨x, l, c, zs, hcs, _, hl, hm, hz, _, hcell, hwz⟩
    · simp [Value.cells] at hcs
      obtain ⟨rfl, rfl, rfl⟩ := hcs
      exact ⟨[], .inl ⟨rfl, rfl, rfl, rfl⟩⟩
    · simp [Value.cells] at hcs
      obtain ⟨rfl, rfl, rfl⟩ := hcs
      exact ⟨zs, .inr ⟨_, rfl, hl, hm, by simpa using hz, hcell, hwz⟩⟩
  clear hA0 hval0
  refine (walk a0 len0 cap0 z0 W w0).mono fun e W' ⟨he, bel⟩ => ?_
  subst he
  exact ⟨_, rfl, _, _, _, [], _, [], hW', trodAll_mk1 (shut_bool Try.underlying4 _), (trodAll_cons_mk (Below.trod laidOut (by kernel_rfl) (of_decide_eq_true (by kernel_rfl)) k0 bel lt0) trodAll_mk0), rfl, bel.frame _, fun h => by cases h⟩

theorem over : Rows.eventReadsRow.holds Try.pinned (OpenSpec.ofChange Rows.eventReadsSpec) :=
  OpenClaim.holds_of_wide 4 Try.f4 rfl rfl rfl rfl rfl rfl rfl ⟨rfl, rfl, rfl, rfl, rfl⟩ rfl rfl rfl rfl rfl (by kernel_rfl) Try.func4 (by kernel_rfl)
    (of_decide_eq_true (by kernel_rfl)) (by unfold Func.isWrapper; first | (rw [if_pos (by decide +kernel)]; kernel_rfl) | (rw [if_neg (by decide +kernel)]; exact ⟨rfl, rfl⟩))
    (fun os started H enc _ => lifted os started H enc)

theorem proved : Rows.EventReadsSaid :=
  over
end Go.Proofs.Ytkpjbmcgfdophaa.eventReads

namespace Go.Proofs.Ytkpjbmcgfdophaa
theorem eventReads_holds : Rows.EventReadsSaid := eventReads.proved
#print axioms eventReads_holds
end Go.Proofs.Ytkpjbmcgfdophaa

