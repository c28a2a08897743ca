/-
  The document's example (clash); the calls of no heap, and of one without a manager.
-/
import Derived.Test.YtpknnpdnhdcnjaaHo
namespace Go.Proofs.Ytpknnpdnhdcnjaa
open Go.RowKit Go.Maps

/-- A view in a box. -/
def Bv (w : World) (g : Nat) (mx own : Int) (sl : Value) (l : List Int) : Prop := w.heap[g]? = some (.cells #[.int .i64 mx, sl, .int .i64 own] 37 (0, 0)) ∧ Vo w sl l

theorem Bv.keep {w w' : World} {g : Nat} {mx own : Int} {sl : Value} {l : List Int} (a : Bv w g mx own sl l) (hk : Kept w w' []) : Bv w' g mx own sl l := ⟨hk.heap (by simp) a.1, a.2.keep hk⟩
theorem Bv.fo {w w' : World} {B p h : Nat} {O : Nat → Prop} {st : List Nat} {ks : List Int} {F : Int → List Vr} {g : Nat} {mx own : Int} {sl : Value} {l : List Int} (a : Bv w g mx own sl l) (s : Sd w B p h O st ks F) (hf : Fo O w w') : Bv w' g mx own sl l :=
  ⟨s.heap hf a.1 (by decide), s.vo hf a.2⟩
theorem Bv.cells {w : World} {g : Nat} {mx own : Int} {sl : Value} {l : List Int} (a : Bv w g mx own sl l) : w.cell? ⟨g, 0, none⟩ = some (.int .i64 mx) ∧ w.cell? ⟨g, 1, none⟩ = some sl ∧ w.cell? ⟨g, 2, none⟩ = some (.int .i64 own) := three_at a.1
theorem Bv.make {w : World} {mx own : Int} {sl : Value} {l : List Int} (a : Vo w sl l) : Bv (w.alloc (.cells #[.int .i64 mx, sl, .int .i64 own] 37)) w.heap.size mx own sl l :=
  ⟨heap_alloc_new w _, a.keep ((Kept.refl w []).alloc _)⟩

/-- A row of the example. -/
def clF : Int → List Vr := updF (fun _ => []) 5 [⟨⟨#[]⟩, 1, 0⟩]

set_option maxRecDepth 20000 in
set_option maxHeartbeats 2000000 in
theorem clash_any (W : World) : Calls Try.prog 8 #[] W fun e w' => e = .returned (.bool true) ∧ Kept W w' [] := by
  go_enter Try.func8, Try.ntmps8
  go_wp2_with fail
  refine (mnew_any W).mono ?_
  rintro e w1 ⟨p, b, v1, rfl, hm, hk⟩
  have M1 := Lib.hid hm; have K1 := Lib.hid hk
  clear hm hk
  go_wp2_with fail
  refine (hnew_sd M1.out).mono ?_
  rintro e w2 ⟨h, O2, rfl, s, hk, _⟩
  have S2 := Lib.hid s; have L2 := Lib.hid (show Below W.heap.size W w2 from (K1.out.trans hk (by simp)).below (Nat.le_refl _) (by simp))
  clear s hk
  have c3 : Calls Try.prog 12 #[.pointer (some ⟨p, 0, none⟩)] w2 fun e w' => e = .returned (.tuple #[.int .i64 1, .int .i64 0]) ∧ ∃ O', Sd w' W.heap.size p h O' [1] [] (fun _ => []) ∧ Stp O2 O' w2 w' := begin_sd S2.out (by decide) (by decide)
  go_wp2_with fail
  refine c3.mono ?_
  rintro e w3 ⟨rfl, O3, s, f⟩
  have S3 := Lib.hid s; have L3 := Lib.hid (L2.out.trans (S2.out.below f.1))
  clear s f c3
  have c4 : Calls Try.prog 13 #[.pointer (some ⟨p, 0, none⟩)] w3 fun e w' => ∃ u c, e = .returned (.agg #[.int .i64 2, .slice u 1 c]) ∧ Vo w' (.slice u 1 c) [1] ∧ Kept w3 w' [] := now_sd S3.out
  go_wp2_with fail
  refine c4.mono ?_
  rintro e w4 ⟨u4, d4, rfl, vo, hk⟩
  obtain ⟨W4, hW4⟩ : ∃ W4, W4 = w4.alloc (.cells #[.int .i64 2, .slice u4 1 d4, .int .i64 1] 37) := ⟨_, rfl⟩
  obtain ⟨g1, hg1⟩ : ∃ g1, g1 = w4.heap.size := ⟨_, rfl⟩
  have V4 : Hid (Bv W4 g1 2 1 (.slice u4 1 d4) [1]) := Lib.hid (by rw [hW4, hg1]; exact Bv.make vo)
  have k4 : Kept w3 W4 [] := by rw [hW4]; exact hk.alloc _
  have S4 := Lib.hid (S3.out.keep k4); have L4 := Lib.hid (L3.out.trans (k4.below (B := W.heap.size) S3.out.size (by simp)))
  clear vo hk k4 c4
  have c5 : Calls Try.prog 12 #[.pointer (some ⟨p, 0, none⟩)] W4 fun e w' => e = .returned (.tuple #[.int .i64 2, .int .i64 0]) ∧ ∃ O', Sd w' W.heap.size p h O' [1, 1] [] (fun _ => []) ∧ Stp O3 O' W4 w' := begin_sd S4.out (by decide) (by decide)
  go_wp2_with fail
  rw [← hW4, ← hg1]
  clear hW4 hg1
  refine c5.mono ?_
  rintro e w5 ⟨rfl, O5, s, f⟩
  have S5 := Lib.hid s; have L5 := Lib.hid (L4.out.trans (S4.out.below f.1)); have V5 := Lib.hid (V4.out.fo S4.out f.1)
  clear s f c5
  have c6 : Calls Try.prog 13 #[.pointer (some ⟨p, 0, none⟩)] w5 fun e w' => ∃ u c, e = .returned (.agg #[.int .i64 3, .slice u 2 c]) ∧ Vo w' (.slice u 2 c) [1, 2] ∧ Kept w5 w' [] := now_sd S5.out
  go_wp2_with fail
  refine c6.mono ?_
  rintro e w6 ⟨u6, d6, rfl, vo, hk⟩
  obtain ⟨W6, hW6⟩ : ∃ W6, W6 = w6.alloc (.cells #[.int .i64 3, .slice u6 2 d6, .int .i64 2] 37) := ⟨_, rfl⟩
  obtain ⟨g2, hg2⟩ : ∃ g2, g2 = w6.heap.size := ⟨_, rfl⟩
  have U6 : Hid (Bv W6 g2 3 2 (.slice u6 2 d6) [1, 2]) := Lib.hid (by rw [hW6, hg2]; exact Bv.make vo)
  have k6 : Kept w5 W6 [] := by rw [hW6]; exact hk.alloc _
  have S6 := Lib.hid (S5.out.keep k6); have L6 := Lib.hid (L5.out.trans (k6.below (B := W.heap.size) S5.out.size (by simp))); have V6 := Lib.hid (V5.out.keep k6)
  have y0 : (w6.alloc (.cells #[.int .i64 3, .slice u6 2 d6, .int .i64 2] 37)).cell? ⟨g1, 0, none⟩ = some (.int .i64 2) := by rw [← hW6]; exact V6.out.cells.1
  have y1 : (w6.alloc (.cells #[.int .i64 3, .slice u6 2 d6, .int .i64 2] 37)).cell? ⟨g1, 1, none⟩ = some (.slice u4 1 d4) := by rw [← hW6]; exact V6.out.cells.2.1
  have y2 : (w6.alloc (.cells #[.int .i64 3, .slice u6 2 d6, .int .i64 2] 37)).cell? ⟨g1, 2, none⟩ = some (.int .i64 1) := by rw [← hW6]; exact V6.out.cells.2.2
  clear vo hk k6 c6
  have c7 : Calls Try.prog 14 #[.pointer (some ⟨h, 0, none⟩), .agg #[.int .i64 2, .slice u4 1 d4, .int .i64 1], .agg #[.int .i64 5, .string ⟨#[]⟩]] W6 fun e w' => e = .returned (.int .i64 0) ∧ ∃ O', Sd w' W.heap.size p h O' [1, 1] [5] clF ∧ Stp O5 O' W6 w' :=
    insert_sd S6.out 2 1 u4 1 d4 [1] V6.out.2 (by decide) 5 ⟨#[]⟩ (by decide) (by decide) (by decide)
  go_wp2_with fail
  rw [← hW6, ← hg2]
  clear hW6 hg2 y0 y1 y2
  refine c7.mono ?_
  rintro e w7 ⟨rfl, O7, s, f⟩
  have S7 := Lib.hid s; have L7 := Lib.hid (L6.out.trans (S6.out.below f.1)); have V7 := Lib.hid (V6.out.fo S6.out f.1); have U7 := Lib.hid (U6.out.fo S6.out f.1)
  obtain ⟨y0, y1, y2⟩ := U7.out.cells
  clear s f c7
  have c8 : Calls Try.prog 14 #[.pointer (some ⟨h, 0, none⟩), .agg #[.int .i64 3, .slice u6 2 d6, .int .i64 2], .agg #[.int .i64 5, .string ⟨#[]⟩]] w7 fun e w' => e = .returned (.int .i64 6) ∧ ∃ O', Sd w' W.heap.size p h O' [1, 1] [5] clF ∧ Stp O7 O' w7 w' :=
    insert_sd S7.out 3 2 u6 2 d6 [1, 2] U7.out.2 (by decide) 5 ⟨#[]⟩ (by decide) (by decide) (by decide)
  go_wp2_with fail
  refine c8.mono ?_
  rintro e w8 ⟨rfl, O8, s, f⟩
  have S8 := Lib.hid s; have L8 := Lib.hid (L7.out.trans (S7.out.below f.1)); have V8 := Lib.hid (V7.out.fo S7.out f.1); have U8 := Lib.hid (U7.out.fo S7.out f.1)
  clear s f c8 y0 y1 y2
  obtain ⟨y0, y1, y2⟩ := V8.out.cells
  have bnd : ([5] : List Int).length ≤ 900 ∧ (∀ k, (clF k).length ≤ 900) ∧ 900 ≤ 900 := ⟨by decide, fun k => by unfold clF updF; split <;> simp, by decide⟩
  have c9 : Calls Try.prog 16 #[.pointer (some ⟨h, 0, none⟩), .agg #[.int .i64 2, .slice u4 1 d4, .int .i64 1]] w8 fun e w' => ∃ v', e = .returned v' ∧ w'.ownsRow w8.heap.size 42 2 v' 1 (rcl (scanR (sees [1, 1] ⟨2, [1], 1⟩) [5] clF)) ∧ Kept w8 w' [] := scan_sd S8.out 2 1 u4 1 d4 [1] V8.out.2 900 bnd
  have C9 := Lib.hid c9
  clear c9
  go_wp2_with fail
  refine C9.out.mono ?_
  rintro e w9 ⟨sv, rfl, ho, hk⟩
  obtain ⟨sa, sc, hsv⟩ := ownsRow_shape ho
  subst hsv
  have S9 := Lib.hid (S8.out.keep hk); have L9 := Lib.hid (L8.out.trans (hk.below (B := W.heap.size) S8.out.size (by simp))); have U9 := Lib.hid (U8.out.keep hk)
  clear y0 y1 y2 ho hk C9
  obtain ⟨y0, y1, y2⟩ := U9.out.cells
  have C10 : Hid (Calls Try.prog 16 #[.pointer (some ⟨h, 0, none⟩), .agg #[.int .i64 3, .slice u6 2 d6, .int .i64 2]] w9 fun e w' => ∃ v', e = .returned v' ∧ w'.ownsRow w9.heap.size 42 2 v' 0 (rcl (scanR (sees [1, 1] ⟨3, [1, 2], 2⟩) [5] clF)) ∧ Kept w9 w' []) := Lib.hid (scan_sd S9.out 3 2 u6 2 d6 [1, 2] U9.out.2 900 bnd)
  clear bnd
  go_wp2_with fail
  refine C10.out.mono ?_
  rintro e w10 ⟨sv, rfl, ho, hk⟩
  obtain ⟨sb, sd, hsv⟩ := ownsRow_shape ho
  subst hsv
  have L10 := Lib.hid (L9.out.trans (hk.below (B := W.heap.size) S9.out.size (by simp)))
  clear y0 y1 y2 ho hk C10
  go_wp2
  go_ret
  exact ⟨rfl, Kept.ofBelow L10.out []⟩

end Go.Proofs.Ytpknnpdnhdcnjaa
