/-
  The contract of carrierref05.Covers.
-/
import Derived.Test.YtodfjpjjcgdmeaaSnF
namespace Go.Proofs.Ytodfjpjjcgdmeaa
open Go.RowKit

/-- How many are hidden. -/
def hid (A : Int) (m : List Int) : Nat := m.countP (fun y => decide (A ≤ y))

theorem hid_step {A : Int} {m : List Int} {k : Nat} (hk : k < m.length) : hid A (m.take (k + 1)) = hid A (m.take k) + if A ≤ m[k] then 1 else 0 := by
  unfold hid
  rw [List.take_succ_eq_append_getElem hk, List.countP_append]
  by_cases h : A ≤ m[k] <;> simp [h]

theorem hid_le {A : Int} {m : List Int} (k : Nat) : hid A (m.take k) ≤ m.length := Nat.le_trans List.countP_le_length (by simp; omega)

theorem spot_ex {A : Int} : ∀ {m : List Int}, Inc m → ∃ i, Spot m A i ∧ hid A m = m.length - i := by
  intro m
  induction m with
  | nil => intro _; exact ⟨0, ⟨by simp, by simp, by simp⟩, rfl⟩
  | cons y r ih =>
    intro h
    have hr : Inc r := fun i j h1 h2 => by simpa using h (i + 1) (j + 1) (by omega) (by simpa using h2)
    by_cases hy : A ≤ y
    · have hall : ∀ j, j < (y :: r).length → A ≤ (y :: r).getD j 0 := by
        intro j hj
        cases j with
        | zero => simpa using hy
        | succ j => have := h 0 (j + 1) (by omega) hj; simp only [List.getD_cons_zero] at this; omega
      refine ⟨0, ⟨by simp, fun j hj => absurd hj (by omega), fun j _ h2 => hall j h2⟩, ?_⟩
      unfold hid
      rw [Nat.sub_zero, List.countP_eq_length]
      intro x hx
      obtain ⟨j, hj, e⟩ := mem_getD hx
      have := hall j hj
      rw [e] at this
      simpa using this
    · obtain ⟨i, hi, he⟩ := ih hr
      refine ⟨i + 1, ⟨by have := hi.1; simp; omega, ?_, ?_⟩, ?_⟩
      · intro j hj
        cases j with
        | zero => simp; omega
        | succ j => simpa using hi.2.1 j (by omega)
      · intro j h1 h2
        cases j with
        | zero => omega
        | succ j => simpa using hi.2.2 j (by omega) (by simpa using h2)
      · unfold hid at he ⊢
        simp only [List.countP_cons, hy, decide_false, List.length_cons]
        simp
        omega

theorem hid_cover {A B : Int} {l m : List Int} {k j : Nat} (hA : rightB A l = true) (hB : rightB B m = true) (hk : l.length ≤ k) (h : ∀ x ∈ l.take k, seesB B m x = false) (hj : m.length ≤ j) (hAB : ¬ B ≤ A) : ((hid A (m.take j) : Int) == B - A) = true ↔ Cover A B l m := by
  obtain ⟨i, hi, he⟩ := spot_ex (A := A) (right_inc hB)
  have h0 := cover_end hA hB hk h hi
  rw [← h0, List.take_of_length_le hj, he]
  have hA1 := right_one hA
  have hu : upB B (A - 1) (m.drop i) = true := by
    simp only [rightB, Bool.and_eq_true] at hB
    exact upB_drop i hB.2 (fun j h2 h3 => by have := hi.2.2 j h2 h3; omega)
  have h1 := upB_len hu (by omega)
  have hi1 := hi.1
  simp only [List.length_drop] at h1
  simp only [beq_iff_eq, decide_eq_true_eq]
  omega

theorem hid_cover2 {A B : Int} {l m : List Int} {k : Nat} (hA : rightB A l = true) (hB : rightB B m = true) (hk : l.length ≤ k) (h : ∀ x ∈ l.take k, seesB B m x = false) (hAB : B ≤ A) : Cover A B l m := by
  obtain ⟨i, hi, he⟩ := spot_ex (A := A) (right_inc hB)
  have h0 := cover_end hA hB hk h hi
  have hi1 := hi.1
  rw [← h0]
  simp only [decide_eq_true_eq]
  omega

/-- What is told. -/
def CovPost (A B : Int) (l m : List Int) (w : World) (e : Ending) (w' : World) : Prop := ∃ r : Bool, e = .returned (.bool r) ∧ (r = true ↔ Cover A B l m) ∧ Kept w w' []

theorem CovPost.is {A B : Int} {l m : List Int} {w w' : World} {r : Bool} (h : r = true ↔ Cover A B l m) (k : Kept w w' []) : CovPost A B l m w (.returned (.bool r)) w' := ⟨r, rfl, h, k⟩

set_option maxHeartbeats 2000000 in
set_option maxRecDepth 100000 in
theorem rcovers_any (A B : Int) (va vb : Value) (l m : List Int) (w : World) (ha : RdI w va l) (hb : RdI w vb m) (rA : rightB A l = true) (rB : rightB B m = true)
    (hA : A ≤ 9223372036854775807) (hB : B ≤ 9223372036854775807) (hl : l.length ≤ 1000) (hm : m.length ≤ 1000) :
    Calls Try.prog 25 #[.agg #[.int .i64 A, va], .agg #[.int .i64 B, vb]] w (CovPost A B l m w) := by
  have Hb0 := Lib.hid hb
  have Ha0 := Lib.hid ha
  obtain ⟨a, c, rfl, hc, _⟩ := ha
  obtain ⟨b, d, rfl, _⟩ := hb
  have K := Lib.hid (((Kept.refl w []).alloc (.cells #[.int .i64 A, .slice a l.length c] 35)).alloc (.cells #[.int .i64 B, .slice b m.length d] 35))
  obtain ⟨w1, hw1⟩ : ∃ w1, w1 = (w.alloc (.cells #[.int .i64 A, .slice a l.length c] 35)).alloc (.cells #[.int .i64 B, .slice b m.length d] 35) := ⟨_, rfl⟩
  have Z : Hid (w1.cell? ⟨w.heap.size, 0, none⟩ = some (.int .i64 A) ∧ w1.cell? ⟨w.heap.size, 1, none⟩ = some (.slice a l.length c) ∧ w1.cell? ⟨w.heap.size + 1, 0, none⟩ = some (.int .i64 B) ∧ w1.cell? ⟨w.heap.size + 1, 1, none⟩ = some (.slice b m.length d)) := by
    have h1 : (w.alloc (.cells #[.int .i64 A, .slice a l.length c] 35)).heap.size = w.heap.size + 1 := by simp
    have h2 : w1.heap[w.heap.size]? = some (.cells #[.int .i64 A, .slice a l.length c] 35 (0, 0)) := by rw [hw1]; exact (Below.heap_alloc _ _ _ (by simp)).trans (heap_alloc_new w _)
    have h3 : w1.heap[w.heap.size + 1]? = some (.cells #[.int .i64 B, .slice b m.length d] 35 (0, 0)) := by rw [hw1, ← h1]; exact heap_alloc_new _ _
    exact Lib.hid ⟨by simpa using cell_of_row w1 w.heap.size 0 _ _ _ h2, by simpa using cell_of_row w1 w.heap.size 1 _ _ _ h2, by simpa using cell_of_row w1 (w.heap.size + 1) 0 _ _ _ h3, by simpa using cell_of_row w1 (w.heap.size + 1) 1 _ _ _ h3⟩
  rw [← hw1] at K
  have RA := Lib.hid rA; have RB := Lib.hid rB
  have iA := right_one rA; have iB := right_one rB
  clear rA rB
  go_enter Try.func25, Try.ntmps25
  go_wp2
  rw [← hw1]
  clear hw1
  go_loopw [5] (fun t wr => ∃ k : Nat, t = .int .i64 k ∧ k ≤ l.length ∧ (∀ x ∈ l.take k, seesB B m x = false) ∧ Kept w1 wr []) (fun t _ => l.length - (intOf t).toNat)
  case atStart => exact ⟨0, rfl, Nat.zero_le _, by simp, Kept.refl _ _⟩
  case round =>
    obtain ⟨k, rfl, hk, hx, hkr⟩ := hrel
    have Hx := Lib.hid hx; have Kr := Lib.hid hkr; clear hx hkr
    have z0 := Kr.out.cell (p := ⟨w.heap.size, 0, none⟩) (by simp) Z.out.1
    have z1 := Kr.out.cell (p := ⟨w.heap.size, 1, none⟩) (by simp) Z.out.2.1
    have z2 := Kr.out.cell (p := ⟨w.heap.size + 1, 0, none⟩) (by simp) Z.out.2.2.1
    have z3 := Kr.out.cell (p := ⟨w.heap.size + 1, 1, none⟩) (by simp) Z.out.2.2.2
    by_cases hlt : k < l.length
    · obtain ⟨a', c', e1, _, _, _, hla⟩ := Ha0.out
      simp only [Value.slice.injEq, true_and] at e1
      obtain ⟨rfl, rfl⟩ := e1
      obtain ⟨ab, ao, rfl, hcell⟩ := hla (by rintro rfl; simp at hlt)
      have C1 := Lib.hid (K.out.cell (p := ⟨ab, ao + k, none⟩) (by simp) (hcell k hlt))
      have x1 : (k : Int) < (l.length : Int) := by omega
      obtain ⟨x, hx⟩ : ∃ x, x = l.getD k 0 := ⟨_, rfl⟩
      have hx2 : l[k] = x := by rw [hx]; simp [List.getD, hlt]
      rw [← hx] at C1
      have c1 := Kr.out.cell (p := ⟨ab, ao + k, none⟩) (by simp) C1.out
      have N := Lib.hid (fun h => cover_no (A := A) (B := B) (m := m) hlt (by rw [hx2]; exact h))
      have Y := Lib.hid (fun h => all_take (B := B) (m := m) hlt Hx.out (by rw [hx2]; exact h))
      have HS : Hid (∀ W, Kept w1 W [] → Calls Try.prog 36 #[.agg #[.int .i64 B, .slice b m.length d], .int .i64 x] W fun e w' => e = .returned (.bool (seesB B m x)) ∧ Kept w1 w' []) := Lib.hid (fun W hW => by
        refine (rsees_any B x _ m W ((Hb0.out.keep K.out).keep hW)).mono ?_
        rintro e w' ⟨rfl, h2⟩
        exact ⟨rfl, hW.trans h2 (by simp)⟩)
      have hKr := Kr.out.drew
      clear hx hx2 hla hcell
      by_cases hs : seesB B m x = true
      · have n := Lib.hid (N.out hs)
        rw [hs] at HS
        go_wp2_with fail
        go_region_held3 (fun W => W.cell? ⟨w.heap.size, 1, none⟩ = some (.slice (some ⟨ab, ao, none⟩) l.length c) ∧ W.cell? ⟨w.heap.size + 1, 0, none⟩ = some (.int .i64 B) ∧ W.cell? ⟨w.heap.size + 1, 1, none⟩ = some (.slice b m.length d) ∧ W.cell? ⟨ab, ao + k, none⟩ = some (.int .i64 x)) (first | exact ⟨z1, z2, z3, c1⟩ | exact y4)
          (first | (go_at_call 36; refine (HS.out _ ?_).mono ?_; assumption; rintro e w8 ⟨rfl, k8⟩; have y4 : _ ∧ _ ∧ _ ∧ _ := ⟨k8.cell (p := ⟨w.heap.size, 1, none⟩) (by simp) Z.out.2.1, k8.cell (p := ⟨w.heap.size + 1, 0, none⟩) (by simp) Z.out.2.2.1, k8.cell (p := ⟨w.heap.size + 1, 1, none⟩) (by simp) Z.out.2.2.2, k8.cell (p := ⟨ab, ao + k, none⟩) (by simp) C1.out⟩))
        go_wp2
        go_ret
        exact CovPost.is (iff_of_false (by simp) n.out) (K.out.trans k8 (by simp))
      · have hs2 : seesB B m x = false := by simpa using hs
        have y := Lib.hid (Y.out hs2)
        rw [hs2] at HS
        clear hs
        go_wp2_with fail
        go_region_held3 (fun W => W.cell? ⟨w.heap.size, 1, none⟩ = some (.slice (some ⟨ab, ao, none⟩) l.length c) ∧ W.cell? ⟨w.heap.size + 1, 0, none⟩ = some (.int .i64 B) ∧ W.cell? ⟨w.heap.size + 1, 1, none⟩ = some (.slice b m.length d) ∧ W.cell? ⟨ab, ao + k, none⟩ = some (.int .i64 x)) (first | exact ⟨z1, z2, z3, c1⟩ | exact y4)
          (first | (go_at_call 36; refine (HS.out _ ?_).mono ?_; assumption; rintro e w8 ⟨rfl, k8⟩; have y4 : _ ∧ _ ∧ _ ∧ _ := ⟨k8.cell (p := ⟨w.heap.size, 1, none⟩) (by simp) Z.out.2.1, k8.cell (p := ⟨w.heap.size + 1, 0, none⟩) (by simp) Z.out.2.2.1, k8.cell (p := ⟨w.heap.size + 1, 1, none⟩) (by simp) Z.out.2.2.2, k8.cell (p := ⟨ab, ao + k, none⟩) (by simp) C1.out⟩))
        go_wp2
        go_roundw
        case rel => exact ⟨k + 1, by go_num, by omega, y.out, k8⟩
        case measure => simp [intOf]; omega
    · have x1 : ¬ (k : Int) < (l.length : Int) := by omega
      go_wp2
      go_loopw [6, 7] (fun t6 t7 wr2 => ∃ j : Nat, t7 = .int .i64 j ∧ t6 = .int .i64 (hid A (m.take j)) ∧ j ≤ m.length ∧ Kept w1 wr2 []) (fun _ t7 _ => m.length - (intOf t7).toNat)
      case atStart => exact ⟨0, rfl, rfl, Nat.zero_le _, Kr.out⟩
      case round =>
        rename_i wr0 
        obtain ⟨j, rfl, rfl, hj, hk2⟩ := hrel
        have K2 := Lib.hid hk2; clear hk2 z0 z1 z2 z3
        have z0 := K2.out.cell (p := ⟨w.heap.size, 0, none⟩) (by simp) Z.out.1
        have z2 := K2.out.cell (p := ⟨w.heap.size + 1, 0, none⟩) (by simp) Z.out.2.2.1
        have z3 := K2.out.cell (p := ⟨w.heap.size + 1, 1, none⟩) (by simp) Z.out.2.2.2
        have hh := hid_le (A := A) (m := m) j
        by_cases hlt : j < m.length
        · obtain ⟨b', d', e1, _, _, _, hlb⟩ := Hb0.out
          simp only [Value.slice.injEq, true_and] at e1
          obtain ⟨rfl, rfl⟩ := e1
          obtain ⟨bb, bo, rfl, hcell⟩ := hlb (by rintro rfl; simp at hlt)
          have c1 := K2.out.cell (p := ⟨bb, bo + j, none⟩) (by simp) (K.out.cell (p := ⟨bb, bo + j, none⟩) (by simp) (hcell j hlt))
          have x2 : (j : Int) < (m.length : Int) := by omega
          have St := Lib.hid (hid_step (A := A) hlt)
          obtain ⟨x, hx⟩ : ∃ x, x = m.getD j 0 := ⟨_, rfl⟩
          have hx2 : m[j] = x := by rw [hx]; simp [List.getD, hlt]
          rw [← hx] at c1
          rw [hx2] at St
          clear hx hx2 hlb hcell
          by_cases hAx : A ≤ x
          · rw [if_pos hAx] at St
            go_wp2
            go_quiet (fail)
            go_wp2
            go_roundw
            case rel => exact ⟨j + 1, by go_num, by rw [St.out]; go_num, by omega, K2.out.drewN _⟩
            case measure => simp [intOf]; omega
          · rw [if_neg hAx] at St
            have d1 : decide (A ≤ x) = false := decide_eq_false hAx
            go_wp2
            go_quiet (fail)
            go_wp2
            go_roundw
            case rel => exact ⟨j + 1, by go_num, by rw [St.out]; rfl, by omega, K2.out.drewN _⟩
            case measure => simp [intOf]; omega
        · have x2 : ¬ (j : Int) < (m.length : Int) := by omega
          by_cases hBA : B ≤ A
          · have E := Lib.hid (hid_cover2 RA.out RB.out (by omega) Hx.out hBA)
            go_wp2
            go_ret
            exact CovPost.is (iff_of_true rfl E.out) (K.out.trans K2.out (by simp))
          · have E := Lib.hid (hid_cover RA.out RB.out (by omega) Hx.out (show m.length ≤ j by omega) hBA)
            have e1 : wrap64 (B - A) = B - A := by simp only [wrap64]; omega
            generalize hid A (m.take j) = hh1 at *
            go_wp2
            go_ret
            exact CovPost.is E.out (K.out.trans K2.out (by simp))

end Go.Proofs.Ytodfjpjjcgdmeaa
