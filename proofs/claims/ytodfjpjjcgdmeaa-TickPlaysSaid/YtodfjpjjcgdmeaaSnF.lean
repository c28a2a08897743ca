/-
  The contract of snap.Covers.
-/
import Derived.Test.YtodfjpjjcgdmeaaSnE
namespace Go.Proofs.Ytodfjpjjcgdmeaa
open Go.RowKit

theorem all_take {B : Int} {l m : List Int} {k : Nat} (hk : k < l.length) (h : ∀ x ∈ l.take k, seesB B m x = false) (hx : seesB B m l[k] = false) : ∀ x ∈ l.take (k + 1), seesB B m x = false := by
  intro x hm
  rw [List.take_succ_eq_append_getElem hk, List.mem_append] at hm
  rcases hm with h1 | h1
  · exact h x h1
  · rw [List.mem_singleton.1 h1]; exact hx

theorem cover_no {A B : Int} {l m : List Int} {k : Nat} (hk : k < l.length) (hx : seesB B m l[k] = true) : ¬ Cover A B l m := by
  intro h
  exact (seesB_iff.1 (h _ hx)).2.2 (List.getElem_mem hk)

theorem cover_end {A B : Int} {l m : List Int} {k i : Nat} (hA : rightB A l = true) (hB : rightB B m = true) (hk : l.length ≤ k) (h : ∀ x ∈ l.take k, seesB B m x = false) (hi : Spot m A i) : decide (B - A ≤ (m.length : Int) - (i : Int)) = true ↔ Cover A B l m := by
  rw [← cover_iff hA hB hi, coverB, List.take_of_length_le hk] at *
  have h1 : l.all (fun x => !seesB B m x) = true := by
    rw [List.all_eq_true]
    intro x hx
    rw [h x hx]; rfl
  have h2 : ((m.length - i : Nat) : Int) = (m.length : Int) - (i : Int) := by have := hi.1; omega
  rw [h1, Bool.true_and, h2]

set_option maxHeartbeats 1000000 in
set_option maxRecDepth 100000 in
theorem covers_any (A B : Int) (va vb : Value) (l m : List Int) (w : World) (ha : RdI w va l) (hb : RdI w vb m) (rA : rightB A l = true) (rB : rightB B m = true)
    (hA : A ≤ 9223372036854775807) (hB : B ≤ 9223372036854775807) (hl : l.length ≤ 1000) (hm : m.length ≤ 1000) :
    Calls Try.prog 41 #[.agg #[.int .i64 A, va], .agg #[.int .i64 B, vb]] w fun e w' => ∃ r : Bool, e = .returned (.bool r) ∧ (r = true ↔ Cover A B l m) ∧ Kept w w' [] := by
  have Hb0 := Lib.hid hb
  have Ha0 := Lib.hid ha
  obtain ⟨a, c, rfl, hc, _⟩ := ha
  obtain ⟨b, d, rfl, _⟩ := hb
  have K := Lib.hid (((Kept.refl w []).alloc (.cells #[.int .i64 A, .slice a l.length c] 35)).alloc (.cells #[.int .i64 B, .slice b m.length d] 35))
  have RA := Lib.hid rA; have RB := Lib.hid rB
  have iA := right_one rA; have iB := right_one rB
  clear rA rB
  go_enter Try.func41, Try.ntmps41
  go_wp2
  go_loop [14] (fun t => ∃ k : Nat, t = .int .i64 k ∧ k ≤ l.length ∧ ∀ x ∈ l.take k, seesB B m x = false) (fun t => l.length - (intOf t).toNat)
  case atStart => exact ⟨0, rfl, Nat.zero_le _, by simp⟩
  case round =>
    obtain ⟨k, rfl, hk, hx⟩ := hrel
    have Hx := Lib.hid hx; clear hx
    have hb1 := Hb0.out.keep K.out
    by_cases hlt : k < l.length
    · obtain ⟨a', c', e1, _, _, _, hla⟩ := Ha0.out
      simp only [Value.slice.injEq, true_and] at e1
      obtain ⟨rfl, rfl⟩ := e1
      obtain ⟨ab, ao, rfl, hcell⟩ := hla (by rintro rfl; simp at hlt)
      have c1 := K.out.cell (p := ⟨ab, ao + k, none⟩) (by simp) (hcell k hlt)
      have x1 : (k : Int) < (l.length : Int) := by omega
      obtain ⟨x, hx⟩ : ∃ x, x = l.getD k 0 := ⟨_, rfl⟩
      have hx2 : l[k] = x := by rw [hx]; simp [List.getD, hlt]
      rw [← hx] at c1
      have h1x := (right_mem RA.out l[k] (List.getElem_mem hlt)).1
      rw [hx2] at h1x
      have N := Lib.hid (fun h => cover_no (A := A) (B := B) (m := m) hlt (by rw [hx2]; exact h))
      have Y := Lib.hid (fun h => all_take (B := B) (m := m) hlt Hx.out (by rw [hx2]; exact h))
      clear hx hx2 hla hcell
      go_wp2_with fail
      refine (search_any _ m x _ hb1 (right_inc RB.out) (by omega)).mono ?_
      rintro e w1 ⟨i, rfl, hi, rfl⟩
      clear hi hb1
      by_cases hm1 : x ∈ m
      · have y := Lib.hid (Y.out (by simp [seesB, hm1]))
        have d1 : decide (x ∈ m) = true := decide_eq_true hm1
        clear hm1
        go_wp2
        go_round
        case rel => exact ⟨k + 1, by go_num, by omega, y.out⟩
        case measure => simp [intOf]; omega
      · have d1 : decide (x ∈ m) = false := decide_eq_false hm1
        by_cases hxB : x < B
        · have n := Lib.hid (N.out (seesB_iff.2 ⟨h1x, hxB, hm1⟩))
          clear hm1
          go_wp2
          go_ret
          exact ⟨_, rfl, iff_of_false (by simp) n.out, K.out⟩
        · have y := Lib.hid (Y.out (by simp [seesB, hxB]))
          clear hm1
          go_wp2
          go_round
          case rel => exact ⟨k + 1, by go_num, by omega, y.out⟩
          case measure => simp [intOf]; omega
    · have x1 : ¬ (k : Int) < (l.length : Int) := by omega
      go_wp2_with fail
      refine (search_any _ m A _ hb1 (right_inc RB.out) (by omega)).mono ?_
      rintro e w1 ⟨i, rfl, hi, rfl⟩
      have hi0 := hi.1
      have E := Lib.hid (cover_end RA.out RB.out (by omega) Hx.out hi)
      clear hi hb1
      generalize decide (A ∈ m) = r0
      have e1 : wrap64 (B - A) = B - A := by simp only [wrap64]; omega
      have e2 : wrap64 ((m.length : Int) - (i : Int)) = (m.length : Int) - (i : Int) := by simp only [wrap64]; omega
      go_wp2
      go_ret
      exact ⟨_, rfl, E.out, K.out⟩

end Go.Proofs.Ytodfjpjjcgdmeaa
