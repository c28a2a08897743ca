/-
  The contracts of Sees, Same, Least, of package snap and of carrierref05.
-/
import Derived.Test.YtfmgjmedmbieeaaSnA
namespace Go.Proofs.Ytfmgjmedmbieeaa
open Go.RowKit

/-- Whom a snapshot sees. -/
def seesB (M : Int) (l : List Int) (x : Int) : Bool := decide (1 ≤ x) && (decide (x < M) && !decide (x ∈ l))

theorem seesB_iff {M : Int} {l : List Int} {x : Int} : seesB M l x = true ↔ 1 ≤ x ∧ x < M ∧ x ∉ l := by
  simp [seesB]

set_option maxHeartbeats 400000 in
theorem sees_any (M x : Int) (v : Value) (l : List Int) (w : World) (h : RdI w v l) :
    Calls Try.prog 10 #[.agg #[.int .i64 M, v], .int .i64 x] w fun e w' => e = .returned (.bool (seesB M l x)) ∧ Kept w w' [] := by
  have H := Lib.hid h
  obtain ⟨a, c, rfl, _⟩ := h
  by_cases h1 : (1 : Int) ≤ x
  · by_cases h2 : x < M
    · have r1 : seesB M l x = !decide (x ∈ l) := by simp [seesB, h1, h2]
      have R1 := Lib.hid r1; clear r1
      go_enter Try.func10, Try.ntmps10
      go_wp2_with fail
      refine (contains_any _ l x _ (H.out.keep ((Kept.refl w []).alloc _))).mono ?_
      rintro e w1 ⟨rfl, rfl⟩
      go_wp2
      go_ret
      exact ⟨retb R1.out.symm, (Kept.refl w []).alloc _⟩
    · have r1 : seesB M l x = false := by simp [seesB, h2]
      have R1 := Lib.hid r1; clear r1
      go_enter Try.func10, Try.ntmps10
      go_wp2
      go_ret
      exact ⟨retb R1.out.symm, (Kept.refl w []).alloc _⟩
  · have r1 : seesB M l x = false := by simp [seesB, h1]
    have R1 := Lib.hid r1; clear r1
    go_enter Try.func10, Try.ntmps10
    go_wp2
    go_ret
    exact ⟨retb R1.out.symm, (Kept.refl w []).alloc _⟩

set_option maxHeartbeats 400000 in
theorem rsees_any (M x : Int) (v : Value) (l : List Int) (w : World) (h : RdI w v l) :
    Calls Try.prog 11 #[.agg #[.int .i64 M, v], .int .i64 x] w fun e w' => e = .returned (.bool (seesB M l x)) ∧ Kept w w' [] := by
  have H := Lib.hid h
  obtain ⟨a, c, rfl, _⟩ := h
  by_cases h1 : (1 : Int) ≤ x
  · by_cases h2 : x < M
    · have r1 : seesB M l x = !decide (x ∈ l) := by simp [seesB, h1, h2]
      have R1 := Lib.hid r1; clear r1
      go_enter Try.func11, Try.ntmps11
      go_wp2_with fail
      refine (has_any _ l x _ (H.out.keep ((Kept.refl w []).alloc _))).mono ?_
      rintro e w1 ⟨rfl, rfl⟩
      go_wp2
      go_ret
      exact ⟨retb R1.out.symm, (Kept.refl w []).alloc _⟩
    · have r1 : seesB M l x = false := by simp [seesB, h2]
      have R1 := Lib.hid r1; clear r1
      go_enter Try.func11, Try.ntmps11
      go_wp2
      go_ret
      exact ⟨retb R1.out.symm, (Kept.refl w []).alloc _⟩
  · have r1 : seesB M l x = false := by simp [seesB, h1]
    have R1 := Lib.hid r1; clear r1
    go_enter Try.func11, Try.ntmps11
    go_wp2
    go_ret
    exact ⟨retb R1.out.symm, (Kept.refl w []).alloc _⟩

/-- Are two alike? -/
def sameB (M N : Int) (l m : List Int) : Bool := (M == N) && (l == m)

set_option maxHeartbeats 400000 in
theorem same_any (M N : Int) (va vb : Value) (l m : List Int) (w : World) (ha : RdI w va l) (hb : RdI w vb m) :
    Calls Try.prog 14 #[.agg #[.int .i64 M, va], .agg #[.int .i64 N, vb]] w fun e w' => e = .returned (.bool (sameB M N l m)) ∧ Kept w w' [] := by
  have Ha := Lib.hid ha; have Hb := Lib.hid hb
  obtain ⟨a, c, rfl, _⟩ := ha
  obtain ⟨b, d, rfl, _⟩ := hb
  by_cases h1 : (M == N) = true
  · have r1 : sameB M N l m = (l == m) := by simp [sameB, h1]
    have R1 := Lib.hid r1; clear r1
    go_enter Try.func14, Try.ntmps14
    go_wp2_with fail
    refine (equal_any _ _ l m _ (Ha.out.keep (((Kept.refl w []).alloc _).alloc _)) (Hb.out.keep (((Kept.refl w []).alloc _).alloc _))).mono ?_
    rintro e w1 ⟨rfl, hk⟩
    have Hk := Lib.hid ((((Kept.refl w []).alloc _).alloc _).trans hk (by simp)); clear hk
    go_wp2
    go_ret
    exact ⟨retb R1.out.symm, Hk.out⟩
  · have h2 : (M == N) = false := by simpa using h1
    have r1 : sameB M N l m = false := by simp [sameB, h2]
    have R1 := Lib.hid r1; clear r1 h1
    go_enter Try.func14, Try.ntmps14
    go_wp2
    go_ret
    exact ⟨retb R1.out.symm, ((Kept.refl w []).alloc _).alloc _⟩

/-- The first that isn't seen. -/
def leastI (M : Int) (l : List Int) : Int := l.headD M

theorem reti {a b : Int} (h : a = b) : Ending.returned (.int .i64 a) = .returned (.int .i64 b) := by rw [h]

set_option maxHeartbeats 400000 in
theorem least_any (M : Int) (v : Value) (l : List Int) (w : World) (h : RdI w v l) :
    Calls Try.prog 16 #[.agg #[.int .i64 M, v]] w fun e w' => e = .returned (.int .i64 (leastI M l)) ∧ Kept w w' [] := by
  have hlen := h.len
  obtain ⟨a, c, rfl, hc, hm, _, hl⟩ := h
  by_cases hne : l = []
  · subst hne
    clear hl
    go_enter Try.func16, Try.ntmps16
    go_wp2
    go_ret
    exact ⟨reti rfl, (Kept.refl w []).alloc _⟩
  · obtain ⟨b, o, rfl, hcell⟩ := hl hne
    have hpos : 0 < l.length := List.length_pos_iff.2 hne
    have c0 := ((Kept.refl w []).alloc (.cells #[.int .i64 M, .slice (some ⟨b, o, none⟩) l.length c] 25)).cell (p := ⟨b, o + 0, none⟩) (by simp) (hcell 0 hpos)
    have r1 : leastI M l = l.getD 0 0 := by
      cases l with
      | nil => simp at hpos
      | cons x r => rfl
    have R1 := Lib.hid r1
    obtain ⟨y, hy⟩ : ∃ y, y = l.getD 0 0 := ⟨_, rfl⟩
    rw [← hy] at c0 R1
    rw [Nat.add_zero] at c0
    have x1 : (0 : Int) < (l.length : Int) := by omega
    clear hcell hl r1 hne hy
    go_enter Try.func16, Try.ntmps16
    go_wp2
    go_ret
    exact ⟨reti R1.out.symm, (Kept.refl w []).alloc _⟩

set_option maxHeartbeats 400000 in
theorem rleast_any (M : Int) (v : Value) (l : List Int) (w : World) (h : RdI w v l) :
    Calls Try.prog 17 #[.agg #[.int .i64 M, v]] w fun e w' => e = .returned (.int .i64 (leastI M l)) ∧ Kept w w' [] := by
  have hlen := h.len
  obtain ⟨a, c, rfl, hc, hm, _, hl⟩ := h
  by_cases hne : l = []
  · subst hne
    clear hl
    go_enter Try.func17, Try.ntmps17
    go_wp2
    go_ret
    exact ⟨reti rfl, (Kept.refl w []).alloc _⟩
  · obtain ⟨b, o, rfl, hcell⟩ := hl hne
    have hpos : 0 < l.length := List.length_pos_iff.2 hne
    have c0 := ((Kept.refl w []).alloc (.cells #[.int .i64 M, .slice (some ⟨b, o, none⟩) l.length c] 25)).cell (p := ⟨b, o + 0, none⟩) (by simp) (hcell 0 hpos)
    have r1 : leastI M l = l.getD 0 0 := by
      cases l with
      | nil => simp at hpos
      | cons x r => rfl
    have R1 := Lib.hid r1
    obtain ⟨y, hy⟩ : ∃ y, y = l.getD 0 0 := ⟨_, rfl⟩
    rw [← hy] at c0 R1
    rw [Nat.add_zero] at c0
    have x1 : (0 : Int) < (l.length : Int) := by omega
    clear hcell hl r1 hne hy
    go_enter Try.func17, Try.ntmps17
    go_wp2
    go_ret
    exact ⟨reti R1.out.symm, (Kept.refl w []).alloc _⟩

end Go.Proofs.Ytfmgjmedmbieeaa
