/-
  SnC, SnD, SnE, SnF, SnG, SnH in one text.
-/
import Derived.Test.YticiofkiffgclaaGreatQo12
import Derived.WalkArith
import Derived.Deep.RegionHeld3
import Derived.Test.YticiofkiffgclaaGreatQo1
namespace Go.Proofs.YticiofkiffgclaaGreat
open Go.RowKit

def upB (M : Int) : Int → List Int → Bool
  | _, [] => true
  | b, x :: r => decide (b < x) && (decide (x < M) && upB M x r)

def rightB (M : Int) (l : List Int) : Bool := decide (1 ≤ M) && upB M 0 l

theorem upB_step {M b : Int} {l : List Int} {k : Nat} (hk : k < l.length) : upB M b (l.drop k) = (decide (b < l[k]) && (decide (l[k] < M) && upB M l[k] (l.drop (k + 1)))) := by
  rw [List.drop_eq_getElem_cons hk]
  rfl

theorem upB_end {M b : Int} {l : List Int} {k : Nat} (hk : l.length ≤ k) : upB M b (l.drop k) = true := by
  rw [List.drop_of_length_le hk]
  rfl

set_option maxHeartbeats 400000 in
theorem right_any (M : Int) (v : Value) (l : List Int) (w : World) (h : RdI w v l) :
    Calls Tryz.prog 173 #[.agg #[.int .i64 M, v]] w fun e w' => e = .returned (.bool (rightB M l)) ∧ Kept w w' [] := by
  have hlen := h.len
  obtain ⟨a, c, rfl, hc, hm, _, hl⟩ := h
  by_cases hne : l = []
  · subst hne
    clear hl
    have R1 := Lib.hid (show rightB M [] = decide (1 ≤ M) by simp [rightB, upB])
    go_enter Tryz.func173, Tryz.ntmps173
    go_wp2
    go_loop [3, 9] (fun t s => t = .int .i64 0 ∧ s = .int .i64 0) (fun _ _ => 0)
    case atStart => exact ⟨rfl, rfl⟩
    case round =>
      obtain ⟨rfl, rfl⟩ := hrel
      go_wp2
      go_ret
      exact ⟨retb R1.out.symm, (Kept.refl w []).alloc _⟩
  · obtain ⟨b, o, rfl, hcell⟩ := hl hne
    have C := Lib.hid (fun i hi => ((Kept.refl w []).alloc (.cells #[.int .i64 M, .slice (some ⟨b, o, none⟩) l.length c] 36)).cell (p := ⟨b, o + i, none⟩) (by simp) (hcell i hi))
    clear hcell hl
    go_enter Tryz.func173, Tryz.ntmps173
    go_wp2
    go_loop [3, 9] (fun t s => ∃ (k : Nat) (y : Int), s = .int .i64 k ∧ t = .int .i64 y ∧ k ≤ l.length ∧ upB M 0 l = upB M y (l.drop k)) (fun _ s => l.length - (intOf s).toNat)
    case atStart => exact ⟨0, 0, rfl, rfl, Nat.zero_le _, by rw [List.drop_zero]⟩
    case round =>
      obtain ⟨k, y, rfl, rfl, hk, hu⟩ := hrel
      have Hu := Lib.hid hu; clear hu
      by_cases hlt : k < l.length
      · have c1 := C.out k hlt
        have e1 := upB_step (M := M) (b := y) hlt
        rw [← Hu.out] at e1
        have x1 : (k : Int) < (l.length : Int) := by omega
        obtain ⟨x, hx⟩ : ∃ x, x = l.getD k 0 := ⟨_, rfl⟩
        have hx2 : l[k] = x := by rw [hx]; simp [List.getD, hlt]
        rw [hx2] at e1
        rw [← hx] at c1
        clear hx hx2
        by_cases h1 : x ≤ y
        · have R1 := Lib.hid (show rightB M l = false by rw [rightB, e1]; simp; omega)
          clear e1
          go_wp2
          go_ret
          exact ⟨retb R1.out.symm, (Kept.refl w []).alloc _⟩
        · by_cases h2 : M ≤ x
          · have R1 := Lib.hid (show rightB M l = false by rw [rightB, e1]; simp; omega)
            clear e1
            go_wp2
            go_ret
            exact ⟨retb R1.out.symm, (Kept.refl w []).alloc _⟩
          · have e2 : upB M 0 l = upB M x (l.drop (k + 1)) := by rw [e1, decide_eq_true (by omega), decide_eq_true (by omega)]; rfl
            have E2 := Lib.hid e2
            clear e1 e2
            go_wp2
            go_round
            case rel => exact ⟨k + 1, x, by go_num, rfl, by omega, E2.out⟩
            case measure => simp [intOf]; omega
      · have x1 : ¬ (k : Int) < (l.length : Int) := by omega
        have R1 := Lib.hid (show rightB M l = decide (1 ≤ M) by rw [rightB, Hu.out, upB_end (by omega), Bool.and_true])
        go_wp2
        go_ret
        exact ⟨retb R1.out.symm, (Kept.refl w []).alloc _⟩

end Go.Proofs.YticiofkiffgclaaGreat

namespace Go.Proofs.YticiofkiffgclaaGreat
open Go.RowKit

def Inc (l : List Int) : Prop := ∀ i j, i < j → j < l.length → l.getD i 0 < l.getD j 0

theorem notNaN (x : Int) (w : World) : Calls Tryz.prog 228 #[.int .i64 x] w fun e w' => e = .returned (.bool false) ∧ w = w' := by
  go_enter Tryz.func228, Tryz.ntmps228
  go_wp2
  go_ret
  exact ⟨retb (by simp), rfl⟩

theorem notNaN2 (x : Int) (w : World) : Calls Tryz.prog 146 #[.int .i64 x] w fun e w' => e = .returned (.bool false) ∧ w = w' := by
  go_enter Tryz.func146, Tryz.ntmps146
  go_wp2
  go_ret
  exact ⟨retb (by simp), rfl⟩

theorem retib_g4 {i : Int} {a b : Bool} (h : a = b) : Ending.returned (.tuple #[.int .i64 i, .bool a]) = .returned (.tuple #[.int .i64 i, .bool b]) := by rw [h]

theorem less_any (x y : Int) (w : World) : Calls Tryz.prog 207 #[.int .i64 x, .int .i64 y] w fun e w' => e = .returned (.bool (decide (x < y))) ∧ w = w' := by
  go_enter Tryz.func207, Tryz.ntmps207
  go_wp2_with fail
  refine (notNaN2 x w).mono ?_
  rintro e w1 ⟨rfl, rfl⟩
  go_wp2
  go_ret
  exact ⟨retb rfl, rfl⟩

def Spot (l : List Int) (x : Int) (i : Nat) : Prop := i ≤ l.length ∧ (∀ j, j < i → l.getD j 0 < x) ∧ ∀ j, i ≤ j → j < l.length → x ≤ l.getD j 0

theorem mem_getD {l : List Int} {x : Int} (h : x ∈ l) : ∃ j, j < l.length ∧ l.getD j 0 = x := by
  obtain ⟨j, hj, e⟩ := List.getElem_of_mem h
  exact ⟨j, hj, by simp [List.getD, hj, e]⟩

theorem Spot.mem {l : List Int} {x : Int} {i : Nat} (h : Spot l x i) (hl : Inc l) (hi : i < l.length) (hne : l.getD i 0 ≠ x) : x ∉ l := by
  intro hm
  obtain ⟨j, hj, e⟩ := mem_getD hm
  rcases Nat.lt_trichotomy j i with h1 | rfl | h1
  · have := h.2.1 j h1; omega
  · exact hne e
  · have := hl i j h1 hj
    have := h.2.2 i (Nat.le_refl _) hi
    omega

theorem Spot.none {l : List Int} {x : Int} {i : Nat} (h : Spot l x i) (hi : l.length ≤ i) : x ∉ l := by
  intro hm
  obtain ⟨j, hj, e⟩ := mem_getD hm
  have := h.2.1 j (by omega)
  omega

theorem left_go {l : List Int} {x : Int} {k : Nat} (hl : Inc l) (hk : k < l.length) (h : l.getD k 0 < x) : ∀ q, q < k + 1 → l.getD q 0 < x := by
  intro q hq
  rcases Nat.lt_or_ge q k with h1 | h1
  · have := hl q k h1 hk; omega
  · have : q = k := by omega
    rw [this]; exact h

theorem right_go {l : List Int} {x : Int} {k : Nat} (hl : Inc l) (h : ¬ l.getD k 0 < x) : ∀ q, k ≤ q → q < l.length → x ≤ l.getD q 0 := by
  intro q hq hq2
  rcases Nat.eq_or_lt_of_le hq with rfl | h1
  · omega
  · have := hl k q h1 hq2; omega

set_option maxHeartbeats 1000000 in
set_option maxRecDepth 100000 in
theorem search_any (v : Value) (l : List Int) (x : Int) (w : World) (h : RdI w v l) (hinc : Inc l) (hlen : l.length ≤ 4611686018427387903) :
    Calls Tryz.prog 217 #[v, .int .i64 x] w fun e w' => ∃ i : Nat, e = .returned (.tuple #[.int .i64 i, .bool (decide (x ∈ l))]) ∧ Spot l x i ∧ w = w' := by
  obtain ⟨a, c, rfl, hc, hm, _, hl⟩ := h
  by_cases hne : l = []
  · subst hne
    clear hl
    go_enter Tryz.func217, Tryz.ntmps217
    go_wp2
    go_loop [7, 8] (fun t s => t = .int .i64 0 ∧ s = .int .i64 0) (fun _ _ => 0)
    case atStart => exact ⟨rfl, rfl⟩
    case round =>
      obtain ⟨rfl, rfl⟩ := hrel
      go_wp2
      go_ret2
      exact ⟨0, by simp, ⟨by simp, by simp, by simp⟩, rfl⟩
  · obtain ⟨b, o, rfl, hcell⟩ := hl hne
    have C := Lib.hid hcell; have I := Lib.hid hinc
    clear hcell hl hinc
    go_enter Tryz.func217, Tryz.ntmps217
    go_wp2
    go_loop [7, 8] (fun t s => ∃ i j : Nat, t = .int .i64 i ∧ s = .int .i64 j ∧ i ≤ j ∧ j ≤ l.length ∧ (∀ q, q < i → l.getD q 0 < x) ∧ ∀ q, j ≤ q → q < l.length → x ≤ l.getD q 0) (fun t s => (intOf s).toNat - (intOf t).toNat)
    case atStart => exact ⟨0, l.length, rfl, rfl, Nat.zero_le _, Nat.le_refl _, by simp, fun q h1 h2 => absurd h2 (by omega)⟩
    case round =>
      obtain ⟨i, j, rfl, rfl, hij, hj, hL, hR⟩ := hrel
      have L := Lib.hid hL; have R := Lib.hid hR; clear hL hR
      by_cases hlt : i < j
      · have x1 : (i : Int) < (j : Int) := by omega
        obtain ⟨k, hk⟩ : ∃ k : Nat, k = (i + j) / 2 := ⟨_, rfl⟩
        have hk1 : i ≤ k := by omega
        have hk2 : k < j := by omega
        have c1 := C.out k (by omega)
        have x2 : (k : Int) < (l.length : Int) := by omega
        have e1 : wrap64 ((i : Int) + (j : Int)) = (i : Int) + (j : Int) := by simp only [wrap64]; omega
        have e2 : ((i : Int) + (j : Int)) % 18446744073709551616 = (i : Int) + (j : Int) := by omega
        have e3 : ((i : Int) + (j : Int)) / 2 = (k : Int) := by omega
        obtain ⟨y, hy⟩ : ∃ y, y = l.getD k 0 := ⟨_, rfl⟩
        rw [← hy] at c1
        have Hy := Lib.hid hy
        clear hy hk
        go_wp2_with (go_at_call 207; refine (less_any y x _).mono ?_; rintro e w1 ⟨rfl, rfl⟩)
        · go_round
          case rel => exact ⟨k + 1, j, by go_num, rfl, by omega, by omega, left_go I.out (by omega) (by rw [← Hy.out]; assumption), R.out⟩
          case measure => simp [intOf]; omega
        · go_round
          case rel => exact ⟨i, k, rfl, rfl, by omega, by omega, L.out, right_go I.out (by rw [← Hy.out]; omega)⟩
          case measure => simp [intOf]; omega
      · have x1 : ¬ (i : Int) < (j : Int) := by omega
        obtain rfl : i = j := by omega
        have S := Lib.hid (show Spot l x i from ⟨hj, L.out, R.out⟩)
        by_cases hil : i < l.length
        · have c1 := C.out i hil
          have x2 : (i : Int) < (l.length : Int) := by omega
          obtain ⟨y, hy⟩ : ∃ y, y = l.getD i 0 := ⟨_, rfl⟩
          rw [← hy] at c1
          by_cases hyx : y = x
          · have x3 : (y == x) = true := by simpa using hyx
            have M := Lib.hid (show x ∈ l by rw [← hyx, hy]; simp [List.getD, hil])
            clear hyx hy
            go_wp2
            go_ret2
            exact ⟨i, retib_g4 (decide_eq_true M.out).symm, S.out, rfl⟩
          · have x3 : (y == x) = false := by simpa using hyx
            have M := Lib.hid (S.out.mem I.out hil (by rw [← hy]; exact hyx))
            clear hyx hy
            go_wp2_with (go_at_call 228; refine (notNaN _ _).mono ?_; rintro e w1 ⟨rfl, rfl⟩)
            go_ret2
            exact ⟨i, retib_g4 (decide_eq_false M.out).symm, S.out, rfl⟩
        · have x2 : ¬ (i : Int) < (l.length : Int) := by omega
          have M := Lib.hid (S.out.none (by omega))
          go_wp2
          go_ret2
          exact ⟨i, retib_g4 (decide_eq_false M.out).symm, S.out, rfl⟩

end Go.Proofs.YticiofkiffgclaaGreat

namespace Go.Proofs.YticiofkiffgclaaGreat
open Go.RowKit

theorem upB_mem {M : Int} : ∀ {l : List Int} {b : Int}, upB M b l = true → ∀ x ∈ l, b < x ∧ x < M := by
  intro l
  induction l with
  | nil => intro b _ x hx; simp at hx
  | cons y r ih =>
    intro b h x hx
    simp only [upB, Bool.and_eq_true, decide_eq_true_eq] at h
    rcases List.mem_cons.1 hx with rfl | hx
    · exact ⟨h.1, h.2.1⟩
    · have := ih h.2.2 x hx
      omega

theorem upB_inc {M : Int} : ∀ {l : List Int} {b : Int}, upB M b l = true → Inc l := by
  intro l
  induction l with
  | nil => intro b _ i j _ hj; simp at hj
  | cons y r ih =>
    intro b h i j hij hj
    simp only [upB, Bool.and_eq_true, decide_eq_true_eq] at h
    cases j with
    | zero => omega
    | succ j =>
      have hj' : j < r.length := by simpa using hj
      cases i with
      | zero =>
        have := (upB_mem h.2.2 (r.getD j 0) (by simp [List.getD, hj'])).1
        simpa using this
      | succ i =>
        have := ih h.2.2 i j (by omega) hj'
        simpa using this

theorem right_mem {M : Int} {l : List Int} (h : rightB M l = true) : ∀ x ∈ l, 1 ≤ x ∧ x < M := by
  intro x hx
  simp only [rightB, Bool.and_eq_true] at h
  have := upB_mem h.2 x hx
  omega

theorem right_inc {M : Int} {l : List Int} (h : rightB M l = true) : Inc l := by
  simp only [rightB, Bool.and_eq_true] at h
  exact upB_inc h.2

theorem right_one {M : Int} {l : List Int} (h : rightB M l = true) : 1 ≤ M := by
  simp only [rightB, Bool.and_eq_true, decide_eq_true_eq] at h
  exact h.1

theorem upB_len {M : Int} : ∀ {l : List Int} {b : Int}, upB M b l = true → b < M → (l.length : Int) ≤ M - 1 - b := by
  intro l
  induction l with
  | nil => intro b _ _; simp; omega
  | cons y r ih =>
    intro b h hb
    simp only [upB, Bool.and_eq_true, decide_eq_true_eq] at h
    have := ih h.2.2 h.2.1
    simp only [List.length_cons]
    omega

theorem upB_full {M : Int} : ∀ {l : List Int} {b : Int}, upB M b l = true → M - 1 - b ≤ (l.length : Int) → ∀ x, b < x → x < M → x ∈ l := by
  intro l
  induction l with
  | nil => intro b _ h x h1 h2; simp at h; omega
  | cons y r ih =>
    intro b h hl x h1 h2
    simp only [upB, Bool.and_eq_true, decide_eq_true_eq] at h
    have h3 := upB_len h.2.2 h.2.1
    simp only [List.length_cons] at hl
    have hy : y = b + 1 := by omega
    by_cases hx : x = y
    · rw [hx]; exact List.mem_cons_self
    · exact List.mem_cons_of_mem _ (ih h.2.2 (by omega) x (by omega) h2)

theorem upB_all {M : Int} : ∀ {l : List Int} {b : Int}, upB M b l = true → (∀ x, b < x → x < M → x ∈ l) → M - 1 - b ≤ (l.length : Int) := by
  intro l
  induction l with
  | nil =>
    intro b _ h
    by_cases hb : b + 1 < M
    · have := h (b + 1) (by omega) hb; simp at this
    · simp; omega
  | cons y r ih =>
    intro b h hl
    simp only [upB, Bool.and_eq_true, decide_eq_true_eq] at h
    have hy : y = b + 1 := by
      by_cases hy : b + 1 < y
      · have h1 := hl (b + 1) (by omega) (by omega)
        rcases List.mem_cons.1 h1 with h2 | h2
        · omega
        · have := (upB_mem h.2.2 _ h2).1; omega
      · omega
    have := ih h.2.2 (fun x h1 h2 => by
      have h3 := hl x (by omega) h2
      rcases List.mem_cons.1 h3 with h4 | h4
      · omega
      · exact h4)
    simp only [List.length_cons]
    omega

theorem upB_drop {M : Int} : ∀ {l : List Int} {b c : Int} (i : Nat), upB M b l = true → (∀ j, i ≤ j → j < l.length → c < l.getD j 0) → upB M c (l.drop i) = true := by
  intro l
  induction l with
  | nil => intro b c i _ _; simp [upB]
  | cons y r ih =>
    intro b c i h hc
    have h' := h
    simp only [upB, Bool.and_eq_true, decide_eq_true_eq] at h
    cases i with
    | zero =>
      rw [List.drop_zero]
      simp only [upB, Bool.and_eq_true, decide_eq_true_eq]
      have := hc 0 (Nat.le_refl _) (by simp)
      exact ⟨by simpa using this, h.2⟩
    | succ i =>
      rw [List.drop_succ_cons]
      exact ih i h.2.2 (fun j h1 h2 => by simpa using hc (j + 1) (by omega) (by simpa using h2))

def Cover (A B : Int) (l m : List Int) : Prop := ∀ x, seesB B m x = true → seesB A l x = true

def coverB (A B : Int) (l m : List Int) (i : Nat) : Bool := l.all (fun x => !seesB B m x) && decide (B - A ≤ ((m.length - i : Nat) : Int))

theorem cover_iff {A B : Int} {l m : List Int} {i : Nat} (hA : rightB A l = true) (hB : rightB B m = true) (hi : Spot m A i) : coverB A B l m i = true ↔ Cover A B l m := by
  have h1 := right_mem hA
  have hA1 := right_one hA
  have hB1 := right_one hB
  have hm := right_mem hB
  have hu : upB B (A - 1) (m.drop i) = true := by
    simp only [rightB, Bool.and_eq_true] at hB
    exact upB_drop i hB.2 (fun j h2 h3 => by have := hi.2.2 j h2 h3; omega)
  have hd : ((m.drop i).length : Int) = ((m.length - i : Nat) : Int) := by simp
  have hin : ∀ x, A ≤ x → (x ∈ m ↔ x ∈ m.drop i) := by
    intro x hx
    constructor
    · intro h
      obtain ⟨j, hj, e⟩ := mem_getD h
      have : i ≤ j := by
        rcases Nat.lt_or_ge j i with h2 | h2
        · have := hi.2.1 j h2; omega
        · exact h2
      rw [List.mem_iff_getElem]
      refine ⟨j - i, by simp; omega, ?_⟩
      rw [List.getElem_drop]
      simp only [List.getD, List.getElem?_eq_getElem hj, Option.getD_some] at e
      rw [← e]
      congr 1
      omega
    · exact List.mem_of_mem_drop
  unfold coverB Cover
  simp only [Bool.and_eq_true, List.all_eq_true, Bool.not_eq_true', decide_eq_true_eq]
  constructor
  · rintro ⟨h2, h3⟩ x hx
    rw [seesB_iff] at hx
    rw [seesB_iff]
    refine ⟨hx.1, ?_, fun hl => ?_⟩
    · rcases Int.lt_or_le x A with h4 | h4
      · exact h4
      · exact absurd ((hin x h4).2 (upB_full hu (by rw [hd]; omega) x (by omega) hx.2.1)) hx.2.2
    · have := h2 x hl
      rw [seesB_iff.2 hx] at this
      exact absurd this (by simp)
  · intro h
    constructor
    · intro x hx
      cases hs : seesB B m x with
      | false => rfl
      | true => exact absurd hx (seesB_iff.1 (h x hs)).2.2
    · rcases Int.lt_or_le A B with h4 | h4
      · have := upB_all hu (fun x h5 h6 => by
          have h7 : x ∈ m := by
            rcases Decidable.em (x ∈ m) with h8 | h8
            · exact h8
            · have := seesB_iff.1 (h x (seesB_iff.2 ⟨by omega, h6, h8⟩))
              omega
          exact (hin x (by omega)).1 h7)
        rw [hd] at this
        omega
      · omega

end Go.Proofs.YticiofkiffgclaaGreat

namespace Go.Proofs.YticiofkiffgclaaGreat
open Go.RowKit

theorem all_take {B : Int} {l m : List Int} {k : Nat} (hk : k < l.length) (h : ∀ x ∈ l.take k, seesB B m x = false) (hx : seesB B m l[k] = false) : ∀ x ∈ l.take (k + 1), seesB B m x = false := by
  intro x hm
  rw [List.take_succ_eq_append_getElem hk, List.mem_append] at hm
  rcases hm with h1 | h1
  · exact h x h1
  · rw [List.mem_singleton.1 h1]; exact hx

theorem cover_no {A B : Int} {l m : List Int} {k : Nat} (hk : k < l.length) (hx : seesB B m l[k] = true) : ¬ Cover A B l m := by
  intro h
  exact (seesB_iff.1 (h _ hx)).2.2 (List.getElem_mem hk)

theorem cover_end {A B : Int} {l m : List Int} {k i : Nat} (hA : rightB A l = true) (hB : rightB B m = true) (hk : l.length ≤ k) (h : ∀ x ∈ l.take k, seesB B m x = false) (hi : Spot m A i) : decide (B - A ≤ (m.length : Int) - (i : Int)) = true ↔ Cover A B l m := by
  rw [← cover_iff hA hB hi, coverB, List.take_of_length_le hk] at *
  have h1 : l.all (fun x => !seesB B m x) = true := by
    rw [List.all_eq_true]
    intro x hx
    rw [h x hx]; rfl
  have h2 : ((m.length - i : Nat) : Int) = (m.length : Int) - (i : Int) := by have := hi.1; omega
  rw [h1, Bool.true_and, h2]

set_option maxHeartbeats 1000000 in
set_option maxRecDepth 100000 in
theorem covers_any (A B : Int) (va vb : Value) (l m : List Int) (w : World) (ha : RdI w va l) (hb : RdI w vb m) (rA : rightB A l = true) (rB : rightB B m = true)
    (hA : A ≤ 9223372036854775807) (hB : B ≤ 9223372036854775807) (hl : l.length ≤ 1000) (hm : m.length ≤ 1000) :
    Calls Tryz.prog 198 #[.agg #[.int .i64 A, va], .agg #[.int .i64 B, vb]] w fun e w' => ∃ r : Bool, e = .returned (.bool r) ∧ (r = true ↔ Cover A B l m) ∧ Kept w w' [] := by
  have Hb0 := Lib.hid hb
  have Ha0 := Lib.hid ha
  obtain ⟨a, c, rfl, hc, _⟩ := ha
  obtain ⟨b, d, rfl, _⟩ := hb
  have K := Lib.hid (((Kept.refl w []).alloc (.cells #[.int .i64 A, .slice a l.length c] 36)).alloc (.cells #[.int .i64 B, .slice b m.length d] 36))
  have RA := Lib.hid rA; have RB := Lib.hid rB
  have iA := right_one rA; have iB := right_one rB
  clear rA rB
  go_enter Tryz.func198, Tryz.ntmps198
  go_wp2
  go_loop [14] (fun t => ∃ k : Nat, t = .int .i64 k ∧ k ≤ l.length ∧ ∀ x ∈ l.take k, seesB B m x = false) (fun t => l.length - (intOf t).toNat)
  case atStart => exact ⟨0, rfl, Nat.zero_le _, by simp⟩
  case round =>
    obtain ⟨k, rfl, hk, hx⟩ := hrel
    have Hx := Lib.hid hx; clear hx
    have hb1 := Hb0.out.keep K.out
    by_cases hlt : k < l.length
    · obtain ⟨a', c', e1, _, _, _, hla⟩ := Ha0.out
      simp only [Value.slice.injEq, true_and] at e1
      obtain ⟨rfl, rfl⟩ := e1
      obtain ⟨ab, ao, rfl, hcell⟩ := hla (by rintro rfl; simp at hlt)
      have c1 := K.out.cell (p := ⟨ab, ao + k, none⟩) (by simp) (hcell k hlt)
      have x1 : (k : Int) < (l.length : Int) := by omega
      obtain ⟨x, hx⟩ : ∃ x, x = l.getD k 0 := ⟨_, rfl⟩
      have hx2 : l[k] = x := by rw [hx]; simp [List.getD, hlt]
      rw [← hx] at c1
      have h1x := (right_mem RA.out l[k] (List.getElem_mem hlt)).1
      rw [hx2] at h1x
      have N := Lib.hid (fun h => cover_no (A := A) (B := B) (m := m) hlt (by rw [hx2]; exact h))
      have Y := Lib.hid (fun h => all_take (B := B) (m := m) hlt Hx.out (by rw [hx2]; exact h))
      clear hx hx2 hla hcell
      go_wp2_with fail
      refine (search_any _ m x _ hb1 (right_inc RB.out) (by omega)).mono ?_
      rintro e w1 ⟨i, rfl, hi, rfl⟩
      clear hi hb1
      by_cases hm1 : x ∈ m
      · have y := Lib.hid (Y.out (by simp [seesB, hm1]))
        have d1 : decide (x ∈ m) = true := decide_eq_true hm1
        clear hm1
        go_wp2
        go_round
        case rel => exact ⟨k + 1, by go_num, by omega, y.out⟩
        case measure => simp [intOf]; omega
      · have d1 : decide (x ∈ m) = false := decide_eq_false hm1
        by_cases hxB : x < B
        · have n := Lib.hid (N.out (seesB_iff.2 ⟨h1x, hxB, hm1⟩))
          clear hm1
          go_wp2
          go_ret
          exact ⟨_, rfl, iff_of_false (by simp) n.out, K.out⟩
        · have y := Lib.hid (Y.out (by simp [seesB, hxB]))
          clear hm1
          go_wp2
          go_round
          case rel => exact ⟨k + 1, by go_num, by omega, y.out⟩
          case measure => simp [intOf]; omega
    · have x1 : ¬ (k : Int) < (l.length : Int) := by omega
      go_wp2_with fail
      refine (search_any _ m A _ hb1 (right_inc RB.out) (by omega)).mono ?_
      rintro e w1 ⟨i, rfl, hi, rfl⟩
      have hi0 := hi.1
      have E := Lib.hid (cover_end RA.out RB.out (by omega) Hx.out hi)
      clear hi hb1
      generalize decide (A ∈ m) = r0
      have e1 : wrap64 (B - A) = B - A := by simp only [wrap64]; omega
      have e2 : wrap64 ((m.length : Int) - (i : Int)) = (m.length : Int) - (i : Int) := by simp only [wrap64]; omega
      go_wp2
      go_ret
      exact ⟨_, rfl, E.out, K.out⟩

end Go.Proofs.YticiofkiffgclaaGreat

namespace Go.Proofs.YticiofkiffgclaaGreat
open Go.RowKit

def hid (A : Int) (m : List Int) : Nat := m.countP (fun y => decide (A ≤ y))

theorem spot_ex {A : Int} : ∀ {m : List Int}, Inc m → ∃ i, Spot m A i ∧ hid A m = m.length - i := by
  intro m
  induction m with
  | nil => intro _; exact ⟨0, ⟨by simp, by simp, by simp⟩, rfl⟩
  | cons y r ih =>
    intro h
    have hr : Inc r := fun i j h1 h2 => by simpa using h (i + 1) (j + 1) (by omega) (by simpa using h2)
    by_cases hy : A ≤ y
    · have hall : ∀ j, j < (y :: r).length → A ≤ (y :: r).getD j 0 := by
        intro j hj
        cases j with
        | zero => simpa using hy
        | succ j => have := h 0 (j + 1) (by omega) hj; simp only [List.getD_cons_zero] at this; omega
      refine ⟨0, ⟨by simp, fun j hj => absurd hj (by omega), fun j _ h2 => hall j h2⟩, ?_⟩
      unfold hid
      rw [Nat.sub_zero, List.countP_eq_length]
      intro x hx
      obtain ⟨j, hj, e⟩ := mem_getD hx
      have := hall j hj
      rw [e] at this
      simpa using this
    · obtain ⟨i, hi, he⟩ := ih hr
      refine ⟨i + 1, ⟨by have := hi.1; simp; omega, ?_, ?_⟩, ?_⟩
      · intro j hj
        cases j with
        | zero => simp; omega
        | succ j => simpa using hi.2.1 j (by omega)
      · intro j h1 h2
        cases j with
        | zero => omega
        | succ j => simpa using hi.2.2 j (by omega) (by simpa using h2)
      · unfold hid at he ⊢
        simp only [List.countP_cons, hy, decide_false, List.length_cons]
        simp
        omega

theorem hid_cover {A B : Int} {l m : List Int} {k j : Nat} (hA : rightB A l = true) (hB : rightB B m = true) (hk : l.length ≤ k) (h : ∀ x ∈ l.take k, seesB B m x = false) (hj : m.length ≤ j) (hAB : ¬ B ≤ A) : ((hid A (m.take j) : Int) == B - A) = true ↔ Cover A B l m := by
  obtain ⟨i, hi, he⟩ := spot_ex (A := A) (right_inc hB)
  have h0 := cover_end hA hB hk h hi
  rw [← h0, List.take_of_length_le hj, he]
  have hA1 := right_one hA
  have hu : upB B (A - 1) (m.drop i) = true := by
    simp only [rightB, Bool.and_eq_true] at hB
    exact upB_drop i hB.2 (fun j h2 h3 => by have := hi.2.2 j h2 h3; omega)
  have h1 := upB_len hu (by omega)
  have hi1 := hi.1
  simp only [List.length_drop] at h1
  simp only [beq_iff_eq, decide_eq_true_eq]
  omega

theorem hid_cover2 {A B : Int} {l m : List Int} {k : Nat} (hA : rightB A l = true) (hB : rightB B m = true) (hk : l.length ≤ k) (h : ∀ x ∈ l.take k, seesB B m x = false) (hAB : B ≤ A) : Cover A B l m := by
  obtain ⟨i, hi, he⟩ := spot_ex (A := A) (right_inc hB)
  have h0 := cover_end hA hB hk h hi
  have hi1 := hi.1
  rw [← h0]
  simp only [decide_eq_true_eq]
  omega

end Go.Proofs.YticiofkiffgclaaGreat

namespace Go.Proofs.YticiofkiffgclaaGreat
open Go.RowKit

theorem two_cells {w : World} {p : Nat} {M : Int} {v : Value} {t : TypeId} {fz : Nat × Nat} (h : w.heap[p]? = some (.cells #[.int .i64 M, v] t fz)) : w.cell? ⟨p, 0, none⟩ = some (.int .i64 M) ∧ w.cell? ⟨p, 1, none⟩ = some v :=
  ⟨by simpa using cell_of_row w p 0 _ _ _ h, by simpa using cell_of_row w p 1 _ _ _ h⟩

end Go.Proofs.YticiofkiffgclaaGreat
