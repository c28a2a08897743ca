/-
  SnA, SnB, SnC, SnD in one text.
-/
import Derived.Test.YticiofkiffgclaaGreatRows
import Derived.Test.YticiofkiffgclaaGreatNr0
import Derived.Deep.QuietTactic
import Derived.BigQuiet
import Derived.Laws.BitsAllLaws
import Derived.WalkArith
namespace Go.Proofs.YticiofkiffgclaaGreat
open Go.RowKit

def RdI (w : World) (v : Value) (l : List Int) : Prop :=
  ∃ a c, v = .slice a l.length c ∧ l.length ≤ c ∧ c ≤ maxLen ∧ (a = none → c = 0) ∧
    (l ≠ [] → ∃ b o, a = some ⟨b, o, none⟩ ∧ ∀ i, i < l.length → w.cell? ⟨b, o + i, none⟩ = some (.int .i64 (l.getD i 0)))

theorem RdI.kept {w w' : World} {v : Value} {l : List Int} {bs : List Nat} (h : RdI w v l) (hk : Kept w w' bs) (hb : ∀ b, v.ownBlock = some b → b ∉ bs) : RdI w' v l := by
  obtain ⟨a, c, rfl, hc, hm, ha, hl⟩ := h
  refine ⟨a, c, rfl, hc, hm, ha, fun hne => ?_⟩
  obtain ⟨b, o, rfl, hcell⟩ := hl hne
  exact ⟨b, o, rfl, fun i hi => hk.cell (p := ⟨b, o + i, none⟩) (hb b rfl) (hcell i hi)⟩

theorem RdI.keep {w w' : World} {v : Value} {l : List Int} (h : RdI w v l) (hk : Kept w w' []) : RdI w' v l := h.kept hk (by simp)

theorem RdI.nil (w : World) : RdI w (.slice none 0 0) [] := ⟨none, 0, rfl, Nat.le_refl _, by unfold maxLen; omega, fun _ => rfl, fun h => absurd rfl h⟩

theorem RdI.len {w : World} {v : Value} {l : List Int} (h : RdI w v l) : l.length ≤ 9223372036854775807 := by
  obtain ⟨a, c, _, h1, h2, _⟩ := h
  unfold maxLen at h2; omega

theorem mem_take_succ {l : List Int} {k : Nat} {x : Int} (hk : k < l.length) (h1 : x ∉ l.take k) (h2 : l[k] ≠ x) : x ∉ l.take (k + 1) := by
  rw [List.take_succ_eq_append_getElem hk, List.mem_append]
  rintro (h | h)
  · exact h1 h
  · exact h2 (List.mem_singleton.1 h).symm

theorem mem_whole {l : List Int} {k : Nat} {x : Int} (hk : l.length ≤ k) (h : x ∉ l.take k) : x ∉ l := by
  rwa [List.take_of_length_le hk] at h

theorem retb {a b : Bool} (h : a = b) : Ending.returned (.bool a) = .returned (.bool b) := by rw [h]

set_option maxHeartbeats 400000 in
theorem has_any (v : Value) (l : List Int) (x : Int) (w : World) (h : RdI w v l) :
    Calls Tryz.prog 98 #[v, .int .i64 x] w fun e w' => e = .returned (.bool (decide (x ∈ l))) ∧ w = w' := by
  have hlen := h.len
  obtain ⟨a, c, rfl, hc, hm, _, hl⟩ := h
  by_cases hne : l = []
  · subst hne
    clear hl
    go_enter Tryz.func98, Tryz.ntmps98
    go_wp2
    go_loop [5] (fun t => t = .int .i64 0) (fun _ => 0)
    case atStart => rfl
    case round =>
      subst hrel
      go_wp2
      go_ret
      exact ⟨retb (by simp), rfl⟩
  · obtain ⟨b, o, rfl, hcell⟩ := hl hne
    have C := Lib.hid hcell
    clear hcell hl
    go_enter Tryz.func98, Tryz.ntmps98
    go_wp2
    go_loop [5] (fun t => ∃ k : Nat, t = .int .i64 k ∧ k ≤ l.length ∧ x ∉ l.take k) (fun t => l.length - (intOf t).toNat)
    case atStart => exact ⟨0, rfl, Nat.zero_le _, by simp⟩
    case round =>
      obtain ⟨k, rfl, hk, hx⟩ := hrel
      have Hx := Lib.hid hx; clear hx
      by_cases hlt : k < l.length
      · have c1 := C.out k hlt
        have x1 : (k : Int) < (l.length : Int) := by omega
        by_cases he : l[k] = x
        · have x2 : (l[k] == x) = true := by simpa using he
          have Hm := Lib.hid (show x ∈ l by rw [← he]; exact List.getElem_mem hlt)
          clear he
          go_wp2
          go_ret
          exact ⟨retb (by simp [Hm.out]), rfl⟩
        · have x2 : (l[k] == x) = false := by simpa using he
          have He := Lib.hid he; clear he
          go_wp2
          go_round
          case rel => exact ⟨k + 1, by go_num, by omega, mem_take_succ hlt Hx.out He.out⟩
          case measure => simp [intOf]; omega
      · have x1 : ¬ (k : Int) < (l.length : Int) := by omega
        have Hm := Lib.hid (mem_whole (by omega) Hx.out)
        go_wp2
        go_ret
        exact ⟨retb (by simp [Hm.out]), rfl⟩

set_option maxHeartbeats 400000 in
theorem index_any (v : Value) (l : List Int) (x : Int) (w : World) (h : RdI w v l) :
    Calls Tryz.prog 226 #[v, .int .i64 x] w fun e w' => ∃ r : Int, e = .returned (.int .i64 r) ∧ (0 ≤ r ↔ x ∈ l) ∧ w = w' := by
  have hlen := h.len
  obtain ⟨a, c, rfl, hc, hm, _, hl⟩ := h
  by_cases hne : l = []
  · subst hne
    clear hl
    go_enter Tryz.func226, Tryz.ntmps226
    go_wp2
    go_loop [8] (fun t => t = .int .i64 0) (fun _ => 0)
    case atStart => rfl
    case round =>
      subst hrel
      go_wp2
      go_ret
      exact ⟨_, rfl, by simp, rfl⟩
  · obtain ⟨b, o, rfl, hcell⟩ := hl hne
    have C := Lib.hid hcell
    clear hcell hl
    go_enter Tryz.func226, Tryz.ntmps226
    go_wp2
    go_loop [8] (fun t => ∃ k : Nat, t = .int .i64 k ∧ k ≤ l.length ∧ x ∉ l.take k) (fun t => l.length - (intOf t).toNat)
    case atStart => exact ⟨0, rfl, Nat.zero_le _, by simp⟩
    case round =>
      obtain ⟨k, rfl, hk, hx⟩ := hrel
      have Hx := Lib.hid hx; clear hx
      by_cases hlt : k < l.length
      · have c1 := C.out k hlt
        have x1 : (k : Int) < (l.length : Int) := by omega
        by_cases he : l[k] = x
        · have x2 : (x == l[k]) = true := by simpa using he.symm
          have Hm := Lib.hid (show x ∈ l by rw [← he]; exact List.getElem_mem hlt)
          clear he
          go_wp2
          go_ret
          exact ⟨_, rfl, iff_of_true (by omega) Hm.out, rfl⟩
        · have x2 : (x == l[k]) = false := by rw [beq_eq_false_iff_ne]; exact fun h => he h.symm
          have He := Lib.hid he; clear he
          go_wp2
          go_round
          case rel => exact ⟨k + 1, by go_num, by omega, mem_take_succ hlt Hx.out He.out⟩
          case measure => simp [intOf]; omega
      · have x1 : ¬ (k : Int) < (l.length : Int) := by omega
        have Hm := Lib.hid (mem_whole (by omega) Hx.out)
        go_wp2
        go_ret
        exact ⟨_, rfl, iff_of_false (by omega) Hm.out, rfl⟩

theorem contains_any (v : Value) (l : List Int) (x : Int) (w : World) (h : RdI w v l) :
    Calls Tryz.prog 213 #[v, .int .i64 x] w fun e w' => e = .returned (.bool (decide (x ∈ l))) ∧ w = w' := by
  go_enter Tryz.func213, Tryz.ntmps213
  go_wp2_with fail
  refine (index_any v l x w h).mono ?_
  rintro e w1 ⟨r, rfl, hr, rfl⟩
  have Hr := Lib.hid hr; clear hr
  go_wp2
  go_ret
  exact ⟨retb (by simp [Hr.out]), rfl⟩

end Go.Proofs.YticiofkiffgclaaGreat

namespace Go.Proofs.YticiofkiffgclaaGreat
open Go.RowKit

def seesB (M : Int) (l : List Int) (x : Int) : Bool := decide (1 ≤ x) && (decide (x < M) && !decide (x ∈ l))

theorem seesB_iff {M : Int} {l : List Int} {x : Int} : seesB M l x = true ↔ 1 ≤ x ∧ x < M ∧ x ∉ l := by
  simp [seesB]

set_option maxHeartbeats 400000 in
theorem sees_any (M x : Int) (v : Value) (l : List Int) (w : World) (h : RdI w v l) :
    Calls Tryz.prog 187 #[.agg #[.int .i64 M, v], .int .i64 x] w fun e w' => e = .returned (.bool (seesB M l x)) ∧ Kept w w' [] := by
  have H := Lib.hid h
  obtain ⟨a, c, rfl, _⟩ := h
  by_cases h1 : (1 : Int) ≤ x
  · by_cases h2 : x < M
    · have r1 : seesB M l x = !decide (x ∈ l) := by simp [seesB, h1, h2]
      have R1 := Lib.hid r1; clear r1
      go_enter Tryz.func187, Tryz.ntmps187
      go_wp2_with fail
      refine (contains_any _ l x _ (H.out.keep ((Kept.refl w []).alloc _))).mono ?_
      rintro e w1 ⟨rfl, rfl⟩
      go_wp2
      go_ret
      exact ⟨retb R1.out.symm, (Kept.refl w []).alloc _⟩
    · have r1 : seesB M l x = false := by simp [seesB, h2]
      have R1 := Lib.hid r1; clear r1
      go_enter Tryz.func187, Tryz.ntmps187
      go_wp2
      go_ret
      exact ⟨retb R1.out.symm, (Kept.refl w []).alloc _⟩
  · have r1 : seesB M l x = false := by simp [seesB, h1]
    have R1 := Lib.hid r1; clear r1
    go_enter Tryz.func187, Tryz.ntmps187
    go_wp2
    go_ret
    exact ⟨retb R1.out.symm, (Kept.refl w []).alloc _⟩

end Go.Proofs.YticiofkiffgclaaGreat

namespace Go.Proofs.YticiofkiffgclaaGreat
open Go.RowKit

def upB (M : Int) : Int → List Int → Bool
  | _, [] => true
  | b, x :: r => decide (b < x) && (decide (x < M) && upB M x r)

def rightB (M : Int) (l : List Int) : Bool := decide (1 ≤ M) && upB M 0 l

theorem upB_step {M b : Int} {l : List Int} {k : Nat} (hk : k < l.length) : upB M b (l.drop k) = (decide (b < l[k]) && (decide (l[k] < M) && upB M l[k] (l.drop (k + 1)))) := by
  rw [List.drop_eq_getElem_cons hk]
  rfl

theorem upB_end {M b : Int} {l : List Int} {k : Nat} (hk : l.length ≤ k) : upB M b (l.drop k) = true := by
  rw [List.drop_of_length_le hk]
  rfl

set_option maxHeartbeats 400000 in
theorem right_any (M : Int) (v : Value) (l : List Int) (w : World) (h : RdI w v l) :
    Calls Tryz.prog 173 #[.agg #[.int .i64 M, v]] w fun e w' => e = .returned (.bool (rightB M l)) ∧ Kept w w' [] := by
  have hlen := h.len
  obtain ⟨a, c, rfl, hc, hm, _, hl⟩ := h
  by_cases hne : l = []
  · subst hne
    clear hl
    have R1 := Lib.hid (show rightB M [] = decide (1 ≤ M) by simp [rightB, upB])
    go_enter Tryz.func173, Tryz.ntmps173
    go_wp2
    go_loop [3, 9] (fun t s => t = .int .i64 0 ∧ s = .int .i64 0) (fun _ _ => 0)
    case atStart => exact ⟨rfl, rfl⟩
    case round =>
      obtain ⟨rfl, rfl⟩ := hrel
      go_wp2
      go_ret
      exact ⟨retb R1.out.symm, (Kept.refl w []).alloc _⟩
  · obtain ⟨b, o, rfl, hcell⟩ := hl hne
    have C := Lib.hid (fun i hi => ((Kept.refl w []).alloc (.cells #[.int .i64 M, .slice (some ⟨b, o, none⟩) l.length c] 36)).cell (p := ⟨b, o + i, none⟩) (by simp) (hcell i hi))
    clear hcell hl
    go_enter Tryz.func173, Tryz.ntmps173
    go_wp2
    go_loop [3, 9] (fun t s => ∃ (k : Nat) (y : Int), s = .int .i64 k ∧ t = .int .i64 y ∧ k ≤ l.length ∧ upB M 0 l = upB M y (l.drop k)) (fun _ s => l.length - (intOf s).toNat)
    case atStart => exact ⟨0, 0, rfl, rfl, Nat.zero_le _, by rw [List.drop_zero]⟩
    case round =>
      obtain ⟨k, y, rfl, rfl, hk, hu⟩ := hrel
      have Hu := Lib.hid hu; clear hu
      by_cases hlt : k < l.length
      · have c1 := C.out k hlt
        have e1 := upB_step (M := M) (b := y) hlt
        rw [← Hu.out] at e1
        have x1 : (k : Int) < (l.length : Int) := by omega
        obtain ⟨x, hx⟩ : ∃ x, x = l.getD k 0 := ⟨_, rfl⟩
        have hx2 : l[k] = x := by rw [hx]; simp [List.getD, hlt]
        rw [hx2] at e1
        rw [← hx] at c1
        clear hx hx2
        by_cases h1 : x ≤ y
        · have R1 := Lib.hid (show rightB M l = false by rw [rightB, e1]; simp; omega)
          clear e1
          go_wp2
          go_ret
          exact ⟨retb R1.out.symm, (Kept.refl w []).alloc _⟩
        · by_cases h2 : M ≤ x
          · have R1 := Lib.hid (show rightB M l = false by rw [rightB, e1]; simp; omega)
            clear e1
            go_wp2
            go_ret
            exact ⟨retb R1.out.symm, (Kept.refl w []).alloc _⟩
          · have e2 : upB M 0 l = upB M x (l.drop (k + 1)) := by rw [e1, decide_eq_true (by omega), decide_eq_true (by omega)]; rfl
            have E2 := Lib.hid e2
            clear e1 e2
            go_wp2
            go_round
            case rel => exact ⟨k + 1, x, by go_num, rfl, by omega, E2.out⟩
            case measure => simp [intOf]; omega
      · have x1 : ¬ (k : Int) < (l.length : Int) := by omega
        have R1 := Lib.hid (show rightB M l = decide (1 ≤ M) by rw [rightB, Hu.out, upB_end (by omega), Bool.and_true])
        go_wp2
        go_ret
        exact ⟨retb R1.out.symm, (Kept.refl w []).alloc _⟩

end Go.Proofs.YticiofkiffgclaaGreat

namespace Go.Proofs.YticiofkiffgclaaGreat
open Go.RowKit

def Inc (l : List Int) : Prop := ∀ i j, i < j → j < l.length → l.getD i 0 < l.getD j 0

theorem notNaN (x : Int) (w : World) : Calls Tryz.prog 228 #[.int .i64 x] w fun e w' => e = .returned (.bool false) ∧ w = w' := by
  go_enter Tryz.func228, Tryz.ntmps228
  go_wp2
  go_ret
  exact ⟨retb (by simp), rfl⟩

theorem notNaN2 (x : Int) (w : World) : Calls Tryz.prog 146 #[.int .i64 x] w fun e w' => e = .returned (.bool false) ∧ w = w' := by
  go_enter Tryz.func146, Tryz.ntmps146
  go_wp2
  go_ret
  exact ⟨retb (by simp), rfl⟩

theorem retib_g4 {i : Int} {a b : Bool} (h : a = b) : Ending.returned (.tuple #[.int .i64 i, .bool a]) = .returned (.tuple #[.int .i64 i, .bool b]) := by rw [h]

theorem less_any (x y : Int) (w : World) : Calls Tryz.prog 207 #[.int .i64 x, .int .i64 y] w fun e w' => e = .returned (.bool (decide (x < y))) ∧ w = w' := by
  go_enter Tryz.func207, Tryz.ntmps207
  go_wp2_with fail
  refine (notNaN2 x w).mono ?_
  rintro e w1 ⟨rfl, rfl⟩
  go_wp2
  go_ret
  exact ⟨retb rfl, rfl⟩

def Spot (l : List Int) (x : Int) (i : Nat) : Prop := i ≤ l.length ∧ (∀ j, j < i → l.getD j 0 < x) ∧ ∀ j, i ≤ j → j < l.length → x ≤ l.getD j 0

theorem mem_getD {l : List Int} {x : Int} (h : x ∈ l) : ∃ j, j < l.length ∧ l.getD j 0 = x := by
  obtain ⟨j, hj, e⟩ := List.getElem_of_mem h
  exact ⟨j, hj, by simp [List.getD, hj, e]⟩

theorem Spot.mem {l : List Int} {x : Int} {i : Nat} (h : Spot l x i) (hl : Inc l) (hi : i < l.length) (hne : l.getD i 0 ≠ x) : x ∉ l := by
  intro hm
  obtain ⟨j, hj, e⟩ := mem_getD hm
  rcases Nat.lt_trichotomy j i with h1 | rfl | h1
  · have := h.2.1 j h1; omega
  · exact hne e
  · have := hl i j h1 hj
    have := h.2.2 i (Nat.le_refl _) hi
    omega

theorem Spot.none {l : List Int} {x : Int} {i : Nat} (h : Spot l x i) (hi : l.length ≤ i) : x ∉ l := by
  intro hm
  obtain ⟨j, hj, e⟩ := mem_getD hm
  have := h.2.1 j (by omega)
  omega

theorem left_go {l : List Int} {x : Int} {k : Nat} (hl : Inc l) (hk : k < l.length) (h : l.getD k 0 < x) : ∀ q, q < k + 1 → l.getD q 0 < x := by
  intro q hq
  rcases Nat.lt_or_ge q k with h1 | h1
  · have := hl q k h1 hk; omega
  · have : q = k := by omega
    rw [this]; exact h

theorem right_go {l : List Int} {x : Int} {k : Nat} (hl : Inc l) (h : ¬ l.getD k 0 < x) : ∀ q, k ≤ q → q < l.length → x ≤ l.getD q 0 := by
  intro q hq hq2
  rcases Nat.eq_or_lt_of_le hq with rfl | h1
  · omega
  · have := hl k q h1 hq2; omega

set_option maxHeartbeats 1000000 in
set_option maxRecDepth 100000 in
theorem search_any (v : Value) (l : List Int) (x : Int) (w : World) (h : RdI w v l) (hinc : Inc l) (hlen : l.length ≤ 4611686018427387903) :
    Calls Tryz.prog 217 #[v, .int .i64 x] w fun e w' => ∃ i : Nat, e = .returned (.tuple #[.int .i64 i, .bool (decide (x ∈ l))]) ∧ Spot l x i ∧ w = w' := by
  obtain ⟨a, c, rfl, hc, hm, _, hl⟩ := h
  by_cases hne : l = []
  · subst hne
    clear hl
    go_enter Tryz.func217, Tryz.ntmps217
    go_wp2
    go_loop [7, 8] (fun t s => t = .int .i64 0 ∧ s = .int .i64 0) (fun _ _ => 0)
    case atStart => exact ⟨rfl, rfl⟩
    case round =>
      obtain ⟨rfl, rfl⟩ := hrel
      go_wp2
      go_ret2
      exact ⟨0, by simp, ⟨by simp, by simp, by simp⟩, rfl⟩
  · obtain ⟨b, o, rfl, hcell⟩ := hl hne
    have C := Lib.hid hcell; have I := Lib.hid hinc
    clear hcell hl hinc
    go_enter Tryz.func217, Tryz.ntmps217
    go_wp2
    go_loop [7, 8] (fun t s => ∃ i j : Nat, t = .int .i64 i ∧ s = .int .i64 j ∧ i ≤ j ∧ j ≤ l.length ∧ (∀ q, q < i → l.getD q 0 < x) ∧ ∀ q, j ≤ q → q < l.length → x ≤ l.getD q 0) (fun t s => (intOf s).toNat - (intOf t).toNat)
    case atStart => exact ⟨0, l.length, rfl, rfl, Nat.zero_le _, Nat.le_refl _, by simp, fun q h1 h2 => absurd h2 (by omega)⟩
    case round =>
      obtain ⟨i, j, rfl, rfl, hij, hj, hL, hR⟩ := hrel
      have L := Lib.hid hL; have R := Lib.hid hR; clear hL hR
      by_cases hlt : i < j
      · have x1 : (i : Int) < (j : Int) := by omega
        obtain ⟨k, hk⟩ : ∃ k : Nat, k = (i + j) / 2 := ⟨_, rfl⟩
        have hk1 : i ≤ k := by omega
        have hk2 : k < j := by omega
        have c1 := C.out k (by omega)
        have x2 : (k : Int) < (l.length : Int) := by omega
        have e1 : wrap64 ((i : Int) + (j : Int)) = (i : Int) + (j : Int) := by simp only [wrap64]; omega
        have e2 : ((i : Int) + (j : Int)) % 18446744073709551616 = (i : Int) + (j : Int) := by omega
        have e3 : ((i : Int) + (j : Int)) / 2 = (k : Int) := by omega
        obtain ⟨y, hy⟩ : ∃ y, y = l.getD k 0 := ⟨_, rfl⟩
        rw [← hy] at c1
        have Hy := Lib.hid hy
        clear hy hk
        go_wp2_with (go_at_call 207; refine (less_any y x _).mono ?_; rintro e w1 ⟨rfl, rfl⟩)
        · go_round
          case rel => exact ⟨k + 1, j, by go_num, rfl, by omega, by omega, left_go I.out (by omega) (by rw [← Hy.out]; assumption), R.out⟩
          case measure => simp [intOf]; omega
        · go_round
          case rel => exact ⟨i, k, rfl, rfl, by omega, by omega, L.out, right_go I.out (by rw [← Hy.out]; omega)⟩
          case measure => simp [intOf]; omega
      · have x1 : ¬ (i : Int) < (j : Int) := by omega
        obtain rfl : i = j := by omega
        have S := Lib.hid (show Spot l x i from ⟨hj, L.out, R.out⟩)
        by_cases hil : i < l.length
        · have c1 := C.out i hil
          have x2 : (i : Int) < (l.length : Int) := by omega
          obtain ⟨y, hy⟩ : ∃ y, y = l.getD i 0 := ⟨_, rfl⟩
          rw [← hy] at c1
          by_cases hyx : y = x
          · have x3 : (y == x) = true := by simpa using hyx
            have M := Lib.hid (show x ∈ l by rw [← hyx, hy]; simp [List.getD, hil])
            clear hyx hy
            go_wp2
            go_ret2
            exact ⟨i, retib_g4 (decide_eq_true M.out).symm, S.out, rfl⟩
          · have x3 : (y == x) = false := by simpa using hyx
            have M := Lib.hid (S.out.mem I.out hil (by rw [← hy]; exact hyx))
            clear hyx hy
            go_wp2_with (go_at_call 228; refine (notNaN _ _).mono ?_; rintro e w1 ⟨rfl, rfl⟩)
            go_ret2
            exact ⟨i, retib_g4 (decide_eq_false M.out).symm, S.out, rfl⟩
        · have x2 : ¬ (i : Int) < (l.length : Int) := by omega
          have M := Lib.hid (S.out.none (by omega))
          go_wp2
          go_ret2
          exact ⟨i, retib_g4 (decide_eq_false M.out).symm, S.out, rfl⟩

end Go.Proofs.YticiofkiffgclaaGreat
