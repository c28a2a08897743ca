/-
 SnB, SnC, SnD, SnE, SnF, SnG, SnH, SnI in one text.
-/
import Derived.Test.YticiofkiffgclaaGreatQu0
import Derived.Test.YticiofkiffgclaaGreatQu13
import Derived.WalkArith
import Derived.Deep.RegionHeld3
set_option linter.unusedVariables false
set_option maxHeartbeats 16000000
set_option maxRecDepth 100000
namespace Go.Proofs.YticiofkiffgclaaGreat
open Go.RowKit
def xqv (M : Int) (l : List Int) (x : Int) : Bool := decide (1 <= x) && (decide (x < M) && !decide (x ∈ l))
theorem xqX {M : Int} {l : List Int} {x : Int} : xqv M l x = true ↔ 1 <= x /\ x < M /\ x ∉ l := by
 simp [xqv]
theorem sees_any (M x : Int) (v : Value) (l : List Int) (w : World) (h : RdI w v l) :
 Calls Tryz.prog 187 #[.agg #[.int .i64 M, v], .int .i64 x] w fun e w' => e = .returned (.bool (xqv M l x)) /\ Kept w w' [] := by
 have H := iH h
 obtain ⟨a, c, rfl, _⟩ := h
 by_cases h1 : (1 : Int) <= x
 ·by_cases h2 : x < M
  ·have r1 : xqv M l x = !decide (x ∈ l) := by simp [xqv, h1, h2]
   have R1 := iH r1; clear r1
   go_enter Tryz.func187, Tryz.ntmps187
   go_wp2_with fail
   refine (contains_any _ l x _ (H.out.keep ((Kept.refl w []).alloc _))).mono ?_
   rintro e w1 ⟨rfl, rfl⟩
   go_wp2
   go_ret
   exact ⟨retb R1.out.symm, (Kept.refl w []).alloc _⟩
  have r1 : xqv M l x = false := by simp [xqv, h2]
  have R1 := iH r1; clear r1
  go_enter Tryz.func187, Tryz.ntmps187
  go_wp2
  go_ret
  exact ⟨retb R1.out.symm, (Kept.refl w []).alloc _⟩
 ·have r1 : xqv M l x = false := by simp [xqv, h1]
  have R1 := iH r1; clear r1
  go_enter Tryz.func187, Tryz.ntmps187
  go_wp2
  go_ret
  exact ⟨retb R1.out.symm, (Kept.refl w []).alloc _⟩
theorem rsees_any (M x : Int) (v : Value) (l : List Int) (w : World) (h : RdI w v l) :
 Calls Tryz.prog 34 #[.agg #[.int .i64 M, v], .int .i64 x] w fun e w' => e = .returned (.bool (xqv M l x)) /\ Kept w w' [] := by
 have H := iH h
 obtain ⟨a, c, rfl, _⟩ := h
 by_cases h1 : (1 : Int) <= x
 ·by_cases h2 : x < M
  ·have r1 : xqv M l x = !decide (x ∈ l) := by simp [xqv, h1, h2]
   have R1 := iH r1; clear r1
   go_enter Tryz.func34, Tryz.ntmps34
   go_wp2_with fail
   refine (has_any _ l x _ (H.out.keep ((Kept.refl w []).alloc _))).mono ?_
   rintro e w1 ⟨rfl, rfl⟩
   go_wp2
   go_ret
   exact ⟨retb R1.out.symm, (Kept.refl w []).alloc _⟩
  have r1 : xqv M l x = false := by simp [xqv, h2]
  have R1 := iH r1; clear r1
  go_enter Tryz.func34, Tryz.ntmps34
  go_wp2
  go_ret
  exact ⟨retb R1.out.symm, (Kept.refl w []).alloc _⟩
 ·have r1 : xqv M l x = false := by simp [xqv, h1]
  have R1 := iH r1; clear r1
  go_enter Tryz.func34, Tryz.ntmps34
  go_wp2
  go_ret
  exact ⟨retb R1.out.symm, (Kept.refl w []).alloc _⟩
def upB (M : Int) : Int -> List Int -> Bool
 | _, [] => true
 | b, x :: r => decide (b < x) && (decide (x < M) && upB M x r)
def xqn (M : Int) (l : List Int) : Bool := decide (1 <= M) && upB M 0 l
theorem upB_step {M b : Int} {l : List Int} {k : Nat} (hk : k < l.length) : upB M b (l.drop k) = (decide (b < l[k]) && (decide (l[k] < M) && upB M l[k] (l.drop (k + 1)))) := by
 rw [List.drop_eq_getElem_cons hk]
 rfl
theorem upB_end {M b : Int} {l : List Int} {k : Nat} (hk : l.length <= k) : upB M b (l.drop k) = true := by
 rw [List.drop_of_length_le hk]
 rfl
theorem right_any (M : Int) (v : Value) (l : List Int) (w : World) (h : RdI w v l) :
 Calls Tryz.prog 173 #[.agg #[.int .i64 M, v]] w fun e w' => e = .returned (.bool (xqn M l)) /\ Kept w w' [] := by
 have hlen := h.len
 obtain ⟨a, c, rfl, hc, hm, _, hl⟩ := h
 by_cases hne : l = []
 ·subst hne
  clear hl
  have R1 := iH (show xqn M [] = decide (1 <= M) by simp [xqn, upB])
  go_enter Tryz.func173, Tryz.ntmps173
  go_wp2
  go_loop [3, 9] (fun t s => t = .int .i64 0 /\ s = .int .i64 0) (fun _ _ => 0)
  case atStart => exact ⟨rfl, rfl⟩
  case round =>
  obtain ⟨rfl, rfl⟩ := hrel
  go_wp2
  go_ret
  exact ⟨retb R1.out.symm, (Kept.refl w []).alloc _⟩
 ·obtain ⟨b, o, rfl, hcell⟩ := hl hne
  have C := iH (fun i hi => ((Kept.refl w []).alloc (.cells #[.int .i64 M, .slice (some ⟨b, o, none⟩) l.length c] 36)).cell (p := ⟨b, o + i, none⟩) (by simp) (hcell i hi))
  clear hcell hl
  go_enter Tryz.func173, Tryz.ntmps173
  go_wp2
  go_loop [3, 9] (fun t s => ∃ (k : Nat) (y : Int), s = .int .i64 k /\ t = .int .i64 y /\ k <= l.length /\ upB M 0 l = upB M y (l.drop k)) (fun _ s => l.length - (intOf s).toNat)
  case atStart => exact ⟨0, 0, rfl, rfl, Nat.zero_le _, by rw [List.drop_zero]⟩
  case round =>
  obtain ⟨k, y, rfl, rfl, hk, hu⟩ := hrel
  have Hu := iH hu; clear hu
  by_cases hlt : k < l.length
  ·have c1 := C.out k hlt
   have e1 := upB_step (M := M) (b := y) hlt
   rw [<- Hu.out] at e1
   have x1 : (k : Int) < (l.length : Int) := by omega
   obtain ⟨x, hx⟩ : ∃ x, x = l.getD k 0 := ⟨_, rfl⟩
   have hx2 : l[k] = x := by rw [hx]; simp [List.getD, hlt]
   rw [hx2] at e1
   rw [<- hx] at c1
   clear hx hx2
   by_cases h1 : x <= y
   ·have R1 := iH (show xqn M l = false by rw [xqn, e1]; simp; omega)
    clear e1
    go_wp2
    go_ret
    exact ⟨retb R1.out.symm, (Kept.refl w []).alloc _⟩
   by_cases h2 : M <= x
   ·have R1 := iH (show xqn M l = false by rw [xqn, e1]; simp; omega)
    clear e1
    go_wp2
    go_ret
    exact ⟨retb R1.out.symm, (Kept.refl w []).alloc _⟩
   have e2 : upB M 0 l = upB M x (l.drop (k + 1)) := by rw [e1, decide_eq_true (by omega), decide_eq_true (by omega)]; rfl
   have E2 := iH e2
   clear e1 e2
   go_wp2
   go_round
   case rel => exact ⟨k + 1, x, by go_num, rfl, by omega, E2.out⟩
   case measure => simp [intOf]; omega
  have x1 : ¬ (k : Int) < (l.length : Int) := by omega
  have R1 := iH (show xqn M l = decide (1 <= M) by rw [xqn, Hu.out, upB_end (by omega), Bool.and_true])
  go_wp2
  go_ret
  exact ⟨retb R1.out.symm, (Kept.refl w []).alloc _⟩
theorem rright_any (M : Int) (v : Value) (l : List Int) (w : World) (h : RdI w v l) :
 Calls Tryz.prog 113 #[.agg #[.int .i64 M, v]] w fun e w' => e = .returned (.bool (xqn M l)) /\ Kept w w' [] := by
 have hlen := h.len
 obtain ⟨a, c, rfl, hc, hm, _, hl⟩ := h
 by_cases hne : l = []
 ·subst hne
  clear hl
  have R1 := iH (show xqn M [] = decide (1 <= M) by simp [xqn, upB])
  go_enter Tryz.func113, Tryz.ntmps113
  go_wp2
  go_loop [3] (fun t => t = .int .i64 0) (fun _ => 0)
  case atStart => rfl
  case round =>
  subst hrel
  go_wp2
  go_ret
  exact ⟨retb R1.out.symm, (Kept.refl w []).alloc _⟩
 ·obtain ⟨b, o, rfl, hcell⟩ := hl hne
  have C := iH (fun i hi => ((Kept.refl w []).alloc (.cells #[.int .i64 M, .slice (some ⟨b, o, none⟩) l.length c] 36)).cell (p := ⟨b, o + i, none⟩) (by simp) (hcell i hi))
  clear hcell hl
  go_enter Tryz.func113, Tryz.ntmps113
  go_wp2
  go_loopw [3] (fun s wr => ∃ (k : Nat) (y : Int) (q : Nat), s = .int .i64 k /\ k <= l.length /\ 0 <= y /\ (k = 0 -> y = 0) /\ (0 < k -> y = l.getD (k - 1) 0) /\ upB M 0 l = upB M y (l.drop k) /\ wr = (w.alloc (.cells #[.int .i64 M, .slice (some ⟨b, o, none⟩) l.length c] 36)).drewN q) (fun s _ => l.length - (intOf s).toNat)
  case atStart => exact ⟨0, 0, 0, rfl, Nat.zero_le _, by omega, fun _ => rfl, fun h => by omega, by rw [List.drop_zero], rfl⟩
  case round =>
  obtain ⟨k, y, q, rfl, hk, hy0, hyz, hyp, hu, rfl⟩ := hrel
  have Hu := iH hu; clear hu
  by_cases hlt : k < l.length
  ·have c1 := C.out k hlt
   have e1 := upB_step (M := M) (b := y) hlt
   rw [<- Hu.out] at e1
   have x1 : (k : Int) < (l.length : Int) := by omega
   obtain ⟨x, hx⟩ : ∃ x, x = l.getD k 0 := ⟨_, rfl⟩
   have hx2 : l[k] = x := by rw [hx]; simp [List.getD, hlt]
   have hx3 := iH hx
   rw [hx2] at e1
   rw [<- hx] at c1
   clear hx hx2
   by_cases h1 : x < 1
   ·have R1 := iH (show xqn M l = false by rw [xqn, e1]; simp; omega)
    clear e1 hyz hyp
    go_wp2
    go_quiet (fail)
    go_wp2
    go_ret
    exact ⟨retb R1.out.symm, (((Kept.refl w []).alloc _).drewN _).drewN _⟩
   have d1 : decide (x < 1) = false := decide_eq_false h1
   by_cases h2 : M <= x
   ·have R1 := iH (show xqn M l = false by rw [xqn, e1]; simp; omega)
    clear e1 hyz hyp h1
    go_wp2
    go_quiet (fail)
    go_wp2
    go_ret
    exact ⟨retb R1.out.symm, (((Kept.refl w []).alloc _).drewN _).drewN _⟩
   have d2 : decide (M <= x) = false := decide_eq_false h2
   by_cases h0 : k = 0
   ·have hy2 := hyz h0
    have e2 : upB M 0 l = upB M x (l.drop (k + 1)) := by rw [e1, decide_eq_true (by omega), decide_eq_true (by omega)]; rfl
    have E2 := iH e2
    have d0 : decide (0 < k) = false := decide_eq_false (by omega)
    clear e1 e2 hyz hyp hy2 h0
    go_wp2
    go_quiet (fail)
    go_wp2
    go_roundw
    case rel => exact ⟨k + 1, x, q + nq, by go_num, by omega, by omega, by omega, fun _ => hx3.out, E2.out, rfl⟩
    case measure => simp [intOf]; omega
   have c2 := C.out (k - 1) (by omega)
   have hy1 : y = l.getD (k - 1) 0 := hyp (by omega)
   rw [<- hy1] at c2
   have x2 : 0 < k := by omega
   have x3 : (k : Int) - 1 = ((k - 1 : Nat) : Int) := by omega
   have x4 : ((k - 1 : Nat) : Int) < (l.length : Int) := by omega
   clear hyz hyp hy1 h0
   by_cases h3 : x <= y
   ·have R1 := iH (show xqn M l = false by rw [xqn, e1]; simp; omega)
    clear e1
    go_wp2
    go_quiet (fail)
    go_wp2
    go_ret
    exact ⟨retb R1.out.symm, (((Kept.refl w []).alloc _).drewN _).drewN _⟩
   have e2 : upB M 0 l = upB M x (l.drop (k + 1)) := by rw [e1, decide_eq_true (by omega), decide_eq_true (by omega)]; rfl
   have E2 := iH e2
   have d3 : decide (x <= y) = false := decide_eq_false h3
   clear e1 e2
   go_wp2
   go_quiet (fail)
   go_wp2
   go_roundw
   case rel => exact ⟨k + 1, x, q + nq, by go_num, by omega, by omega, by omega, fun _ => hx3.out, E2.out, rfl⟩
   case measure => simp [intOf]; omega
  have x1 : ¬ (k : Int) < (l.length : Int) := by omega
  have R1 := iH (show xqn M l = decide (1 <= M) by rw [xqn, Hu.out, upB_end (by omega), Bool.and_true])
  go_wp2
  go_ret
  exact ⟨retb R1.out.symm, ((Kept.refl w []).alloc _).drewN _⟩
def Inc (l : List Int) : Prop := ∀ i j, i < j -> j < l.length -> l.getD i 0 < l.getD j 0
theorem notNaN (x : Int) (w : World) : Calls Tryz.prog 228 #[.int .i64 x] w fun e w' => e = .returned (.bool false) /\ w = w' := by
 go_enter Tryz.func228, Tryz.ntmps228
 go_wp2
 go_ret
 exact ⟨retb (by simp), rfl⟩
theorem notNaN2 (x : Int) (w : World) : Calls Tryz.prog 146 #[.int .i64 x] w fun e w' => e = .returned (.bool false) /\ w = w' := by
 go_enter Tryz.func146, Tryz.ntmps146
 go_wp2
 go_ret
 exact ⟨retb (by simp), rfl⟩
theorem retib_g4 {i : Int} {a b : Bool} (h : a = b) : Ending.returned (.tuple #[.int .i64 i, .bool a]) = .returned (.tuple #[.int .i64 i, .bool b]) := by rw [h]
theorem less_any (x y : Int) (w : World) : Calls Tryz.prog 207 #[.int .i64 x, .int .i64 y] w fun e w' => e = .returned (.bool (decide (x < y))) /\ w = w' := by
 go_enter Tryz.func207, Tryz.ntmps207
 go_wp2_with fail
 refine (notNaN2 x w).mono ?_
 rintro e w1 ⟨rfl, rfl⟩
 go_wp2
 go_ret
 exact ⟨retb rfl, rfl⟩
def Spot (l : List Int) (x : Int) (i : Nat) : Prop := i <= l.length /\ (∀ j, j < i -> l.getD j 0 < x) /\ ∀ j, i <= j -> j < l.length -> x <= l.getD j 0
theorem mem_getD {l : List Int} {x : Int} (h : x ∈ l) : ∃ j, j < l.length /\ l.getD j 0 = x := by
 obtain ⟨j, hj, e⟩ := List.getElem_of_mem h
 exact ⟨j, hj, by simp [List.getD, hj, e]⟩
theorem Spot.mem {l : List Int} {x : Int} {i : Nat} (h : Spot l x i) (hl : Inc l) (hi : i < l.length) (hne : l.getD i 0 ≠ x) : x ∉ l := by
 intro hm
 obtain ⟨j, hj, e⟩ := mem_getD hm
 rcases Nat.lt_trichotomy j i with h1 | rfl | h1
 ·have := h.2.1 j h1; omega
 ·exact hne e
 have := hl i j h1 hj
 have := h.2.2 i (Nat.le_refl _) hi
 omega
theorem Spot.none {l : List Int} {x : Int} {i : Nat} (h : Spot l x i) (hi : l.length <= i) : x ∉ l := by
 intro hm
 obtain ⟨j, hj, e⟩ := mem_getD hm
 have := h.2.1 j (by omega)
 omega
theorem left_go {l : List Int} {x : Int} {k : Nat} (hl : Inc l) (hk : k < l.length) (h : l.getD k 0 < x) : ∀ q, q < k + 1 -> l.getD q 0 < x := by
 intro q hq
 rcases Nat.lt_or_ge q k with h1 | h1
 ·have := hl q k h1 hk; omega
 have : q = k := by omega
 rw [this]; exact h
theorem right_go {l : List Int} {x : Int} {k : Nat} (hl : Inc l) (h : ¬ l.getD k 0 < x) : ∀ q, k <= q -> q < l.length -> x <= l.getD q 0 := by
 intro q hq hq2
 rcases Nat.eq_or_lt_of_le hq with rfl | h1
 ·omega
 have := hl k q h1 hq2; omega
theorem search_any (v : Value) (l : List Int) (x : Int) (w : World) (h : RdI w v l) (hinc : Inc l) (hlen : l.length <= 4611686018427387903) :
 Calls Tryz.prog 217 #[v, .int .i64 x] w fun e w' => ∃ i : Nat, e = .returned (.tuple #[.int .i64 i, .bool (decide (x ∈ l))]) /\ Spot l x i /\ w = w' := by
 obtain ⟨a, c, rfl, hc, hm, _, hl⟩ := h
 by_cases hne : l = []
 ·subst hne
  clear hl
  go_enter Tryz.func217, Tryz.ntmps217
  go_wp2
  go_loop [7, 8] (fun t s => t = .int .i64 0 /\ s = .int .i64 0) (fun _ _ => 0)
  case atStart => exact ⟨rfl, rfl⟩
  case round =>
  obtain ⟨rfl, rfl⟩ := hrel
  go_wp2
  go_ret2
  exact ⟨0, by simp, ⟨by simp, by simp, by simp⟩, rfl⟩
 ·obtain ⟨b, o, rfl, hcell⟩ := hl hne
  have C := iH hcell; have I := iH hinc
  clear hcell hl hinc
  go_enter Tryz.func217, Tryz.ntmps217
  go_wp2
  go_loop [7, 8] (fun t s => ∃ i j : Nat, t = .int .i64 i /\ s = .int .i64 j /\ i <= j /\ j <= l.length /\ (∀ q, q < i -> l.getD q 0 < x) /\ ∀ q, j <= q -> q < l.length -> x <= l.getD q 0) (fun t s => (intOf s).toNat - (intOf t).toNat)
  case atStart => exact ⟨0, l.length, rfl, rfl, Nat.zero_le _, Nat.le_refl _, by simp, fun q h1 h2 => absurd h2 (by omega)⟩
  case round =>
  obtain ⟨i, j, rfl, rfl, hij, hj, hL, hR⟩ := hrel
  have L := iH hL; have R := iH hR; clear hL hR
  by_cases hlt : i < j
  ·have x1 : (i : Int) < (j : Int) := by omega
   obtain ⟨k, hk⟩ : ∃ k : Nat, k = (i + j) / 2 := ⟨_, rfl⟩
   have hk1 : i <= k := by omega
   have hk2 : k < j := by omega
   have c1 := C.out k (by omega)
   have x2 : (k : Int) < (l.length : Int) := by omega
   have e1 : wrap64 ((i : Int) + (j : Int)) = (i : Int) + (j : Int) := by simp only [wrap64]; omega
   have e2 : ((i : Int) + (j : Int)) % 18446744073709551616 = (i : Int) + (j : Int) := by omega
   have e3 : ((i : Int) + (j : Int)) / 2 = (k : Int) := by omega
   obtain ⟨y, hy⟩ : ∃ y, y = l.getD k 0 := ⟨_, rfl⟩
   rw [<- hy] at c1
   have Hy := iH hy
   clear hy hk
   go_wp2_with (go_at_call 207; refine (less_any y x _).mono ?_; rintro e w1 ⟨rfl, rfl⟩)
   ·go_round
    case rel => exact ⟨k + 1, j, by go_num, rfl, by omega, by omega, left_go I.out (by omega) (by rw [<- Hy.out]; assumption), R.out⟩
    case measure => simp [intOf]; omega
   go_round
   case rel => exact ⟨i, k, rfl, rfl, by omega, by omega, L.out, right_go I.out (by rw [<- Hy.out]; omega)⟩
   case measure => simp [intOf]; omega
  have x1 : ¬ (i : Int) < (j : Int) := by omega
  obtain rfl : i = j := by omega
  have S := iH (show Spot l x i from ⟨hj, L.out, R.out⟩)
  by_cases hil : i < l.length
  ·have c1 := C.out i hil
   have x2 : (i : Int) < (l.length : Int) := by omega
   obtain ⟨y, hy⟩ : ∃ y, y = l.getD i 0 := ⟨_, rfl⟩
   rw [<- hy] at c1
   by_cases hyx : y = x
   ·have x3 : (y == x) = true := by simpa using hyx
    have M := iH (show x ∈ l by rw [<- hyx, hy]; simp [List.getD, hil])
    clear hyx hy
    go_wp2
    go_ret2
    exact ⟨i, retib_g4 (decide_eq_true M.out).symm, S.out, rfl⟩
   have x3 : (y == x) = false := by simpa using hyx
   have M := iH (S.out.mem I.out hil (by rw [<- hy]; exact hyx))
   clear hyx hy
   go_wp2_with (go_at_call 228; refine (notNaN _ _).mono ?_; rintro e w1 ⟨rfl, rfl⟩)
   go_ret2
   exact ⟨i, retib_g4 (decide_eq_false M.out).symm, S.out, rfl⟩
  have x2 : ¬ (i : Int) < (l.length : Int) := by omega
  have M := iH (S.out.none (by omega))
  go_wp2
  go_ret2
  exact ⟨i, retib_g4 (decide_eq_false M.out).symm, S.out, rfl⟩
theorem upB_mem {M : Int} : ∀ {l : List Int} {b : Int}, upB M b l = true -> ∀ x ∈ l, b < x /\ x < M := by
 intro l
 induction l with
 | nil => intro b _ x hx; simp at hx
 | cons y r ih =>
 intro b h x hx
 simp only [upB, Bool.and_eq_true, decide_eq_true_eq] at h
 rcases List.mem_cons.1 hx with rfl | hx
 ·exact ⟨h.1, h.2.1⟩
 have := ih h.2.2 x hx
 omega
theorem upB_inc {M : Int} : ∀ {l : List Int} {b : Int}, upB M b l = true -> Inc l := by
 intro l
 induction l with
 | nil => intro b _ i j _ hj; simp at hj
 | cons y r ih =>
 intro b h i j hij hj
 simp only [upB, Bool.and_eq_true, decide_eq_true_eq] at h
 cases j with
 | zero => omega
 | succ j =>
 have hj' : j < r.length := by simpa using hj
 cases i with
 | zero =>
 have := (upB_mem h.2.2 (r.getD j 0) (by simp [List.getD, hj'])).1
 simpa using this
 | succ i =>
 have := ih h.2.2 i j (by omega) hj'
 simpa using this
theorem right_mem {M : Int} {l : List Int} (h : xqn M l = true) : ∀ x ∈ l, 1 <= x /\ x < M := by
 intro x hx
 simp only [xqn, Bool.and_eq_true] at h
 have := upB_mem h.2 x hx
 omega
theorem right_inc {M : Int} {l : List Int} (h : xqn M l = true) : Inc l := by
 simp only [xqn, Bool.and_eq_true] at h
 exact upB_inc h.2
theorem yqo {M : Int} {l : List Int} (h : xqn M l = true) : 1 <= M := by
 simp only [xqn, Bool.and_eq_true, decide_eq_true_eq] at h
 exact h.1
theorem upB_len {M : Int} : ∀ {l : List Int} {b : Int}, upB M b l = true -> b < M -> (l.length : Int) <= M - 1 - b := by
 intro l
 induction l with
 | nil => intro b _ _; simp; omega
 | cons y r ih =>
 intro b h hb
 simp only [upB, Bool.and_eq_true, decide_eq_true_eq] at h
 have := ih h.2.2 h.2.1
 simp only [List.length_cons]
 omega
theorem upB_full {M : Int} : ∀ {l : List Int} {b : Int}, upB M b l = true -> M - 1 - b <= (l.length : Int) -> ∀ x, b < x -> x < M -> x ∈ l := by
 intro l
 induction l with
 | nil => intro b _ h x h1 h2; simp at h; omega
 | cons y r ih =>
 intro b h hl x h1 h2
 simp only [upB, Bool.and_eq_true, decide_eq_true_eq] at h
 have h3 := upB_len h.2.2 h.2.1
 simp only [List.length_cons] at hl
 have hy : y = b + 1 := by omega
 by_cases hx : x = y
 ·rw [hx]; exact List.mem_cons_self
 exact List.mem_cons_of_mem _ (ih h.2.2 (by omega) x (by omega) h2)
theorem upB_all {M : Int} : ∀ {l : List Int} {b : Int}, upB M b l = true -> (∀ x, b < x -> x < M -> x ∈ l) -> M - 1 - b <= (l.length : Int) := by
 intro l
 induction l with
 | nil =>
 intro b _ h
 by_cases hb : b + 1 < M
 ·have := h (b + 1) (by omega) hb; simp at this
 simp; omega
 | cons y r ih =>
 intro b h hl
 simp only [upB, Bool.and_eq_true, decide_eq_true_eq] at h
 have hy : y = b + 1 := by
  by_cases hy : b + 1 < y
  ·have h1 := hl (b + 1) (by omega) (by omega)
   rcases List.mem_cons.1 h1 with h2 | h2
   ·omega
   have := (upB_mem h.2.2 _ h2).1; omega
  omega
 have := ih h.2.2 (fun x h1 h2 => by
  have h3 := hl x (by omega) h2
  rcases List.mem_cons.1 h3 with h4 | h4
  ·omega
  ·exact h4)
 simp only [List.length_cons]
 omega
theorem upB_drop {M : Int} : ∀ {l : List Int} {b c : Int} (i : Nat), upB M b l = true -> (∀ j, i <= j -> j < l.length -> c < l.getD j 0) -> upB M c (l.drop i) = true := by
 intro l
 induction l with
 | nil => intro b c i _ _; simp [upB]
 | cons y r ih =>
 intro b c i h hc
 have h' := h
 simp only [upB, Bool.and_eq_true, decide_eq_true_eq] at h
 cases i with
 | zero =>
 rw [List.drop_zero]
 simp only [upB, Bool.and_eq_true, decide_eq_true_eq]
 have := hc 0 (Nat.le_refl _) (by simp)
 exact ⟨by simpa using this, h.2⟩
 | succ i =>
 rw [List.drop_succ_cons]
 exact ih i h.2.2 (fun j h1 h2 => by simpa using hc (j + 1) (by omega) (by simpa using h2))
def Cover (A B : Int) (l m : List Int) : Prop := ∀ x, xqv B m x = true -> xqv A l x = true
def coverB (A B : Int) (l m : List Int) (i : Nat) : Bool := l.all (fun x => !xqv B m x) && decide (B - A <= ((m.length - i : Nat) : Int))
theorem cover_iff {A B : Int} {l m : List Int} {i : Nat} (hA : xqn A l = true) (hB : xqn B m = true) (hi : Spot m A i) : coverB A B l m i = true ↔ Cover A B l m := by
 have h1 := right_mem hA
 have hA1 := yqo hA
 have hB1 := yqo hB
 have hm := right_mem hB
 have hu : upB B (A - 1) (m.drop i) = true := by
  simp only [xqn, Bool.and_eq_true] at hB
  exact upB_drop i hB.2 (fun j h2 h3 => by have := hi.2.2 j h2 h3; omega)
 have hd : ((m.drop i).length : Int) = ((m.length - i : Nat) : Int) := by simp
 have hin : ∀ x, A <= x -> (x ∈ m ↔ x ∈ m.drop i) := by
  intro x hx
  constructor
  ·intro h
   obtain ⟨j, hj, e⟩ := mem_getD h
   have : i <= j := by
    rcases Nat.lt_or_ge j i with h2 | h2
    ·have := hi.2.1 j h2; omega
    exact h2
   rw [List.mem_iff_getElem]
   refine ⟨j - i, by simp; omega, ?_⟩
   rw [List.getElem_drop]
   simp only [List.getD, List.getElem?_eq_getElem hj, Option.getD_some] at e
   rw [<- e]
   congr 1
   omega
  exact List.mem_of_mem_drop
 unfold coverB Cover
 simp only [Bool.and_eq_true, List.all_eq_true, Bool.not_eq_true', decide_eq_true_eq]
 constructor
 ·rintro ⟨h2, h3⟩ x hx
  rw [xqX] at hx
  rw [xqX]
  refine ⟨hx.1, ?_, fun hl => ?_⟩
  ·rcases Int.lt_or_le x A with h4 | h4
   ·exact h4
   exact absurd ((hin x h4).2 (upB_full hu (by rw [hd]; omega) x (by omega) hx.2.1)) hx.2.2
  have := h2 x hl
  rw [xqX.2 hx] at this
  exact absurd this (by simp)
 intro h
 constructor
 ·intro x hx
  cases hs : xqv B m x with
  | false => rfl
  | true => exact absurd hx (xqX.1 (h x hs)).2.2
 rcases Int.lt_or_le A B with h4 | h4
 ·have := upB_all hu (fun x h5 h6 => by
   have h7 : x ∈ m := by
    rcases Decidable.em (x ∈ m) with h8 | h8
    ·exact h8
    have := xqX.1 (h x (xqX.2 ⟨by omega, h6, h8⟩))
    omega
   exact (hin x (by omega)).1 h7)
  rw [hd] at this
  omega
 omega
theorem all_take {B : Int} {l m : List Int} {k : Nat} (hk : k < l.length) (h : ∀ x ∈ l.take k, xqv B m x = false) (hx : xqv B m l[k] = false) : ∀ x ∈ l.take (k + 1), xqv B m x = false := by
 intro x hm
 rw [List.take_succ_eq_append_getElem hk, List.mem_append] at hm
 rcases hm with h1 | h1
 ·exact h x h1
 rw [List.mem_singleton.1 h1]; exact hx
theorem cover_no {A B : Int} {l m : List Int} {k : Nat} (hk : k < l.length) (hx : xqv B m l[k] = true) : ¬ Cover A B l m := by
 intro h
 exact (xqX.1 (h _ hx)).2.2 (List.getElem_mem hk)
theorem cover_end {A B : Int} {l m : List Int} {k i : Nat} (hA : xqn A l = true) (hB : xqn B m = true) (hk : l.length <= k) (h : ∀ x ∈ l.take k, xqv B m x = false) (hi : Spot m A i) : decide (B - A <= (m.length : Int) - (i : Int)) = true ↔ Cover A B l m := by
 rw [<- cover_iff hA hB hi, coverB, List.take_of_length_le hk] at *
 have h1 : l.all (fun x => !xqv B m x) = true := by
  rw [List.all_eq_true]
  intro x hx
  rw [h x hx]; rfl
 have h2 : ((m.length - i : Nat) : Int) = (m.length : Int) - (i : Int) := by have := hi.1; omega
 rw [h1, Bool.true_and, h2]
theorem covers_any (A B : Int) (va vb : Value) (l m : List Int) (w : World) (ha : RdI w va l) (hb : RdI w vb m) (rA : xqn A l = true) (rB : xqn B m = true)
 (hA : A <= 9223372036854775807) (hB : B <= 9223372036854775807) (hl : l.length <= 1000) (hm : m.length <= 1000) :
 Calls Tryz.prog 198 #[.agg #[.int .i64 A, va], .agg #[.int .i64 B, vb]] w fun e w' => ∃ r : Bool, e = .returned (.bool r) /\ (r = true ↔ Cover A B l m) /\ Kept w w' [] := by
 have Hb0 := iH hb
 have Ha0 := iH ha
 obtain ⟨a, c, rfl, hc, _⟩ := ha
 obtain ⟨b, d, rfl, _⟩ := hb
 have K := iH (((Kept.refl w []).alloc (.cells #[.int .i64 A, .slice a l.length c] 36)).alloc (.cells #[.int .i64 B, .slice b m.length d] 36))
 have RA := iH rA; have RB := iH rB
 have iA := yqo rA; have iB := yqo rB
 clear rA rB
 go_enter Tryz.func198, Tryz.ntmps198
 go_wp2
 go_loop [14] (fun t => ∃ k : Nat, t = .int .i64 k /\ k <= l.length /\ ∀ x ∈ l.take k, xqv B m x = false) (fun t => l.length - (intOf t).toNat)
 case atStart => exact ⟨0, rfl, Nat.zero_le _, by simp⟩
 case round =>
  obtain ⟨k, rfl, hk, hx⟩ := hrel
  have Hx := iH hx; clear hx
  have hb1 := Hb0.out.keep K.out
  by_cases hlt : k < l.length
  ·obtain ⟨a', c', e1, _, _, _, hla⟩ := Ha0.out
   simp only [Value.slice.injEq, true_and] at e1
   obtain ⟨rfl, rfl⟩ := e1
   obtain ⟨ab, ao, rfl, hcell⟩ := hla (by rintro rfl; simp at hlt)
   have c1 := K.out.cell (p := ⟨ab, ao + k, none⟩) (by simp) (hcell k hlt)
   have x1 : (k : Int) < (l.length : Int) := by omega
   obtain ⟨x, hx⟩ : ∃ x, x = l.getD k 0 := ⟨_, rfl⟩
   have hx2 : l[k] = x := by rw [hx]; simp [List.getD, hlt]
   rw [<- hx] at c1
   have h1x := (right_mem RA.out l[k] (List.getElem_mem hlt)).1
   rw [hx2] at h1x
   have N := iH (fun h => cover_no (A := A) (B := B) (m := m) hlt (by rw [hx2]; exact h))
   have Y := iH (fun h => all_take (B := B) (m := m) hlt Hx.out (by rw [hx2]; exact h))
   clear hx hx2 hla hcell
   go_wp2_with fail
   refine (search_any _ m x _ hb1 (right_inc RB.out) (by omega)).mono ?_
   rintro e w1 ⟨i, rfl, hi, rfl⟩
   clear hi hb1
   by_cases hm1 : x ∈ m
   ·have y := iH (Y.out (by simp [xqv, hm1]))
    have d1 : decide (x ∈ m) = true := decide_eq_true hm1
    clear hm1
    go_wp2
    go_round
    case rel => exact ⟨k + 1, by go_num, by omega, y.out⟩
    case measure => simp [intOf]; omega
   have d1 : decide (x ∈ m) = false := decide_eq_false hm1
   by_cases hxB : x < B
   ·have n := iH (N.out (xqX.2 ⟨h1x, hxB, hm1⟩))
    clear hm1
    go_wp2
    go_ret
    exact ⟨_, rfl, iff_of_false (by simp) n.out, K.out⟩
   have y := iH (Y.out (by simp [xqv, hxB]))
   clear hm1
   go_wp2
   go_round
   case rel => exact ⟨k + 1, by go_num, by omega, y.out⟩
   case measure => simp [intOf]; omega
  have x1 : ¬ (k : Int) < (l.length : Int) := by omega
  go_wp2_with fail
  refine (search_any _ m A _ hb1 (right_inc RB.out) (by omega)).mono ?_
  rintro e w1 ⟨i, rfl, hi, rfl⟩
  have hi0 := hi.1
  have E := iH (cover_end RA.out RB.out (by omega) Hx.out hi)
  clear hi hb1
  generalize decide (A ∈ m) = r0
  have e1 : wrap64 (B - A) = B - A := by simp only [wrap64]; omega
  have e2 : wrap64 ((m.length : Int) - (i : Int)) = (m.length : Int) - (i : Int) := by simp only [wrap64]; omega
  go_wp2
  go_ret
  exact ⟨_, rfl, E.out, K.out⟩
def hid (A : Int) (m : List Int) : Nat := m.countP (fun y => decide (A <= y))
theorem hid_step {A : Int} {m : List Int} {k : Nat} (hk : k < m.length) : hid A (m.take (k + 1)) = hid A (m.take k) + if A <= m[k] then 1 else 0 := by
 unfold hid
 rw [List.take_succ_eq_append_getElem hk, List.countP_append]
 by_cases h : A <= m[k] <;> simp [h]
theorem hid_le {A : Int} {m : List Int} (k : Nat) : hid A (m.take k) <= m.length := Nat.le_trans List.countP_le_length (by simp; omega)
theorem spot_ex {A : Int} : ∀ {m : List Int}, Inc m -> ∃ i, Spot m A i /\ hid A m = m.length - i := by
 intro m
 induction m with
 | nil => intro _; exact ⟨0, ⟨by simp, by simp, by simp⟩, rfl⟩
 | cons y r ih =>
 intro h
 have hr : Inc r := fun i j h1 h2 => by simpa using h (i + 1) (j + 1) (by omega) (by simpa using h2)
 by_cases hy : A <= y
 ·have hall : ∀ j, j < (y :: r).length -> A <= (y :: r).getD j 0 := by
   intro j hj
   cases j with
   | zero => simpa using hy
   | succ j => have := h 0 (j + 1) (by omega) hj; simp only [List.getD_cons_zero] at this; omega
  refine ⟨0, ⟨by simp, fun j hj => absurd hj (by omega), fun j _ h2 => hall j h2⟩, ?_⟩
  unfold hid
  rw [Nat.sub_zero, List.countP_eq_length]
  intro x hx
  obtain ⟨j, hj, e⟩ := mem_getD hx
  have := hall j hj
  rw [e] at this
  simpa using this
 obtain ⟨i, hi, he⟩ := ih hr
 refine ⟨i + 1, ⟨by have := hi.1; simp; omega, ?_, ?_⟩, ?_⟩
 ·intro j hj
  cases j with
  | zero => simp; omega
  | succ j => simpa using hi.2.1 j (by omega)
 ·intro j h1 h2
  cases j with
  | zero => omega
  | succ j => simpa using hi.2.2 j (by omega) (by simpa using h2)
 unfold hid at he ⊢
 simp only [List.countP_cons, hy, decide_false, List.length_cons]
 simp
 omega
theorem hid_cover {A B : Int} {l m : List Int} {k j : Nat} (hA : xqn A l = true) (hB : xqn B m = true) (hk : l.length <= k) (h : ∀ x ∈ l.take k, xqv B m x = false) (hj : m.length <= j) (hAB : ¬ B <= A) : ((hid A (m.take j) : Int) == B - A) = true ↔ Cover A B l m := by
 obtain ⟨i, hi, he⟩ := spot_ex (A := A) (right_inc hB)
 have h0 := cover_end hA hB hk h hi
 rw [<- h0, List.take_of_length_le hj, he]
 have hA1 := yqo hA
 have hu : upB B (A - 1) (m.drop i) = true := by
  simp only [xqn, Bool.and_eq_true] at hB
  exact upB_drop i hB.2 (fun j h2 h3 => by have := hi.2.2 j h2 h3; omega)
 have h1 := upB_len hu (by omega)
 have hi1 := hi.1
 simp only [List.length_drop] at h1
 simp only [beq_iff_eq, decide_eq_true_eq]
 omega
theorem hid_cover2 {A B : Int} {l m : List Int} {k : Nat} (hA : xqn A l = true) (hB : xqn B m = true) (hk : l.length <= k) (h : ∀ x ∈ l.take k, xqv B m x = false) (hAB : B <= A) : Cover A B l m := by
 obtain ⟨i, hi, he⟩ := spot_ex (A := A) (right_inc hB)
 have h0 := cover_end hA hB hk h hi
 have hi1 := hi.1
 rw [<- h0]
 simp only [decide_eq_true_eq]
 omega
def CovPost (A B : Int) (l m : List Int) (w : World) (e : Ending) (w' : World) : Prop := ∃ r : Bool, e = .returned (.bool r) /\ (r = true ↔ Cover A B l m) /\ Kept w w' []
theorem CovPost.is {A B : Int} {l m : List Int} {w w' : World} {r : Bool} (h : r = true ↔ Cover A B l m) (k : Kept w w' []) : CovPost A B l m w (.returned (.bool r)) w' := ⟨r, rfl, h, k⟩
theorem rcovers_any (A B : Int) (va vb : Value) (l m : List Int) (w : World) (ha : RdI w va l) (hb : RdI w vb m) (rA : xqn A l = true) (rB : xqn B m = true)
 (hA : A <= 9223372036854775807) (hB : B <= 9223372036854775807) (hl : l.length <= 1000) (hm : m.length <= 1000) :
 Calls Tryz.prog 114 #[.agg #[.int .i64 A, va], .agg #[.int .i64 B, vb]] w (CovPost A B l m w) := by
 have Hb0 := iH hb
 have Ha0 := iH ha
 obtain ⟨a, c, rfl, hc, _⟩ := ha
 obtain ⟨b, d, rfl, _⟩ := hb
 have K := iH (((Kept.refl w []).alloc (.cells #[.int .i64 A, .slice a l.length c] 36)).alloc (.cells #[.int .i64 B, .slice b m.length d] 36))
 obtain ⟨w1, hw1⟩ : ∃ w1, w1 = (w.alloc (.cells #[.int .i64 A, .slice a l.length c] 36)).alloc (.cells #[.int .i64 B, .slice b m.length d] 36) := ⟨_, rfl⟩
 have Z : Hid (w1.cell? ⟨w.heap.size, 0, none⟩ = some (.int .i64 A) /\ w1.cell? ⟨w.heap.size, 1, none⟩ = some (.slice a l.length c) /\ w1.cell? ⟨w.heap.size + 1, 0, none⟩ = some (.int .i64 B) /\ w1.cell? ⟨w.heap.size + 1, 1, none⟩ = some (.slice b m.length d)) := by
  have h1 : (w.alloc (.cells #[.int .i64 A, .slice a l.length c] 36)).heap.size = w.heap.size + 1 := by simp
  have h2 : w1.heap[w.heap.size]? = some (.cells #[.int .i64 A, .slice a l.length c] 36 (0, 0)) := by rw [hw1]; exact (Below.heap_alloc _ _ _ (by simp)).trans (heap_alloc_new w _)
  have h3 : w1.heap[w.heap.size + 1]? = some (.cells #[.int .i64 B, .slice b m.length d] 36 (0, 0)) := by rw [hw1, <- h1]; exact heap_alloc_new _ _
  exact iH ⟨by simpa using cell_of_row w1 w.heap.size 0 _ _ _ h2, by simpa using cell_of_row w1 w.heap.size 1 _ _ _ h2, by simpa using cell_of_row w1 (w.heap.size + 1) 0 _ _ _ h3, by simpa using cell_of_row w1 (w.heap.size + 1) 1 _ _ _ h3⟩
 rw [<- hw1] at K
 have RA := iH rA; have RB := iH rB
 have iA := yqo rA; have iB := yqo rB
 clear rA rB
 go_enter Tryz.func114, Tryz.ntmps114
 go_wp2
 rw [<- hw1]
 clear hw1
 go_loopw [5] (fun t wr => ∃ k : Nat, t = .int .i64 k /\ k <= l.length /\ (∀ x ∈ l.take k, xqv B m x = false) /\ Kept w1 wr []) (fun t _ => l.length - (intOf t).toNat)
 case atStart => exact ⟨0, rfl, Nat.zero_le _, by simp, Kept.refl _ _⟩
 case round =>
  obtain ⟨k, rfl, hk, hx, hkr⟩ := hrel
  have Hx := iH hx; have Kr := iH hkr; clear hx hkr
  have z0 := Kr.out.cell (p := ⟨w.heap.size, 0, none⟩) (by simp) Z.out.1
  have z1 := Kr.out.cell (p := ⟨w.heap.size, 1, none⟩) (by simp) Z.out.2.1
  have z2 := Kr.out.cell (p := ⟨w.heap.size + 1, 0, none⟩) (by simp) Z.out.2.2.1
  have z3 := Kr.out.cell (p := ⟨w.heap.size + 1, 1, none⟩) (by simp) Z.out.2.2.2
  by_cases hlt : k < l.length
  ·obtain ⟨a', c', e1, _, _, _, hla⟩ := Ha0.out
   simp only [Value.slice.injEq, true_and] at e1
   obtain ⟨rfl, rfl⟩ := e1
   obtain ⟨ab, ao, rfl, hcell⟩ := hla (by rintro rfl; simp at hlt)
   have C1 := iH (K.out.cell (p := ⟨ab, ao + k, none⟩) (by simp) (hcell k hlt))
   have x1 : (k : Int) < (l.length : Int) := by omega
   obtain ⟨x, hx⟩ : ∃ x, x = l.getD k 0 := ⟨_, rfl⟩
   have hx2 : l[k] = x := by rw [hx]; simp [List.getD, hlt]
   rw [<- hx] at C1
   have c1 := Kr.out.cell (p := ⟨ab, ao + k, none⟩) (by simp) C1.out
   have N := iH (fun h => cover_no (A := A) (B := B) (m := m) hlt (by rw [hx2]; exact h))
   have Y := iH (fun h => all_take (B := B) (m := m) hlt Hx.out (by rw [hx2]; exact h))
   have HS : Hid (∀ W, Kept w1 W [] -> Calls Tryz.prog 34 #[.agg #[.int .i64 B, .slice b m.length d], .int .i64 x] W fun e w' => e = .returned (.bool (xqv B m x)) /\ Kept w1 w' []) := iH (fun W hW => by
    refine (rsees_any B x _ m W ((Hb0.out.keep K.out).keep hW)).mono ?_
    rintro e w' ⟨rfl, h2⟩
    exact ⟨rfl, hW.trans h2 (by simp)⟩)
   have hKr := Kr.out.drew
   clear hx hx2 hla hcell
   by_cases hs : xqv B m x = true
   ·have n := iH (N.out hs)
    rw [hs] at HS
    go_wp2_with fail
    go_region_held3 (fun W => W.cell? ⟨w.heap.size, 1, none⟩ = some (.slice (some ⟨ab, ao, none⟩) l.length c) /\ W.cell? ⟨w.heap.size + 1, 0, none⟩ = some (.int .i64 B) /\ W.cell? ⟨w.heap.size + 1, 1, none⟩ = some (.slice b m.length d) /\ W.cell? ⟨ab, ao + k, none⟩ = some (.int .i64 x)) (first | exact ⟨z1, z2, z3, c1⟩ | exact y4)
     (first | (go_at_call 34; refine (HS.out _ ?_).mono ?_; assumption; rintro e w8 ⟨rfl, k8⟩; have y4 : _ /\ _ /\ _ /\ _ := ⟨k8.cell (p := ⟨w.heap.size, 1, none⟩) (by simp) Z.out.2.1, k8.cell (p := ⟨w.heap.size + 1, 0, none⟩) (by simp) Z.out.2.2.1, k8.cell (p := ⟨w.heap.size + 1, 1, none⟩) (by simp) Z.out.2.2.2, k8.cell (p := ⟨ab, ao + k, none⟩) (by simp) C1.out⟩))
    go_wp2
    go_ret
    exact CovPost.is (iff_of_false (by simp) n.out) (K.out.trans k8 (by simp))
   have hs2 : xqv B m x = false := by simpa using hs
   have y := iH (Y.out hs2)
   rw [hs2] at HS
   clear hs
   go_wp2_with fail
   go_region_held3 (fun W => W.cell? ⟨w.heap.size, 1, none⟩ = some (.slice (some ⟨ab, ao, none⟩) l.length c) /\ W.cell? ⟨w.heap.size + 1, 0, none⟩ = some (.int .i64 B) /\ W.cell? ⟨w.heap.size + 1, 1, none⟩ = some (.slice b m.length d) /\ W.cell? ⟨ab, ao + k, none⟩ = some (.int .i64 x)) (first | exact ⟨z1, z2, z3, c1⟩ | exact y4)
    (first | (go_at_call 34; refine (HS.out _ ?_).mono ?_; assumption; rintro e w8 ⟨rfl, k8⟩; have y4 : _ /\ _ /\ _ /\ _ := ⟨k8.cell (p := ⟨w.heap.size, 1, none⟩) (by simp) Z.out.2.1, k8.cell (p := ⟨w.heap.size + 1, 0, none⟩) (by simp) Z.out.2.2.1, k8.cell (p := ⟨w.heap.size + 1, 1, none⟩) (by simp) Z.out.2.2.2, k8.cell (p := ⟨ab, ao + k, none⟩) (by simp) C1.out⟩))
   go_wp2
   go_roundw
   case rel => exact ⟨k + 1, by go_num, by omega, y.out, k8⟩
   case measure => simp [intOf]; omega
  have x1 : ¬ (k : Int) < (l.length : Int) := by omega
  go_wp2
  go_loopw [6, 7] (fun t6 t7 wr2 => ∃ j : Nat, t7 = .int .i64 j /\ t6 = .int .i64 (hid A (m.take j)) /\ j <= m.length /\ Kept w1 wr2 []) (fun _ t7 _ => m.length - (intOf t7).toNat)
  case atStart => exact ⟨0, rfl, rfl, Nat.zero_le _, Kr.out⟩
  case round =>
  rename_i wr0
  obtain ⟨j, rfl, rfl, hj, hk2⟩ := hrel
  have K2 := iH hk2; clear hk2 z0 z1 z2 z3
  have z0 := K2.out.cell (p := ⟨w.heap.size, 0, none⟩) (by simp) Z.out.1
  have z2 := K2.out.cell (p := ⟨w.heap.size + 1, 0, none⟩) (by simp) Z.out.2.2.1
  have z3 := K2.out.cell (p := ⟨w.heap.size + 1, 1, none⟩) (by simp) Z.out.2.2.2
  have hh := hid_le (A := A) (m := m) j
  by_cases hlt : j < m.length
  ·obtain ⟨b', d', e1, _, _, _, hlb⟩ := Hb0.out
   simp only [Value.slice.injEq, true_and] at e1
   obtain ⟨rfl, rfl⟩ := e1
   obtain ⟨bb, bo, rfl, hcell⟩ := hlb (by rintro rfl; simp at hlt)
   have c1 := K2.out.cell (p := ⟨bb, bo + j, none⟩) (by simp) (K.out.cell (p := ⟨bb, bo + j, none⟩) (by simp) (hcell j hlt))
   have x2 : (j : Int) < (m.length : Int) := by omega
   have St := iH (hid_step (A := A) hlt)
   obtain ⟨x, hx⟩ : ∃ x, x = m.getD j 0 := ⟨_, rfl⟩
   have hx2 : m[j] = x := by rw [hx]; simp [List.getD, hlt]
   rw [<- hx] at c1
   rw [hx2] at St
   clear hx hx2 hlb hcell
   by_cases hAx : A <= x
   ·rw [if_pos hAx] at St
    go_wp2
    go_quiet (fail)
    go_wp2
    go_roundw
    case rel => exact ⟨j + 1, by go_num, by rw [St.out]; go_num, by omega, K2.out.drewN _⟩
    case measure => simp [intOf]; omega
   rw [if_neg hAx] at St
   have d1 : decide (A <= x) = false := decide_eq_false hAx
   go_wp2
   go_quiet (fail)
   go_wp2
   go_roundw
   case rel => exact ⟨j + 1, by go_num, by rw [St.out]; rfl, by omega, K2.out.drewN _⟩
   case measure => simp [intOf]; omega
  have x2 : ¬ (j : Int) < (m.length : Int) := by omega
  by_cases hBA : B <= A
  ·have E := iH (hid_cover2 RA.out RB.out (by omega) Hx.out hBA)
   go_wp2
   go_ret
   exact CovPost.is (iff_of_true rfl E.out) (K.out.trans K2.out (by simp))
  have E := iH (hid_cover RA.out RB.out (by omega) Hx.out (show m.length <= j by omega) hBA)
  have e1 : wrap64 (B - A) = B - A := by simp only [wrap64]; omega
  generalize hid A (m.take j) = hh1 at *
  go_wp2
  go_ret
  exact CovPost.is E.out (K.out.trans K2.out (by simp))
theorem xqq {w : World} {p : Nat} {M : Int} {v : Value} {t : TypeId} {fz : Nat × Nat} (h : w.heap[p]? = some (.cells #[.int .i64 M, v] t fz)) : w.cell? ⟨p, 0, none⟩ = some (.int .i64 M) /\ w.cell? ⟨p, 1, none⟩ = some v :=
 ⟨by simpa using cell_of_row w p 0 _ _ _ h, by simpa using cell_of_row w p 1 _ _ _ h⟩
theorem Tryz.infoI : (Tryz.prog.info? 2).map (fun i => (i.zero, i.size, i.bytes)) = some (some (.int .i64 0), 1, 8) := by kernel_rfl
def ic (l : List Int) : List Value := l.map fun n => Value.int .i64 n
theorem ic_get (l : List Int) (j : Nat) (h : j < l.length) : (ic l)[j]? = some (.int .i64 (l.getD j 0)) := by
 simp [ic, List.getD, h]
end Go.Proofs.YticiofkiffgclaaGreat
