/-
  Rta in one text.
-/
import Derived.Test.YticiofkiffgclaaGreatNr13
import Derived.Test.YticiofkiffgclaaGreatNr12
namespace Go.Proofs.YticiofkiffgclaaGreat
set_option linter.unusedVariables false
open Go.RowKit

def cmpI (a b : Int) : Int := if a < b then -1 else if b < a then 1 else 0
def cmpS (a b : ByteArray) : Int := if ltN a b = true then -1 else if ltN b a = true then 1 else 0
def orI (l : List Int) : Int := (l.find? fun x => x != 0).getD 0
theorem orI_hit : ∀ {l : List Int} {k : Nat} {x : Int}, l[k]? = some x → x ≠ 0 → (∀ j y, j < k → l[j]? = some y → y = 0) → orI l = x
  | [], k, x, h, _, _ => by simp at h
  | a :: t, 0, x, h, hx, _ => by
    simp only [List.getElem?_cons_zero, Option.some.injEq] at h
    subst h
    rw [orI, List.find?_cons_of_pos (by simpa using hx)]
    rfl
  | a :: t, k + 1, x, h, hx, h0 => by
    have e : a = 0 := h0 0 a (by omega) rfl
    have ih := orI_hit (l := t) (k := k) (x := x) (by simpa using h) hx (fun j y hj hy => h0 (j + 1) y (by omega) (by simpa using hy))
    rw [orI, List.find?_cons_of_neg (by simp [e])]
    exact ih
theorem orI_miss {l : List Int} (h : ∀ (j : Nat) (y : Int), l[j]? = some y → y = 0) : orI l = 0 := by
  rw [orI, List.find?_eq_none.2 (fun x hx => by
    obtain ⟨j, hj, rfl⟩ := List.mem_iff_getElem.1 hx
    simp [h j _ (List.getElem?_eq_getElem hj)])]
  rfl
theorem orI3 (a b c : Int) : orI [a, b, c] = if a ≠ 0 then a else if b ≠ 0 then b else c := by
  by_cases h : a = 0
  · by_cases k : b = 0
    · by_cases m : c = 0
      · subst h; subst k; subst m; rfl
      · subst h; subst k
        rw [if_neg (by simp), if_neg (by simp)]
        exact orI_hit (k := 2) rfl m (fun j y hj hy => by
          rcases j with _ | _ | j
          · simp at hy; exact hy.symm
          · simp at hy; exact hy.symm
          · omega)
    · subst h
      rw [if_neg (by simp), if_pos k]
      exact orI_hit (k := 1) rfl k (fun j y hj hy => by
        rcases j with _ | j
        · simp at hy; exact hy.symm
        · omega)
  · rw [if_pos h]
    exact orI_hit (k := 0) rfl h (fun j y hj _ => absurd hj (Nat.not_lt_zero _))

def cmpT (x y : It) : Int := orI [cmpI x.a y.a, cmpI x.e.id y.e.id, cmpS x.e.ow y.e.ow]
theorem cmpT_lt (x y : It) : decide (cmpT x y < 0) = ltI x y := by
  have h : cmpT x y < 0 ↔ ltI x y = true := by
    rw [ltI_iff, cmpT, orI3]
    unfold cmpI cmpS
    by_cases a1 : x.a < y.a
    · simp [a1]
    · by_cases a2 : y.a < x.a
      · have : ¬ x.a = y.a := by omega
        simp [a1, a2, this]
      · obtain e1 : x.a = y.a := by omega
        by_cases b1 : x.e.id < y.e.id
        · simp [e1, b1]
        · by_cases b2 : y.e.id < x.e.id
          · have : ¬ x.e.id = y.e.id := by omega
            simp [e1, b1, b2, this]
          · obtain e2 : x.e.id = y.e.id := by omega
            by_cases c1 : ltN x.e.ow y.e.ow = true
            · simp [e1, e2, c1]
            · by_cases c2 : ltN y.e.ow x.e.ow = true
              · simp [e1, e2, c1, c2]
              · simp [e1, e2, c1, c2]
  cases k : ltI x y with
  | true => simpa using h.2 k
  | false =>
    rw [decide_eq_false_iff_not]
    intro c
    rw [h.1 c] at k
    cases k

set_option maxHeartbeats 1000000 in
theorem nanI_any (a : Int) (w : World) : Calls Tryz.prog 146 #[.int .i64 a] w fun e w' => e = .returned (.bool false) ∧ w' = w := by
  go_enter Tryz.func146, Tryz.ntmps146
  go_wp2
  go_ret
  simp
set_option maxHeartbeats 1000000 in
theorem nanS_any (a : ByteArray) (w : World) : Calls Tryz.prog 214 #[.string a] w fun e w' => e = .returned (.bool false) ∧ w' = w := by
  go_enter Tryz.func214, Tryz.ntmps214
  go_wp2
  go_ret
  simp
set_option maxHeartbeats 1000000 in
theorem cmpI_any (a b : Int) (w : World) : Calls Tryz.prog 89 #[.int .i64 a, .int .i64 b] w fun e w' => e = .returned (.int .i64 (cmpI a b)) ∧ w' = w := by
  by_cases h1 : a < b
  · have e1 : cmpI a b = -1 := by rw [cmpI, if_pos h1]
    rw [e1]
    clear e1
    go_enter Tryz.func89, Tryz.ntmps89
    go_wp2_with (go_at_call 146; refine (nanI_any _ _).mono ?_; rintro e w2 ⟨rfl, rfl⟩)
    go_ret
    exact ⟨rfl, rfl⟩
  · by_cases h2 : b < a
    · have e1 : cmpI a b = 1 := by rw [cmpI, if_neg h1, if_pos h2]
      rw [e1]
      clear e1
      go_enter Tryz.func89, Tryz.ntmps89
      go_wp2_with (go_at_call 146; refine (nanI_any _ _).mono ?_; rintro e w2 ⟨rfl, rfl⟩)
      go_ret
      exact ⟨rfl, rfl⟩
    · have e1 : cmpI a b = 0 := by rw [cmpI, if_neg h1, if_neg h2]
      rw [e1]
      clear e1
      go_enter Tryz.func89, Tryz.ntmps89
      go_wp2_with (go_at_call 146; refine (nanI_any _ _).mono ?_; rintro e w2 ⟨rfl, rfl⟩)
      go_ret
      exact ⟨rfl, rfl⟩
set_option maxHeartbeats 1000000 in
theorem cmpS_any (a b : ByteArray) (w : World) : Calls Tryz.prog 191 #[.string a, .string b] w fun e w' => e = .returned (.int .i64 (cmpS a b)) ∧ w' = w := by
  by_cases h1 : ltN a b = true
  · have e1 : cmpS a b = -1 := by rw [cmpS, if_pos h1]
    rw [e1]
    clear e1
    unfold ltN at h1
    go_enter Tryz.func191, Tryz.ntmps191
    go_wp2_with (go_at_call 214; refine (nanS_any _ _).mono ?_; rintro e w2 ⟨rfl, rfl⟩)
    go_ret
    exact ⟨rfl, rfl⟩
  · by_cases h2 : ltN b a = true
    · have e1 : cmpS a b = 1 := by rw [cmpS, if_neg h1, if_pos h2]
      rw [e1]
      have h1 : ltN a b = false := by simpa using h1
      clear e1
      have h3 : (a.toList == b.toList) = false := by
        rw [beq_eq_false_iff_ne]
        intro h3
        rw [ltN, h3, bl_irrefl] at h2
        cases h2
      unfold ltN at h1 h2
      go_enter Tryz.func191, Tryz.ntmps191
      go_wp2_with (go_at_call 214; refine (nanS_any _ _).mono ?_; rintro e w2 ⟨rfl, rfl⟩)
      go_ret
      exact ⟨rfl, rfl⟩
    · have e1 : cmpS a b = 0 := by rw [cmpS, if_neg h1, if_neg h2]
      rw [e1]
      have h1 : ltN a b = false := by simpa using h1
      have h2 : ltN b a = false := by simpa using h2
      obtain rfl : a = b := toList_inj (bl_tri _ _ h1 h2)
      clear e1 h2
      unfold ltN at h1
      go_enter Tryz.func191, Tryz.ntmps191
      go_wp2_with (go_at_call 214; refine (nanS_any _ _).mono ?_; rintro e w2 ⟨rfl, rfl⟩)
      go_ret
      exact ⟨rfl, rfl⟩

set_option maxHeartbeats 1000000 in
theorem or_any (l : List Int) (hl : l.length ≤ 1000) (c b : Nat) (w : World) (hc : ∀ k x, l[k]? = some x → w.cell? ⟨b, k, none⟩ = some (.int .i64 x)) : Calls Tryz.prog 190 #[.slice (some ⟨b, 0, none⟩) l.length c] w fun e w' => e = .returned (.int .i64 (orI l)) ∧ w' = w := by
  have HC := Lib.hid hc
  clear hc
  go_enter Tryz.func190, Tryz.ntmps190
  go_wp2
  go_loop [5, 8] (fun _ t => ∃ k : Nat, t = .int .i64 k ∧ k ≤ l.length ∧ RowKit.Hid (∀ j y, j < k → l[j]? = some y → y = 0)) (fun _ t => l.length - (intOf t).toNat)
  case atStart => exact ⟨0, rfl, Nat.zero_le _, Lib.hid (fun j y hj => absurd hj (Nat.not_lt_zero _))⟩
  case round =>
    obtain ⟨k, rfl, hk, HX⟩ := hrel
    by_cases hlt : k < l.length
    · obtain ⟨x, hx⟩ : ∃ x, l[k]? = some x := ⟨_, List.getElem?_eq_getElem hlt⟩
      have c0 := HC.out k x hx
      have x1 : (k : Int) < (l.length : Int) := by omega
      have HR := Lib.hid hx
      clear hx
      by_cases h0 : x = 0
      · subst h0
        go_wp2
        go_round
        case rel =>
          refine ⟨k + 1, by go_num, by omega, Lib.hid (fun j y hj hy => ?_)⟩
          by_cases e : j = k
          · subst e
            rw [HR.out] at hy
            cases hy
            rfl
          · exact HX.out j y (by omega) hy
        case measure => simp [intOf]; omega
      · have b1 : (x == 0) = false := by rw [beq_eq_false_iff_ne]; exact h0
        have R := Lib.hid (orI_hit HR.out h0 HX.out)
        go_wp2
        go_ret
        rw [R.out]
        exact ⟨rfl, rfl⟩
    · have x1 : ¬ (k : Int) < (l.length : Int) := by omega
      have R := Lib.hid (orI_miss (l := l) (fun j y hy => HX.out j y (by have := (List.getElem?_eq_some_iff.1 hy).1; omega) hy))
      go_wp2
      go_ret
      rw [R.out]
      exact ⟨rfl, rfl⟩

set_option maxHeartbeats 4000000 in
set_option maxRecDepth 100000 in
theorem cmpT_any (x y : It) (w : World) : Calls Tryz.prog 156 #[.agg (encIt.cs x), .agg (encIt.cs y)] w fun e w' => e = .returned (.int .i64 (cmpT x y)) ∧ Kept w w' [] := by
  obtain ⟨W2, hW2⟩ : ∃ W2, W2 = (w.alloc (.cells (encIt.cs x) 173)).alloc (.cells (encIt.cs y) 173) := ⟨_, rfl⟩
  have k2 : Kept w W2 [] := by rw [hW2]; exact ((Kept.refl w []).alloc _).alloc _
  have hz : (w.alloc (.cells (encIt.cs x) 173)).heap.size = w.heap.size + 1 := by simp
  have g1 : W2.heap[w.heap.size]? = some (.cells (encIt.cs x) 173 (0, 0)) := by rw [hW2]; exact ((Kept.refl _ []).alloc _).heap (by simp) (heap_alloc_new w _)
  have g2 : W2.heap[w.heap.size + 1]? = some (.cells (encIt.cs y) 173 (0, 0)) := by rw [hW2, ← hz]; exact heap_alloc_new _ _
  have CX := Lib.hid (fun V (hV : Kept W2 V []) => (show V.cell? ⟨w.heap.size, 0, none⟩ = some (.int .i64 x.a) ∧ V.cell? ⟨w.heap.size, 1, none⟩ = some (.int .i64 x.e.id) ∧ V.cell? ⟨w.heap.size, 3, none⟩ = some (.string x.e.ow) ∧
      V.cell? ⟨w.heap.size + 1, 0, none⟩ = some (.int .i64 y.a) ∧ V.cell? ⟨w.heap.size + 1, 1, none⟩ = some (.int .i64 y.e.id) ∧ V.cell? ⟨w.heap.size + 1, 3, none⟩ = some (.string y.e.ow) from
    ⟨by rw [cell_of_row _ _ _ _ _ _ (hV.heap (by simp) g1)]; rfl, by rw [cell_of_row _ _ _ _ _ _ (hV.heap (by simp) g1)]; rfl, by rw [cell_of_row _ _ _ _ _ _ (hV.heap (by simp) g1)]; rfl,
     by rw [cell_of_row _ _ _ _ _ _ (hV.heap (by simp) g2)]; rfl, by rw [cell_of_row _ _ _ _ _ _ (hV.heap (by simp) g2)]; rfl, by rw [cell_of_row _ _ _ _ _ _ (hV.heap (by simp) g2)]; rfl⟩))
  have CT := Lib.hid (show cmpT x y = orI [cmpI x.a y.a, cmpI x.e.id y.e.id, cmpS x.e.ow y.e.ow] from rfl)
  have K2 := Lib.hid k2; have HW2 := Lib.hid hW2
  obtain ⟨b0, ⟨b1, b2, b3, b4, b5, b6, b7, b8⟩⟩ := x
  obtain ⟨d0, ⟨d1, d2, d3, d4, d5, d6, d7, d8⟩⟩ := y
  rw [CT.out]
  obtain ⟨n0, hn0⟩ : ∃ n0, cmpI b0 d0 = n0 := ⟨_, rfl⟩
  obtain ⟨n1, hn1⟩ : ∃ n1, cmpI b1 d1 = n1 := ⟨_, rfl⟩
  obtain ⟨n2, hn2⟩ : ∃ n2, cmpS b3 d3 = n2 := ⟨_, rfl⟩
  have C0 := Lib.hid (cmpI_any b0 d0); have C1 := Lib.hid (cmpI_any b1 d1); have C2 := Lib.hid (cmpS_any b3 d3)
  rw [hn0] at C0; rw [hn1] at C1; rw [hn2] at C2
  simp only [hn0, hn1, hn2]
  clear CT hz g1 g2 k2 hW2 hn0 hn1 hn2
  simp only [encIt, It.cs] at HW2 CX ⊢
  go_enter Tryz.func156, Tryz.ntmps156
  go_upto_region 1 with fail
  rw [← HW2.out]
  refine wp_region_held_drew (S := fun Z => Kept W2 Z []) (by kernel_rfl) (Kept.refl W2 []).drew (fun hHeld => ?_)
  refine wpAnyH_take (i := 0) (oi := _) (v := .pointer (some ⟨w.heap.size, 0, none⟩)) rfl (by kernel_rfl) (by kernel_rfl) (by kernel_rfl) (fun _ _ _ h => h) (Or.inl ⟨by rfl, fun V hV => by go_simp⟩) hHeld ?_
  change wpAnyH _ _ _ _ _ _ _ (Act.put _ (some 5) _) _
  simp only [Act.put, List.setIfInBounds_toArray, List.set_cons_zero, List.set_cons_succ]
  refine wpAnyH_take (i := 1) (oi := _) (v := .int .i64 b0) rfl (by kernel_rfl) (by kernel_rfl) (by kernel_rfl) (fun _ _ _ h => h) (Or.inl ⟨by rfl, fun V hV => by (obtain ⟨c0, c1, c2, c3, c4, c5⟩ := CX.out V hV; clear hV; go_simp)⟩) hHeld ?_
  change wpAnyH _ _ _ _ _ _ _ (Act.put _ (some 6) _) _
  simp only [Act.put, List.setIfInBounds_toArray, List.set_cons_zero, List.set_cons_succ]
  refine wpAnyH_take (i := 2) (oi := _) (v := .pointer (some ⟨w.heap.size + 1, 0, none⟩)) rfl (by kernel_rfl) (by kernel_rfl) (by kernel_rfl) (fun _ _ _ h => h) (Or.inl ⟨by rfl, fun V hV => by go_simp⟩) hHeld ?_
  change wpAnyH _ _ _ _ _ _ _ (Act.put _ (some 7) _) _
  simp only [Act.put, List.setIfInBounds_toArray, List.set_cons_zero, List.set_cons_succ]
  refine wpAnyH_take (i := 3) (oi := _) (v := .int .i64 d0) rfl (by kernel_rfl) (by kernel_rfl) (by kernel_rfl) (fun _ _ _ h => h) (Or.inl ⟨by rfl, fun V hV => by (obtain ⟨c0, c1, c2, c3, c4, c5⟩ := CX.out V hV; clear hV; go_simp)⟩) hHeld ?_
  change wpAnyH _ _ _ _ _ _ _ (Act.put _ (some 8) _) _
  simp only [Act.put, List.setIfInBounds_toArray, List.set_cons_zero, List.set_cons_succ]
  refine wpAnyH_take (i := 5) (oi := _) (v := .pointer (some ⟨w.heap.size, 1, none⟩)) rfl (by kernel_rfl) (by kernel_rfl) (by kernel_rfl) (fun _ _ _ h => h) (Or.inl ⟨by rfl, fun V hV => by go_simp⟩) hHeld ?_
  change wpAnyH _ _ _ _ _ _ _ (Act.put _ (some 10) _) _
  simp only [Act.put, List.setIfInBounds_toArray, List.set_cons_zero, List.set_cons_succ]
  refine wpAnyH_take (i := 6) (oi := _) (v := .pointer (some ⟨w.heap.size, 1, none⟩)) rfl (by kernel_rfl) (by kernel_rfl) (by kernel_rfl) (fun _ _ _ h => h) (Or.inl ⟨by rfl, fun V hV => by go_simp⟩) hHeld ?_
  change wpAnyH _ _ _ _ _ _ _ (Act.put _ (some 11) _) _
  simp only [Act.put, List.setIfInBounds_toArray, List.set_cons_zero, List.set_cons_succ]
  refine wpAnyH_take (i := 7) (oi := _) (v := .int .i64 b1) rfl (by kernel_rfl) (by kernel_rfl) (by kernel_rfl) (fun _ _ _ h => h) (Or.inl ⟨by rfl, fun V hV => by (obtain ⟨c0, c1, c2, c3, c4, c5⟩ := CX.out V hV; clear hV; go_simp)⟩) hHeld ?_
  change wpAnyH _ _ _ _ _ _ _ (Act.put _ (some 12) _) _
  simp only [Act.put, List.setIfInBounds_toArray, List.set_cons_zero, List.set_cons_succ]
  refine wpAnyH_take (i := 8) (oi := _) (v := .pointer (some ⟨w.heap.size + 1, 1, none⟩)) rfl (by kernel_rfl) (by kernel_rfl) (by kernel_rfl) (fun _ _ _ h => h) (Or.inl ⟨by rfl, fun V hV => by go_simp⟩) hHeld ?_
  change wpAnyH _ _ _ _ _ _ _ (Act.put _ (some 13) _) _
  simp only [Act.put, List.setIfInBounds_toArray, List.set_cons_zero, List.set_cons_succ]
  refine wpAnyH_take (i := 9) (oi := _) (v := .pointer (some ⟨w.heap.size + 1, 1, none⟩)) rfl (by kernel_rfl) (by kernel_rfl) (by kernel_rfl) (fun _ _ _ h => h) (Or.inl ⟨by rfl, fun V hV => by go_simp⟩) hHeld ?_
  change wpAnyH _ _ _ _ _ _ _ (Act.put _ (some 14) _) _
  simp only [Act.put, List.setIfInBounds_toArray, List.set_cons_zero, List.set_cons_succ]
  refine wpAnyH_take (i := 10) (oi := _) (v := .int .i64 d1) rfl (by kernel_rfl) (by kernel_rfl) (by kernel_rfl) (fun _ _ _ h => h) (Or.inl ⟨by rfl, fun V hV => by (obtain ⟨c0, c1, c2, c3, c4, c5⟩ := CX.out V hV; clear hV; go_simp)⟩) hHeld ?_
  change wpAnyH _ _ _ _ _ _ _ (Act.put _ (some 15) _) _
  simp only [Act.put, List.setIfInBounds_toArray, List.set_cons_zero, List.set_cons_succ]
  refine wpAnyH_take (i := 12) (oi := _) (v := .pointer (some ⟨w.heap.size, 1, none⟩)) rfl (by kernel_rfl) (by kernel_rfl) (by kernel_rfl) (fun _ _ _ h => h) (Or.inl ⟨by rfl, fun V hV => by go_simp⟩) hHeld ?_
  change wpAnyH _ _ _ _ _ _ _ (Act.put _ (some 17) _) _
  simp only [Act.put, List.setIfInBounds_toArray, List.set_cons_zero, List.set_cons_succ]
  refine wpAnyH_take (i := 13) (oi := _) (v := .pointer (some ⟨w.heap.size, 3, none⟩)) rfl (by kernel_rfl) (by kernel_rfl) (by kernel_rfl) (fun _ _ _ h => h) (Or.inl ⟨by rfl, fun V hV => by go_simp⟩) hHeld ?_
  change wpAnyH _ _ _ _ _ _ _ (Act.put _ (some 18) _) _
  simp only [Act.put, List.setIfInBounds_toArray, List.set_cons_zero, List.set_cons_succ]
  refine wpAnyH_take (i := 14) (oi := _) (v := .string b3) rfl (by kernel_rfl) (by kernel_rfl) (by kernel_rfl) (fun _ _ _ h => h) (Or.inl ⟨by rfl, fun V hV => by (obtain ⟨c0, c1, c2, c3, c4, c5⟩ := CX.out V hV; clear hV; go_simp)⟩) hHeld ?_
  change wpAnyH _ _ _ _ _ _ _ (Act.put _ (some 19) _) _
  simp only [Act.put, List.setIfInBounds_toArray, List.set_cons_zero, List.set_cons_succ]
  refine wpAnyH_take (i := 15) (oi := _) (v := .pointer (some ⟨w.heap.size + 1, 1, none⟩)) rfl (by kernel_rfl) (by kernel_rfl) (by kernel_rfl) (fun _ _ _ h => h) (Or.inl ⟨by rfl, fun V hV => by go_simp⟩) hHeld ?_
  change wpAnyH _ _ _ _ _ _ _ (Act.put _ (some 20) _) _
  simp only [Act.put, List.setIfInBounds_toArray, List.set_cons_zero, List.set_cons_succ]
  refine wpAnyH_take (i := 16) (oi := _) (v := .pointer (some ⟨w.heap.size + 1, 3, none⟩)) rfl (by kernel_rfl) (by kernel_rfl) (by kernel_rfl) (fun _ _ _ h => h) (Or.inl ⟨by rfl, fun V hV => by go_simp⟩) hHeld ?_
  change wpAnyH _ _ _ _ _ _ _ (Act.put _ (some 21) _) _
  simp only [Act.put, List.setIfInBounds_toArray, List.set_cons_zero, List.set_cons_succ]
  refine wpAnyH_take (i := 17) (oi := _) (v := .string d3) rfl (by kernel_rfl) (by kernel_rfl) (by kernel_rfl) (fun _ _ _ h => h) (Or.inl ⟨by rfl, fun V hV => by (obtain ⟨c0, c1, c2, c3, c4, c5⟩ := CX.out V hV; clear hV; go_simp)⟩) hHeld ?_
  change wpAnyH _ _ _ _ _ _ _ (Act.put _ (some 22) _) _
  simp only [Act.put, List.setIfInBounds_toArray, List.set_cons_zero, List.set_cons_succ]
  refine wpAnyH_ready (rs := [4]) (by kernel_rfl) (by simp) ?_
  refine AllReadyH.cons (o := _) rfl (fun K hK => ?_) AllReadyH.nil
  go_simp
  go_at_call 89
  refine (C0.out _).mono ?_
  rintro e wa ⟨rfl, rfl⟩
  go_wp2_with fail
  refine hK.out _ _ (Kept.refl W2 []).drew (fun hHeld => ?_)
  clear hK K
  refine wpAnyH_ready (rs := [11]) (by kernel_rfl) (by simp) ?_
  refine AllReadyH.cons (o := _) rfl (fun K hK => ?_) AllReadyH.nil
  go_simp
  go_at_call 89
  refine (C1.out _).mono ?_
  rintro e wa ⟨rfl, rfl⟩
  go_wp2_with fail
  refine hK.out _ _ (Kept.refl W2 []).drew (fun hHeld => ?_)
  clear hK K
  refine wpAnyH_ready (rs := [18]) (by kernel_rfl) (by simp) ?_
  refine AllReadyH.cons (o := _) rfl (fun K hK => ?_) AllReadyH.nil
  go_simp
  go_at_call 191
  refine (C2.out _).mono ?_
  rintro e wa ⟨rfl, rfl⟩
  go_wp2_with fail
  refine hK.out _ _ (Kept.refl W2 []).drew (fun hHeld => ?_)
  clear hK K
  obtain ⟨W3, hW3⟩ : ∃ W3, W3 = (W2.alloc (.cells #[.int .i64 n0, .int .i64 n1, .int .i64 n2] 3)).drew := ⟨_, rfl⟩
  have k3 : Kept W2 W3 [] := by rw [hW3]; exact ((Kept.refl W2 []).alloc _).drew
  have g3 : W3.heap[W2.heap.size]? = some (.cells #[.int .i64 n0, .int .i64 n1, .int .i64 n2] 3 (0, 0)) := by rw [hW3]; exact heap_alloc_new W2 _
  have OR := Lib.hid (fun c => or_any [n0, n1, n2] (by simp) c W2.heap.size W3 (fun k x hk => by rw [cell_of_row _ _ _ _ _ _ g3]; rcases k with _ | _ | _ | k <;> simp at hk ⊢ <;> exact hk))
  have HW3 := Lib.hid hW3; have K3 := Lib.hid k3
  clear hW3 k3 g3
  refine wpAnyH_ready (rs := [19]) (by kernel_rfl) (by simp) ?_
  refine AllReadyH.cons (o := _) rfl (fun K hK => ?_) AllReadyH.nil
  go_simp
  rw [← HW3.out]
  refine hK.out _ _ K3.out (fun hHeld => ?_)
  clear hK K
  refine wpAnyH_ready (rs := [20]) (by kernel_rfl) (by simp) ?_
  refine AllReadyH.cons (o := _) rfl (fun K hK => ?_) AllReadyH.nil
  go_simp
  go_at_call 190
  refine (OR.out _).mono ?_
  rintro e wa ⟨rfl, rfl⟩
  go_wp2_with fail
  refine hK.out _ _ K3.out (fun hHeld => ?_)
  clear hK K
  refine wpAnyH_take (i := 21) (oi := _) (v := .int .i64 (orI [n0, n1, n2])) rfl (by kernel_rfl) (by kernel_rfl) (by kernel_rfl) (fun _ _ _ h => h) (Or.inl ⟨by rfl, fun V hV => by go_simp⟩) hHeld ?_
  change wpAnyH _ _ _ _ _ _ _ (Act.put _ (some 4) _) _
  simp only [Act.put, List.setIfInBounds_toArray, List.set_cons_zero, List.set_cons_succ]
  refine wpAnyH_done (by kernel_rfl) ?_ _
  clear hHeld
  go_wp2
  go_ret
  exact ⟨rfl, K2.out.trans K3.out (by simp)⟩

set_option maxHeartbeats 2000000 in
theorem waitsP_any (x : It) (id : Int) (ow : ByteArray) (p q : Nat) (w : World) (h1 : w.cell? ⟨p, 0, none⟩ = some (.int .i64 id)) (h2 : w.cell? ⟨q, 0, none⟩ = some (.string ow)) :
    Calls Tryz.prog 189 #[.agg (encIt.cs x), .pointer (some ⟨p, 0, none⟩), .pointer (some ⟨q, 0, none⟩)] w fun e w' => e = .returned (.bool (isK id ow x)) ∧ Kept w w' [] := by
  have R := Lib.hid (show isK id ow x = (x.e.id == id && x.e.ow.toList == ow.toList) from rfl)
  rw [R.out]
  have hy1 : (w.alloc (.cells (encIt.cs x) 173)).cell? ⟨p, 0, none⟩ = some (.int .i64 id) := ((Kept.refl w []).alloc _).cell (by simp) h1
  have hy2 : (w.alloc (.cells (encIt.cs x) 173)).cell? ⟨q, 0, none⟩ = some (.string ow) := ((Kept.refl w []).alloc _).cell (by simp) h2
  clear R
  obtain ⟨b0, ⟨b1, b2, b3, b4, b5, b6, b7, b8⟩⟩ := x
  simp only [encIt, It.cs] at *
  by_cases h0 : b1 = id
  · subst h0
    go_enter Tryz.func189, Tryz.ntmps189
    go_wp2
    go_ret
    exact ⟨by simp, (Kept.refl w []).alloc _⟩
  · have hb : (b1 == id) = false := by simpa using h0
    rw [hb]
    go_enter Tryz.func189, Tryz.ntmps189
    go_wp2
    go_ret
    exact ⟨by simp, (Kept.refl w []).alloc _⟩
end Go.Proofs.YticiofkiffgclaaGreat
