/-
  A heap as one list, and by keys: all rows that are seen; all of them dead; how many; those that are let go.
-/
import Derived.Test.YtdjhcdgehmpikaaRc
namespace Go.Proofs.Ytdjhcdgehmpikaa

/-- A row among rows by their keys, behind those with its own key. -/
def insR (x : Int × ByteArray) : List (Int × ByteArray) → List (Int × ByteArray)
  | [] => [x]
  | a :: r => if x.1 < a.1 then x :: a :: r else a :: insR x r

theorem insR_le (x : Int × ByteArray) (C : List (Int × ByteArray)) : ∀ A : List (Int × ByteArray), (∀ y ∈ A, y.1 ≤ x.1) → insR x (A ++ C) = A ++ insR x C
  | [], _ => rfl
  | a :: A, h => by
    have h1 := h a (by simp)
    rw [List.cons_append, insR, if_neg (by omega), insR_le x C A (fun y hy => h y (by simp [hy])), List.cons_append]
theorem insR_gt (x : Int × ByteArray) : ∀ C : List (Int × ByteArray), (∀ y ∈ C, x.1 < y.1) → insR x C = x :: C
  | [], _ => rfl
  | a :: C, h => by rw [insR, if_pos (h a (by simp))]

/-- All rows that are seen, of the one list. -/
def flScan (P : Vr → Bool) (l : Fl) : List (Int × ByteArray) := l.foldl (fun out y => if P y.2 then insR (y.1, y.2.txt) out else out) []

/-- .. by keys. -/
def scP (P : Vr → Bool) (ks : List Int) (l : Fl) : List (Int × ByteArray) := ks.flatMap fun k => ((pick k l).filter P).map fun r => (k, r.txt)

theorem scP_eq {P : Vr → Bool} {ks : List Int} {l : Fl} {F : Int → List Vr} (h : Rl l F) : scP P ks l = scanF P ks F := by
  unfold scP scanF
  simp only [h _]

theorem scP_key {P : Vr → Bool} {ks : List Int} {l : Fl} {y : Int × ByteArray} (h : y ∈ scP P ks l) : y.1 ∈ ks := by
  simp only [scP, List.mem_flatMap, List.mem_map] at h
  obtain ⟨k, hk, r, _, rfl⟩ := h
  exact hk

theorem scP_out (P : Vr → Bool) (l : Fl) (k : Int) (r : Vr) : ∀ ks : List Int, k ∉ ks → scP P ks (l ++ [(k, r)]) = scP P ks l
  | [], _ => rfl
  | a :: ks, h => by
    have h1 : k ≠ a := fun e => h (by simp [e])
    have ih := scP_out P l k r ks (fun e => h (by simp [e]))
    unfold scP at ih ⊢
    rw [List.flatMap_cons, List.flatMap_cons, ih, pick_append, pick_other r [] h1, pick_nil, List.append_nil]

theorem scP_miss {P : Vr → Bool} (l : Fl) (k : Int) (r : Vr) (hp : P r = false) (ks : List Int) : scP P ks (l ++ [(k, r)]) = scP P ks l := by
  unfold scP
  congr 1
  funext q
  rw [pick_append]
  by_cases e : k = q
  · subst e
    rw [pick_same, pick_nil, List.filter_append, List.filter_cons_of_neg (by simp [hp]), List.filter_nil, List.append_nil]
  · rw [pick_other r [] e, pick_nil, List.append_nil]

theorem scP_hit {P : Vr → Bool} (l : Fl) (k : Int) (r : Vr) (hp : P r = true) : ∀ ks : List Int, ks.Pairwise (· < ·) → k ∈ ks → scP P ks (l ++ [(k, r)]) = insR (k, r.txt) (scP P ks l)
  | [], _, h => by simp at h
  | a :: ks, hs, h => by
    rw [List.pairwise_cons] at hs
    have hG : ∀ y ∈ ((pick a l).filter P).map (fun r => (a, r.txt)), y.1 = a := by
      intro y hy
      obtain ⟨_, _, rfl⟩ := List.mem_map.1 hy
      rfl
    have hc : ∀ m, scP P (a :: ks) m = (((pick a m).filter P).map fun r => (a, r.txt)) ++ scP P ks m := fun m => by simp [scP]
    rw [hc, hc]
    by_cases e : k = a
    · subst e
      have hn : k ∉ ks := fun hm => by have := hs.1 k hm; omega
      rw [scP_out P l k r ks hn, insR_le _ _ _ (fun y hy => by rw [hG y hy]; exact Int.le_refl _), insR_gt _ _ (fun y hy => hs.1 _ (scP_key hy)), pick_append, pick_same, pick_nil, List.filter_append, List.filter_cons_of_pos hp, List.filter_nil, List.map_append, List.append_assoc]
      rfl
    · have hm : k ∈ ks := by simpa [e] using h
      have ha := hs.1 k hm
      rw [scP_hit l k r hp ks hs.2 hm, insR_le _ _ _ (fun y hy => by rw [hG y hy]; simp only; omega), pick_append, pick_other r [] e, pick_nil, List.append_nil]

theorem flScan_sc (P : Vr → Bool) (ks : List Int) (hs : ks.Pairwise (· < ·)) : ∀ (l l0 : Fl), (∀ x ∈ l, x.1 ∈ ks) → l.foldl (fun out y => if P y.2 then insR (y.1, y.2.txt) out else out) (scP P ks l0) = scP P ks (l0 ++ l)
  | [], l0, _ => by simp
  | (k, r) :: l, l0, h => by
    have e : (if P r = true then insR (k, r.txt) (scP P ks l0) else scP P ks l0) = scP P ks (l0 ++ [(k, r)]) := by
      by_cases hp : P r = true
      · rw [if_pos hp, scP_hit l0 k r hp ks hs (h (k, r) (by simp))]
      · rw [if_neg hp, scP_miss l0 k r (by simpa using hp)]
    rw [List.foldl_cons]
    simp only [e]
    rw [flScan_sc P ks hs l (l0 ++ [(k, r)]) (fun x hx => h x (by simp [hx])), List.append_assoc, List.singleton_append]

theorem flScan_eq {P : Vr → Bool} {ks : List Int} {l : Fl} {F : Int → List Vr} (h : Rl l F) (hs : ks.Pairwise (· < ·)) (hk : ∀ x ∈ l, x.1 ∈ ks) : flScan P l = scanR P ks F := by
  have h0 : scP P ks [] = [] := by simp [scP, pick_nil]
  rw [scanR_eq, ← scP_eq h, ← List.nil_append l, ← flScan_sc P ks hs l [] hk, h0]
  rfl

/-- How many. -/
theorem sum_out (k : Int) (r : Vr) (l : Fl) : ∀ ks : List Int, k ∉ ks → (ks.map fun q => (pick q ((k, r) :: l)).length).sum = (ks.map fun q => (pick q l).length).sum
  | [], _ => rfl
  | a :: ks, h => by
    have h1 : k ≠ a := fun e => h (by simp [e])
    rw [List.map_cons, List.map_cons, List.sum_cons, List.sum_cons, sum_out k r l ks (fun e => h (by simp [e])), pick_other r l h1]
theorem sum_in (k : Int) (r : Vr) (l : Fl) : ∀ ks : List Int, ks.Pairwise (· < ·) → k ∈ ks → (ks.map fun q => (pick q ((k, r) :: l)).length).sum = (ks.map fun q => (pick q l).length).sum + 1
  | [], _, h => by simp at h
  | a :: ks, hs, h => by
    rw [List.pairwise_cons] at hs
    rw [List.map_cons, List.map_cons, List.sum_cons, List.sum_cons]
    by_cases e : k = a
    · subst e
      rw [sum_out k r l ks (fun hm => by have := hs.1 k hm; omega), pick_same, List.length_cons]
      omega
    · rw [sum_in k r l ks hs.2 (by simpa [e] using h), pick_other r l e]
      omega
theorem sum_pick (ks : List Int) (hs : ks.Pairwise (· < ·)) : ∀ l : Fl, (∀ x ∈ l, x.1 ∈ ks) → (ks.map fun q => (pick q l).length).sum = l.length
  | [], _ => by
    have : (fun q => (pick q []).length) = fun _ => 0 := by funext q; rfl
    rw [this]
    induction ks with
    | nil => rfl
    | cons a ks ih => rw [List.map_cons, List.sum_cons, ih (List.pairwise_cons.1 hs).2 (by simp)]; rfl
  | (k, r) :: l, h => by
    rw [sum_in k r l ks hs (h (k, r) (by simp)), sum_pick ks hs l (fun x hx => h x (by simp [hx]))]
    rfl
theorem len_eq {ks : List Int} {l : Fl} {F : Int → List Vr} (h : Rl l F) (hs : ks.Pairwise (· < ·)) (hk : ∀ x ∈ l, x.1 ∈ ks) : (ks.map fun q => (F q).length).sum = l.length := by
  rw [← sum_pick ks hs l hk]
  simp only [h _]

/-- Those that stay. -/
theorem Rl.filter {l : Fl} {F : Int → List Vr} (h : Rl l F) (P : Vr → Bool) : Rl (l.filter fun x => P x.2) (fun k => (F k).filter P) := fun k => by
  rw [pick_filter]
  simp only [h k]

theorem Rl.map {l : Fl} {F : Int → List Vr} (h : Rl l F) (f : Vr → Vr) : Rl (l.map fun x => (x.1, f x.2)) (fun k => (F k).map f) := fun k => by
  rw [pick_map]
  simp only [h k]
end Go.Proofs.Ytdjhcdgehmpikaa
