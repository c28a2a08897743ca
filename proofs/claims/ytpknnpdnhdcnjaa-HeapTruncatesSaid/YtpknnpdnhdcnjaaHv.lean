/-
  All that a view sees goes: plain laws.
-/
import Derived.Test.YtpknnpdnhdcnjaaHt
namespace Go.Proofs.Ytpknnpdnhdcnjaa
open Go.RowKit

/-- A row of the first one. -/
def v0 : Vr := ⟨⟨#[]⟩, 1, 0⟩
/-- One row at each key. -/
def bF (ks : List Int) : Int → List Vr := fun k => if k ∈ ks then [v0] else []

theorem bF_put {ks : List Int} {k : Int} (h : k ∉ ks) : updF (bF ks) k (bF ks k ++ [v0]) = bF (insK k ks) := by
  funext q
  by_cases e : q = k
  · subst e
    simp [updF_same, bF, h, mem_insK]
  · rw [updF_other _ _ e]
    simp [bF, mem_insK, e]

theorem bF_length (ks : List Int) (k : Int) : (bF ks k).length ≤ 1 := by
  unfold bF
  split <;> simp

/-- Insert of the first one, at a key. -/
theorem first_ins (ks : List Int) (k : Int) : putK (insE [1] ⟨2, [1], 1⟩ (bF ks k)) k ks = (if k ∈ ks then ks else insK k ks) ∧ putF (insE [1] ⟨2, [1], 1⟩ (bF ks k)) k v0 (bF ks) = bF (if k ∈ ks then ks else insK k ks) := by
  by_cases h : k ∈ ks
  · have e : insE [1] ⟨2, [1], 1⟩ (bF ks k) = 5 := by rw [bF, if_pos h]; decide
    rw [e, if_pos h]
    exact ⟨rfl, rfl⟩
  · have e : insE [1] ⟨2, [1], 1⟩ (bF ks k) = 0 := by rw [bF, if_neg h]; decide
    rw [e, if_neg h]
    exact ⟨rfl, bF_put h⟩

theorem insK_last {k : Int} : ∀ {l : List Int}, (∀ y ∈ l, y < k) → insK k l = l ++ [k]
  | [], _ => rfl
  | a :: r, h => by
    have h1 := h a (by simp)
    have ih := insK_last (k := k) (l := r) (fun y hy => h y (by simp [hy]))
    rw [insK, if_neg (by omega), if_neg (by omega), ih]
    rfl

theorem scan_single {P : Vr → Bool} {F : Int → List Vr} {R : Int → Vr} : ∀ {ks : List Int}, (∀ k ∈ ks, F k = [R k]) → scanF P ks F = (ks.filter fun k => P (R k)).map fun k => (k, (R k).txt)
  | [], _ => rfl
  | a :: r, h => by
    have ih := scan_single (P := P) (F := F) (R := R) (ks := r) (fun k hk => h k (by simp [hk]))
    simp only [scanF, List.flatMap_cons] at ih ⊢
    rw [ih, h a (by simp), List.filter_cons, List.filter_cons]
    split <;> simp

theorem seen_single {P : Vr → Bool} {F : Int → List Vr} {R : Int → Vr} : ∀ {ks : List Int}, (∀ k ∈ ks, F k = [R k]) → seenAll P ks F = (ks.filter fun k => P (R k)).map fun k => (k, 0)
  | [], _ => rfl
  | a :: r, h => by
    have ih := seen_single (P := P) (F := F) (R := R) (ks := r) (fun k hk => h k (by simp [hk]))
    simp only [seenAll, List.flatMap_cons] at ih ⊢
    rw [ih, h a (by simp), List.filter_cons]
    cases hp : P (R a) <;> simp [seenTo, hp, List.range_succ]

section
variable (ks : List Int) (kx kw : Int) (hk : ∀ k ∈ ks, k < 60) (hx : 60 < kx ∧ kx < 150) (hw : 150 < kw)

/-- The rows behind both inserts. -/
def R3 (kx kw : Int) (k : Int) : Vr := if k = kw then ⟨⟨#[]⟩, 2, 0⟩ else if k = kx then ⟨⟨#[]⟩, 3, 0⟩ else v0
def F3 (ks : List Int) (kx kw : Int) : Int → List Vr := updF (updF (bF ks) kx [⟨⟨#[]⟩, 3, 0⟩]) kw [⟨⟨#[]⟩, 2, 0⟩]

theorem F3_le (k : Int) : (F3 ks kx kw k).length ≤ 900 := by
  by_cases e : k = kw
  · simp [F3, updF, e]
  · by_cases e2 : k = kx
    · subst e2; simp [F3, updF, e]
    · have := bF_length ks k
      simp only [F3, updF, e, e2, if_false]
      omega

include hk hx hw
theorem F3_at : ∀ k ∈ ks ++ [kx] ++ [kw], F3 ks kx kw k = [R3 kx kw k] := by
  intro k h
  simp only [List.append_assoc, List.cons_append, List.nil_append, List.mem_append, List.mem_cons, List.not_mem_nil, or_false] at h
  rcases h with h | rfl | rfl
  · have h1 := hk k h
    simp [F3, R3, updF, show ¬ k = kw by omega, show ¬ k = kx by omega, bF, h]
  · simp [F3, R3, updF, show ¬ k = kw by omega]
  · simp [F3, R3, updF]

theorem keys_P0 : (ks ++ [kx] ++ [kw]).filter (fun k => P0 (R3 kx kw k)) = ks ++ [kw] := by
  rw [List.filter_append, List.filter_append]
  have e1 : ks.filter (fun k => P0 (R3 kx kw k)) = ks := by
    rw [List.filter_eq_self]
    intro k h
    have h1 := hk k h
    simp [R3, show ¬ k = kw by omega, show ¬ k = kx by omega]
    decide
  have e2 : [kx].filter (fun k => P0 (R3 kx kw k)) = [] := by
    simp [R3, show ¬ kx = kw by omega]
    decide
  have e3 : [kw].filter (fun k => P0 (R3 kx kw k)) = [kw] := by
    simp [R3]
    decide
  rw [e1, e2, e3]
  simp

/-- What Scan and Truncate tell. -/
theorem rows3 : scanF P0 (ks ++ [kx] ++ [kw]) (F3 ks kx kw) = (ks ++ [kw]).map fun k => (k, ⟨#[]⟩) := by
  rw [scan_single (F3_at ks kx kw hk hx hw), keys_P0 ks kx kw hk hx hw]
  apply List.map_congr_left
  intro k _
  simp only [R3, v0]
  split
  · rfl
  · split <;> rfl

theorem seen3 : seenAll P0 (ks ++ [kx] ++ [kw]) (F3 ks kx kw) = (ks ++ [kw]).map fun k => (k, 0) := by
  rw [seen_single (F3_at ks kx kw hk hx hw), keys_P0 ks kx kw hk hx hw]

theorem tru3 : truE [2, 1, 1] ⟨3, [2], 2⟩ (ks ++ [kx] ++ [kw]) (F3 ks kx kw) = 0 := by
  have e1 : stAt [2, 1, 1] (2 : Int) = 1 := by decide
  rw [truE, if_pos e1, sees_P0 (by decide : stAt [2, 1, 1] 1 = 2), seen3 ks kx kw hk hx hw, if_neg]
  rw [Bool.not_eq_true, List.any_eq_false]
  intro q hq
  obtain ⟨k, hk2, rfl⟩ := List.mem_map.1 hq
  have hm : k ∈ ks ++ [kx] ++ [kw] := by
    rcases List.mem_append.1 hk2 with h | h
    · simp [h]
    · simp at h; simp [h]
  have hd : (R3 kx kw k).death = 0 := by
    simp only [R3, v0]
    split
    · rfl
    · split <;> rfl
  simp only [boundAt, F3_at ks kx kw hk hx hw k hm, List.getElem?_cons_zero, hd]
  decide

/-- What is left. -/
def R4 (kx kw : Int) (k : Int) : Vr := if k = kx then ⟨⟨#[]⟩, 3, 0⟩ else { R3 kx kw k with death := 2 }
theorem F4_at : ∀ k ∈ ks ++ [kx] ++ [kw], truF [2, 1, 1] ⟨3, [2], 2⟩ (ks ++ [kx] ++ [kw]) (F3 ks kx kw) k = [R4 kx kw k] := by
  intro k hm
  rw [truF, if_pos (tru3 ks kx kw hk hx hw), sees_P0 (by decide : stAt [2, 1, 1] 1 = 2), seen3 ks kx kw hk hx hw]
  apply List.ext_getElem?
  intro i
  rw [dieL_get, F3_at ks kx kw hk hx hw k hm]
  cases i with
  | succ i => simp
  | zero =>
    simp only [List.getElem?_cons_zero, Option.map_some, Option.some.injEq]
    have hmem : (k, 0) ∈ (ks ++ [kw]).map (fun k => ((k, 0) : Int × Nat)) ↔ k ≠ kx := by
      simp only [List.mem_map, Prod.mk.injEq, and_true, exists_eq_right, List.mem_append, List.mem_singleton]
      constructor
      · rintro (h | rfl)
        · have := hk k h; omega
        · omega
      · intro hne
        simp only [List.append_assoc, List.cons_append, List.nil_append, List.mem_append, List.mem_cons, List.not_mem_nil, or_false] at hm
        rcases hm with h | h | h
        · exact .inl h
        · exact absurd h hne
        · exact .inr h
    by_cases e : k = kx
    · rw [if_neg (fun h => (hmem.1 h) e)]
      subst e
      simp [R4, R3, show ¬ k = kw by omega]
    · rw [if_pos (hmem.2 e)]
      simp [R4, e]

theorem rows4 : scanR (sees [2, 2, 2] ⟨4, [], 0⟩) (ks ++ [kx] ++ [kw]) (truF [2, 1, 1] ⟨3, [2], 2⟩ (ks ++ [kx] ++ [kw]) (F3 ks kx kw)) = [(kx, ⟨#[]⟩)] := by
  rw [scanR_eq, scan_single (F4_at ks kx kw hk hx hw)]
  have e : (ks ++ [kx] ++ [kw]).filter (fun k => sees [2, 2, 2] ⟨4, [], 0⟩ (R4 kx kw k)) = [kx] := by
    rw [List.filter_append, List.filter_append]
    have e1 : ks.filter (fun k => sees [2, 2, 2] ⟨4, [], 0⟩ (R4 kx kw k)) = [] := by
      rw [List.filter_eq_nil_iff]
      intro k h
      have h1 := hk k h
      simp only [R4, R3, if_neg (show ¬ k = kw by omega), if_neg (show ¬ k = kx by omega)]
      decide
    have e2 : [kx].filter (fun k => sees [2, 2, 2] ⟨4, [], 0⟩ (R4 kx kw k)) = [kx] := by
      simp only [List.filter_cons, R4, if_pos]
      rfl
    have e3 : [kw].filter (fun k => sees [2, 2, 2] ⟨4, [], 0⟩ (R4 kx kw k)) = [] := by
      simp only [List.filter_cons, R4, R3, if_neg (show ¬ kw = kx by omega), if_pos]
      rfl
    rw [e1, e2, e3]
    rfl
  rw [e]
  simp [R4]
end

end Go.Proofs.Ytpknnpdnhdcnjaa
