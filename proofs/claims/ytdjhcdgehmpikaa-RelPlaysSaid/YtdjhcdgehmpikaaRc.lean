/-
  A heap as one list of versions in the order of their births ('Fl'), and as lists by keys: plain laws.
-/
import Derived.Test.YtdjhcdgehmpikaaRb
namespace Go.Proofs.Ytdjhcdgehmpikaa

/-- Versions with their keys. -/
abbrev Fl := List (Int × Vr)

def pick (k : Int) (l : Fl) : List Vr := (l.filter fun x => x.1 == k).map (·.2)

/-- The same versions, by keys. -/
def Rl (l : Fl) (F : Int → List Vr) : Prop := ∀ k, F k = pick k l

theorem pick_nil (k : Int) : pick k [] = [] := rfl
theorem pick_same (k : Int) (r : Vr) (l : Fl) : pick k ((k, r) :: l) = r :: pick k l := by simp [pick]
theorem pick_other {k q : Int} (r : Vr) (l : Fl) (h : q ≠ k) : pick k ((q, r) :: l) = pick k l := by simp [pick, h]
theorem pick_append (k : Int) (l m : Fl) : pick k (l ++ m) = pick k l ++ pick k m := by simp [pick]
theorem pick_filter (k : Int) (P : Vr → Bool) : ∀ l : Fl, pick k (l.filter fun x => P x.2) = (pick k l).filter P
  | [] => rfl
  | (q, r) :: l => by
    have ih := pick_filter k P l
    by_cases e : q = k
    · subst e
      rw [pick_same]
      by_cases hp : P r = true
      · rw [List.filter_cons_of_pos (by simpa using hp), List.filter_cons_of_pos hp, pick_same, ih]
      · rw [List.filter_cons_of_neg (by simpa using hp), List.filter_cons_of_neg hp, ih]
    · rw [pick_other r l e]
      by_cases hp : P r = true
      · rw [List.filter_cons_of_pos (by simpa using hp), pick_other r _ e, ih]
      · rw [List.filter_cons_of_neg (by simpa using hp), ih]
theorem pick_map (k : Int) (f : Vr → Vr) : ∀ l : Fl, pick k (l.map fun x => (x.1, f x.2)) = (pick k l).map f
  | [] => rfl
  | (q, r) :: l => by
    have ih := pick_map k f l
    by_cases e : q = k
    · subst e
      rw [List.map_cons, pick_same, pick_same, List.map_cons, ih]
    · rw [List.map_cons, pick_other _ _ e, pick_other _ _ e, ih]
theorem mem_pick {k : Int} {l : Fl} {r : Vr} : r ∈ pick k l ↔ (k, r) ∈ l := by
  simp only [pick, List.mem_map, List.mem_filter, beq_iff_eq]
  constructor
  · rintro ⟨⟨q, s⟩, ⟨h1, h2⟩, h3⟩
    simp only at h2 h3
    subst h2; subst h3; exact h1
  · intro h
    exact ⟨(k, r), ⟨h, rfl⟩, rfl⟩
theorem pick_le (k : Int) (l : Fl) : (pick k l).length ≤ l.length := by
  simp only [pick, List.length_map]
  exact List.length_filter_le _ _

theorem Rl.nil : Rl [] (fun _ => []) := fun _ => rfl
theorem Rl.snoc {l : Fl} {F : Int → List Vr} (h : Rl l F) (k : Int) (r : Vr) : Rl (l ++ [(k, r)]) (updF F k (F k ++ [r])) := by
  intro q
  rw [pick_append]
  by_cases e : q = k
  · subst e
    rw [updF_same, h q, pick_same, pick_nil]
  · rw [updF_other _ _ e, pick_other r [] (fun x => e x.symm), pick_nil, List.append_nil, h q]

/-- The first with a key that is wanted. -/
def flFind (P : Vr → Bool) (k : Int) (l : Fl) : Option Nat := l.findIdx? fun x => x.1 == k && P x.2
/-- It dies. -/
def flDie (l : Fl) (i : Nat) (x : Int) : Fl := l.modify i fun y => (y.1, { y.2 with death := x })

theorem find_none {P : Vr → Bool} {k : Int} : ∀ {l : Fl}, flFind P k l = none → (pick k l).findIdx? P = none
  | [], _ => rfl
  | (q, r) :: l, h => by
    simp only [flFind, List.findIdx?_cons] at h
    by_cases e : q = k
    · subst e
      by_cases hp : P r = true
      · simp [hp] at h
      · simp only [BEq.rfl, hp, Bool.and_false] at h
        have ih := find_none (P := P) (k := q) (l := l) (by simpa [flFind] using h)
        rw [pick_same, List.findIdx?_cons, ih]
        simp [hp]
    · have eb : (q == k) = false := by simpa using e
      rw [eb] at h
      rw [pick_other r l e]
      exact find_none (by simpa [flFind] using h)

theorem find_some {P : Vr → Bool} {k : Int} : ∀ {l : Fl} {i : Nat}, flFind P k l = some i →
    ∃ j r, l[i]? = some (k, r) ∧ (pick k l).findIdx? P = some j ∧ (pick k l)[j]? = some r ∧ P r = true ∧ (∀ x, pick k (flDie l i x) = dieAt (pick k l) j x) ∧ ∀ x q, q ≠ k → pick q (flDie l i x) = pick q l
  | [], i, h => by simp [flFind] at h
  | (q, r) :: l, i, h => by
    simp only [flFind, List.findIdx?_cons] at h
    by_cases e : q = k
    · subst e
      by_cases hp : P r = true
      · simp only [BEq.rfl, hp, Bool.and_self, if_true, Option.some.injEq] at h
        subst h
        refine ⟨0, r, rfl, ?_, ?_, hp, fun x => ?_, fun x z hz => ?_⟩
        · rw [pick_same, List.findIdx?_cons]; simp [hp]
        · rw [pick_same]; rfl
        · simp only [flDie, List.modify_zero_cons, dieAt, pick_same]
        · simp only [flDie, List.modify_zero_cons]
          rw [pick_other _ _ (fun a => hz a.symm), pick_other _ _ (fun a => hz a.symm)]
      · simp only [BEq.rfl, hp, Bool.and_false] at h
        obtain ⟨i', hi, rfl⟩ : ∃ i', flFind P q l = some i' ∧ i' + 1 = i := by simpa [flFind] using h
        obtain ⟨j, s, h1, h2, h3, h4, h5, h6⟩ := find_some hi
        refine ⟨j + 1, s, by simpa using h1, ?_, ?_, h4, fun x => ?_, fun x z hz => ?_⟩
        · rw [pick_same, List.findIdx?_cons, h2]; simp [hp]
        · rw [pick_same]; simpa using h3
        · have := h5 x
          simp only [flDie, dieAt] at this
          simp only [flDie, List.modify_succ_cons, dieAt, pick_same, this]
        · have := h6 x z hz
          simp only [flDie] at this
          simp only [flDie, List.modify_succ_cons]
          rw [pick_other _ _ (fun a => hz a.symm), pick_other _ _ (fun a => hz a.symm), this]
    · have eb : (q == k) = false := by simpa using e
      rw [eb] at h
      obtain ⟨i', hi, rfl⟩ : ∃ i', flFind P k l = some i' ∧ i' + 1 = i := by simpa [flFind] using h
      obtain ⟨j, s, h1, h2, h3, h4, h5, h6⟩ := find_some hi
      refine ⟨j, s, by simpa using h1, by rw [pick_other r l e]; exact h2, by rw [pick_other r l e]; exact h3, h4, fun x => ?_, fun x z hz => ?_⟩
      · have := h5 x
        simp only [flDie] at this
        simp only [flDie, List.modify_succ_cons]
        rw [pick_other _ _ e, pick_other _ _ e, this]
      · have := h6 x z hz
        simp only [flDie] at this
        simp only [flDie, List.modify_succ_cons]
        by_cases e2 : q = z
        · subst e2; rw [pick_same, pick_same, this]
        · rw [pick_other _ _ e2, pick_other _ _ e2, this]

/-- Delete, of the one list. -/
def flDel (st : List Nat) (V : Vw) (k : Int) (l : Fl) : Int × Fl :=
  if stAt st V.own = 1 then match flFind (sees st V) k l with
    | none => (4, l)
    | some i => match l[i]? with
      | none => (4, l)
      | some y => if binds st V y.2.death then (6, l) else (0, flDie l i V.own)
  else (7, l)

theorem updF_id {α : Type} (F : Int → α) (k : Int) : updF F k (F k) = F := by
  funext q
  by_cases e : q = k
  · subst e; exact updF_same _ _ _
  · exact updF_other _ _ e

theorem flDel_rl {l : Fl} {F : Int → List Vr} (h : Rl l F) (st : List Nat) (V : Vw) (k : Int) :
    (flDel st V k l).1 = (delL st V (F k)).1 ∧ Rl (flDel st V k l).2 (updF F k (delL st V (F k)).2) := by
  unfold flDel delL
  by_cases ho : stAt st V.own = 1
  · simp only [ho, if_true]
    cases hf : flFind (sees st V) k l with
    | none =>
      have := find_none hf
      rw [← h k] at this
      simp only [this]
      exact ⟨trivial, by rw [updF_id]; exact h⟩
    | some i =>
      obtain ⟨j, r, h1, h2, h3, h4, h5, h6⟩ := find_some hf
      rw [← h k] at h2 h3
      simp only [h1, h2, h3]
      by_cases hb : binds st V r.death = true
      · simp only [hb, if_true]
        exact ⟨trivial, by rw [updF_id]; exact h⟩
      · simp only [hb, Bool.false_eq_true, if_false]
        refine ⟨trivial, fun q => ?_⟩
        by_cases e : q = k
        · subst e
          rw [updF_same, h5, h q]
        · rw [updF_other _ _ e, h6 _ _ e, h q]
  · simp only [ho, if_false]
    exact ⟨trivial, by rw [updF_id]; exact h⟩

/-- Is one in the way, as the document says it? -/
def wayR (st : List Nat) (V : Vw) (r : Vr) : Bool := binds st V r.birth && !(decide (0 < r.death) && (decide (r.death = V.own) || stAt st r.death == 2))

theorem wayR_eq {st : List Nat} {V : Vw} (ho : stAt st V.own = 1) (r : Vr) : wayR st V r = inWay st V r := by
  have h1 : 1 ≤ V.own := (stAt_in (by rw [ho]; decide : stAt st V.own ≠ 0)).1
  have h2 : stAt st r.death = 2 → 0 < r.death := fun e => by
    have := (stAt_in (by rw [e]; decide : stAt st r.death ≠ 0)).1
    omega
  rw [Bool.eq_iff_iff]
  simp only [wayR, inWay, Bool.and_eq_true, Bool.not_eq_true', Bool.and_eq_false_iff, Bool.or_eq_false_iff, decide_eq_true_eq, decide_eq_false_iff_not, beq_eq_false_iff_ne, ne_eq]
  constructor
  · rintro ⟨a, c | c⟩
    · exact ⟨⟨a, by omega⟩, fun e => c (h2 e)⟩
    · exact ⟨⟨a, c.1⟩, c.2⟩
  · rintro ⟨⟨a, c⟩, d⟩
    exact ⟨a, .inr ⟨c, d⟩⟩

/-- Insert's error, of the one list. -/
def flInsE (st : List Nat) (V : Vw) (k : Int) (l : Fl) : Int :=
  if stAt st V.own = 1 then (if (flFind (sees st V) k l).isSome then 5 else if (flFind (wayR st V) k l).isSome then 6 else 0) else 7

theorem find_isSome {l : Fl} {F : Int → List Vr} (h : Rl l F) (P : Vr → Bool) (k : Int) : (flFind P k l).isSome = ((F k).findIdx? P).isSome := by
  cases hf : flFind P k l with
  | none => rw [h k, find_none hf]
  | some i =>
    obtain ⟨j, r, _, h2, _⟩ := find_some hf
    rw [h k, h2]; rfl

theorem flInsE_eq {l : Fl} {F : Int → List Vr} (h : Rl l F) (st : List Nat) (V : Vw) (k : Int) : flInsE st V k l = insE st V (F k) := by
  unfold flInsE insE
  by_cases ho : stAt st V.own = 1
  · simp only [ho, if_true]
    rw [find_isSome h, find_isSome h, show wayR st V = inWay st V from funext (wayR_eq ho)]
  · simp only [ho, if_false]

/-- A new version behind the others, if there was no error. -/
def flPut (e : Int) (k : Int) (r : Vr) (l : Fl) : Fl := if e = 0 then l ++ [(k, r)] else l

theorem flPut_rl {l : Fl} {F : Int → List Vr} (h : Rl l F) (e k : Int) (r : Vr) : Rl (flPut e k r l) (putF e k r F) := by
  unfold flPut putF
  by_cases e0 : e = 0
  · simp only [e0, if_true]; exact h.snoc k r
  · simp only [e0, if_false]; exact h
end Go.Proofs.Ytdjhcdgehmpikaa
