/-
  Gkc, Gke, Ev0 in one text.
-/
import Derived.Test.YticiofkiffgclaaGreatNr3
import Derived.Test.YticiofkiffgclaaGreatNr4
import Derived.Test.YticiofkiffgclaaGreatNr0
namespace Go.Proofs.YticiofkiffgclaaGreat
set_option linter.unusedVariables false

variable {α : Type} {lt : α → α → Bool}

structure Ord (lt : α → α → Bool) : Prop where
  irr : ∀ a, lt a a = false
  tr : ∀ a b c, lt a b = true → lt b c = true → lt a c = true

theorem Ord.asymm (o : Ord lt) {a b : α} (h : lt a b = true) : lt b a = false := by
  cases k : lt b a with
  | false => rfl
  | true => have := o.tr a b a h k; rw [o.irr] at this; cases this

def Rise (lt : α → α → Bool) (l : List α) : Prop := l.Pairwise fun a b => lt a b = true

def insG (lt : α → α → Bool) (x : α) : List α → List α
  | [] => [x]
  | y :: t => if lt x y = true then x :: y :: t else y :: insG lt x t
theorem insG_length (x : α) (l : List α) : (insG lt x l).length = l.length + 1 := by
  induction l with
  | nil => rfl
  | cons y t ih =>
    rw [insG]
    split
    · rfl
    · rw [List.length_cons, ih, List.length_cons]
theorem insG_mem (x y : α) (l : List α) : y ∈ insG lt x l ↔ y = x ∨ y ∈ l := by
  induction l with
  | nil => simp [insG]
  | cons z t ih =>
    rw [insG]
    split
    · simp
    · rw [List.mem_cons, ih, List.mem_cons]
      constructor
      · rintro (h | h | h)
        · exact .inr (.inl h)
        · exact .inl h
        · exact .inr (.inr h)
      · rintro (h | h | h)
        · exact .inr (.inl h)
        · exact .inl h
        · exact .inr (.inr h)
theorem insG_pairwise {R : α → α → Prop} {x : α} {l : List α} (h : l.Pairwise R) (h1 : ∀ y ∈ l, R x y ∧ R y x) : (insG lt x l).Pairwise R := by
  induction l with
  | nil => exact List.pairwise_singleton _ _
  | cons y t ih =>
    obtain ⟨hy, ht⟩ := List.pairwise_cons.1 h
    rw [insG]
    split
    · exact List.pairwise_cons.2 ⟨fun z hz => (h1 z hz).1, h⟩
    · refine List.pairwise_cons.2 ⟨fun z hz => ?_, ih ht (fun z hz => h1 z (by simp [hz]))⟩
      rcases (insG_mem x z t).1 hz with rfl | hz
      · exact (h1 y (by simp)).2
      · exact hy z hz
theorem insG_rise (o : Ord lt) {x : α} {l : List α} (h : Rise lt l) (hx : ∀ y ∈ l, lt x y = false → lt y x = true) : Rise lt (insG lt x l) := by
  induction l with
  | nil => exact List.pairwise_singleton _ _
  | cons y t ih =>
    obtain ⟨hy, ht⟩ := List.pairwise_cons.1 h
    rw [insG]
    split
    · rename_i c
      exact List.pairwise_cons.2 ⟨fun z hz => by
        rcases List.mem_cons.1 hz with rfl | hz
        · exact c
        · exact o.tr _ _ _ c (hy z hz), h⟩
    · rename_i c
      refine List.pairwise_cons.2 ⟨fun z hz => ?_, ih ht (fun z hz => hx z (by simp [hz]))⟩
      rcases (insG_mem x z t).1 hz with rfl | hz
      · exact hx y (by simp) (by simpa using c)
      · exact hy z hz
theorem insG_at (o : Ord lt) {x : α} {l : List α} (h : Rise lt l) {q : Nat} (hq : q ≤ l.length) (h1 : ∀ j y, q ≤ j → l[j]? = some y → lt x y = true) (h2 : ∀ y, 0 < q → l[q - 1]? = some y → lt x y = false) : l.take q ++ x :: l.drop q = insG lt x l := by
  induction l generalizing q with
  | nil => simp at hq; subst hq; rfl
  | cons y t ih =>
    obtain ⟨hy, ht⟩ := List.pairwise_cons.1 h
    cases q with
    | zero =>
      have := h1 0 y (Nat.le_refl _) rfl
      rw [insG, if_pos this]; rfl
    | succ q =>
      have hyx : lt x y = false := by
        cases q with
        | zero => exact h2 y (by omega) rfl
        | succ q =>
          cases k : lt x y with
          | false => rfl
          | true =>
            have hql : q < t.length := by simp at hq; omega
            have e1 : (y :: t)[q + 1 + 1 - 1]? = some t[q] := by rw [show q + 1 + 1 - 1 = q + 1 by omega, List.getElem?_cons_succ, List.getElem?_eq_getElem hql]
            have := h2 t[q] (by omega) e1
            have h3 := o.tr _ _ _ k (hy t[q] (List.getElem_mem hql))
            rw [this] at h3
            cases h3
      rw [insG, if_neg (by rw [hyx]; decide), List.take_succ_cons, List.drop_succ_cons, List.cons_append]
      congr 1
      refine ih ht (by simpa using hq) (fun j z hj hz => h1 (j + 1) z (by omega) (by simpa using hz)) (fun z hz0 hz => h2 z (by omega) ?_)
      cases q with
      | zero => omega
      | succ q => simpa using hz

def Cutp (p : α → Bool) (l : List α) : Prop := l.Pairwise fun a b => p b = true → p a = true
theorem cut_spec {p : α → Bool} : ∀ {l : List α}, Cutp p l → (∀ j y, j < l.countP p → l[j]? = some y → p y = true) ∧ (∀ j y, l.countP p ≤ j → l[j]? = some y → p y = false)
  | [], _ => ⟨fun j y _ hy => by simp at hy, fun j y _ hy => by simp at hy⟩
  | x :: t, h => by
    obtain ⟨hx, ht⟩ := List.pairwise_cons.1 h
    obtain ⟨i1, i2⟩ := cut_spec ht
    cases hc : p x with
    | true =>
      rw [List.countP_cons_of_pos hc]
      refine ⟨fun j y hj hy => ?_, fun j y hj hy => ?_⟩
      · cases j with
        | zero => simp at hy; subst hy; exact hc
        | succ j => exact i1 j y (by omega) (by simpa using hy)
      · cases j with
        | zero => omega
        | succ j => exact i2 j y (by omega) (by simpa using hy)
    | false =>
      have hn : ∀ y ∈ t, p y = false := fun y hy => by
        cases hk : p y with
        | false => rfl
        | true => have := hx y hy hk; rw [hc] at this; cases this
      have e : (x :: t).countP p = 0 := by
        rw [List.countP_eq_zero]
        intro y hy
        rcases List.mem_cons.1 hy with rfl | hy
        · rw [hc]; decide
        · rw [hn y hy]; decide
      rw [e]
      refine ⟨fun j y hj _ => by omega, fun j y _ hy => ?_⟩
      rcases List.mem_cons.1 (List.mem_of_getElem? hy) with rfl | hy
      · exact hc
      · exact hn y hy
theorem cut_take {p : α → Bool} {l : List α} (h : Cutp p l) : l.take (l.countP p) = l.filter p ∧ l.drop (l.countP p) = l.filter fun x => !p x := by
  induction l with
  | nil => exact ⟨rfl, rfl⟩
  | cons x t ih =>
    obtain ⟨hx, ht⟩ := List.pairwise_cons.1 h
    obtain ⟨i1, i2⟩ := ih ht
    cases hc : p x with
    | true =>
      rw [List.countP_cons_of_pos hc, List.take_succ_cons, List.drop_succ_cons, i1, i2, List.filter_cons_of_pos hc, List.filter_cons_of_neg (by rw [hc]; decide)]
      exact ⟨rfl, rfl⟩
    | false =>
      have hn : ∀ y ∈ t, p y = false := fun y hy => by
        cases hk : p y with
        | false => rfl
        | true => have := hx y hy hk; rw [hc] at this; cases this
      have e : (x :: t).countP p = 0 := by
        rw [List.countP_eq_zero]
        intro y hy
        rcases List.mem_cons.1 hy with rfl | hy
        · rw [hc]; decide
        · rw [hn y hy]; decide
      rw [e, List.take_zero, List.drop_zero]
      refine ⟨?_, ?_⟩
      · symm
        rw [List.filter_eq_nil_iff]
        intro y hy
        rcases List.mem_cons.1 hy with rfl | hy
        · rw [hc]; decide
        · rw [hn y hy]; decide
      · symm
        rw [List.filter_eq_self]
        intro y hy
        rcases List.mem_cons.1 hy with rfl | hy
        · rw [hc]; rfl
        · rw [hn y hy]; rfl
end Go.Proofs.YticiofkiffgclaaGreat

namespace Go.Proofs.YticiofkiffgclaaGreat
set_option linter.unusedVariables false
open Go.RowKit

variable {α : Type} {E : Enc α}

def gidx (P : α → Bool) (l : List α) : Int := match l.findIdx? P with | some i => i | none => -1
theorem gidx_hit {P : α → Bool} {l : List α} {k : Nat} {r : α} (hr : l[k]? = some r) (hp : P r = true) (hb : ∀ j s, j < k → l[j]? = some s → P s = false) : l.findIdx? P = some k := by
  obtain ⟨hk, e⟩ := List.getElem?_eq_some_iff.1 hr
  rw [List.findIdx?_eq_some_iff_getElem]
  refine ⟨hk, by rw [e]; exact hp, fun j hj => ?_⟩
  rw [hb j l[j] hj (List.getElem?_eq_getElem _)]
  simp
theorem gidx_miss {P : α → Bool} {l : List α} (hb : ∀ j s, j < l.length → l[j]? = some s → P s = false) : l.findIdx? P = none := by
  rw [List.findIdx?_eq_none_iff]
  intro s hs
  obtain ⟨j, hj, e⟩ := List.mem_iff_getElem.1 hs
  exact hb j s hj (by rw [List.getElem?_eq_getElem hj, e])
theorem gidx_any (P : α → Bool) (l : List α) : decide (0 ≤ gidx P l) = l.any P := by
  unfold gidx
  cases h : l.findIdx? P with
  | some i =>
    obtain ⟨h1, h2, _⟩ := List.findIdx?_eq_some_iff_getElem.1 h
    have : l.any P = true := List.any_eq_true.2 ⟨l[i], List.getElem_mem h1, h2⟩
    rw [this]
    simp
  | none =>
    rw [List.findIdx?_eq_none_iff] at h
    have : l.any P = false := by
      rw [List.any_eq_false]
      intro x hx
      rw [h x hx]; decide
    rw [this]
    rfl

variable {w w' wr : World} {base g cap i j : Nat} {e : TypeId} {l : List α} {P : α → Bool} {r : α}

end Go.Proofs.YticiofkiffgclaaGreat

namespace Go.Proofs.YticiofkiffgclaaGreat
open Go.RowKit

structure Ev where
  id : Int
  tx : Int
  ow : ByteArray
  tr : Int
  tb : Int
  kd : Int
  key : Int
  t : ByteArray

def Ev.zero : Ev := ⟨0, 0, ⟨#[]⟩, 0, 0, 0, 0, ⟨#[]⟩⟩

def Ev.cs (e : Ev) : Array Value := #[.int .i64 e.id, .int .i64 e.tx, .string e.ow, .int .i64 e.tr, .int .i64 e.tb, .int .u8 e.kd, .int .i64 e.key, .string e.t]

end Go.Proofs.YticiofkiffgclaaGreat
