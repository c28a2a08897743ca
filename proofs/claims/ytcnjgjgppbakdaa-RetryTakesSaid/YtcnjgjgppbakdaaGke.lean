/-
  Where the first one is of which P holds; a row of structs from which some are taken out, step by step. No function of the program.
-/
import Derived.Test.YtcnjgjgppbakdaaGkd
namespace Go.Proofs.Ytcnjgjgppbakdaa
set_option linter.unusedVariables false
open Go.RowKit

variable {α : Type} {E : Enc α}

/-- Where the first one is of which P holds; -1: there is none. -/
def gidx (P : α → Bool) (l : List α) : Int := match l.findIdx? P with | some i => i | none => -1
theorem gidx_hit {P : α → Bool} {l : List α} {k : Nat} {r : α} (hr : l[k]? = some r) (hp : P r = true) (hb : ∀ j s, j < k → l[j]? = some s → P s = false) : l.findIdx? P = some k := by
  obtain ⟨hk, e⟩ := List.getElem?_eq_some_iff.1 hr
  rw [List.findIdx?_eq_some_iff_getElem]
  refine ⟨hk, by rw [e]; exact hp, fun j hj => ?_⟩
  rw [hb j l[j] hj (List.getElem?_eq_getElem _)]
  simp
theorem gidx_miss {P : α → Bool} {l : List α} (hb : ∀ j s, j < l.length → l[j]? = some s → P s = false) : l.findIdx? P = none := by
  rw [List.findIdx?_eq_none_iff]
  intro s hs
  obtain ⟨j, hj, e⟩ := List.mem_iff_getElem.1 hs
  exact hb j s hj (by rw [List.getElem?_eq_getElem hj, e])
theorem gfind_lt {P : α → Bool} {l : List α} {k : Nat} (h : l.findIdx? P = some k) : k < l.length := (List.findIdx?_eq_some_iff_getElem.1 h).1
theorem gidx_any (P : α → Bool) (l : List α) : decide (0 ≤ gidx P l) = l.any P := by
  unfold gidx
  cases h : l.findIdx? P with
  | some i =>
    obtain ⟨h1, h2, _⟩ := List.findIdx?_eq_some_iff_getElem.1 h
    have : l.any P = true := List.any_eq_true.2 ⟨l[i], List.getElem_mem h1, h2⟩
    rw [this]
    simp
  | none =>
    rw [List.findIdx?_eq_none_iff] at h
    have : l.any P = false := by
      rw [List.any_eq_false]
      intro x hx
      rw [h x hx]; decide
    rw [this]
    rfl

def keptG (P : α → Bool) (l : List α) (j : Nat) : List α := (l.take j).filter fun r => !P r
theorem keptG_hit {P : α → Bool} {l : List α} {j : Nat} {r : α} (h : l[j]? = some r) (hp : P r = false) : keptG P l (j + 1) = keptG P l j ++ [r] := by
  simp [keptG, List.take_add_one, h, hp]
theorem keptG_miss {P : α → Bool} {l : List α} {j : Nat} {r : α} (h : l[j]? = some r) (hp : P r = true) : keptG P l (j + 1) = keptG P l j := by
  simp [keptG, List.take_add_one, h, hp]
theorem keptG_all {P : α → Bool} {l : List α} : keptG P l l.length = l.filter fun r => !P r := by simp [keptG]
/-- Up to the first one that goes all stay. -/
theorem keptG_first {P : α → Bool} {l : List α} {k : Nat} (hi : l.findIdx? P = some k) : keptG P l k = l.take k ∧ keptG P l (k + 1) = l.take k := by
  rw [List.findIdx?_eq_some_iff_getElem] at hi
  obtain ⟨h1, h2, h3⟩ := hi
  have hk : keptG P l k = l.take k := by
    rw [keptG, List.filter_eq_self]
    intro r hr
    obtain ⟨m, hm, e⟩ := List.mem_iff_getElem.1 hr
    rw [List.getElem_take] at e
    simp only [List.length_take] at hm
    have := h3 m (by omega)
    rw [e] at this
    simpa using this
  exact ⟨hk, by rw [keptG_miss (List.getElem?_eq_getElem h1) h2, hk]⟩

variable (E) in
/-- The row in the loop's midst: what stays in front, and from j on what was. -/
structure GMid (wr : World) (base g cap : Nat) (e : TypeId) (l : List α) (P : α → Bool) (i j : Nat) : Prop where
  row : ∃ X, OwnK E wr base e (.slice (some ⟨g, 0, none⟩) l.length cap) X ∧ X.take i = keptG P l j ∧ X.drop j = l.drop j ∧ X.length = l.length
  len : i = (keptG P l j).length
  lt : i < j
  le : j ≤ l.length

variable {w w' wr : World} {base g cap i j : Nat} {e : TypeId} {l : List α} {P : α → Bool} {r : α}

theorem GMid.start {k : Nat} (ho : OwnK E w base e (.slice (some ⟨g, 0, none⟩) l.length cap) l) (hi : l.findIdx? P = some k) : GMid E w base g cap e l P k (k + 1) := by
  have h1 := gfind_lt hi
  obtain ⟨hk, hk1⟩ := keptG_first hi
  exact ⟨⟨l, ho, by rw [hk1], rfl, rfl⟩, by rw [hk1]; simp; omega, by omega, by omega⟩

theorem GMid.cells (a : GMid E wr base g cap e l P i j) (hr : l[j]? = some r) : ∃ X, OwnK E wr base e (.slice (some ⟨g, 0, none⟩) l.length cap) X ∧ X[j]? = some r := by
  obtain ⟨X, h1, _, h3, _⟩ := a.row
  refine ⟨X, h1, ?_⟩
  have := congrArg (fun m => m[0]?) h3
  simp only [List.getElem?_drop, Nat.add_zero] at this
  rw [this, hr]

theorem GMid.spot (a : GMid E wr base g cap e l P i j) : ∃ X s, OwnK E wr base e (.slice (some ⟨g, 0, none⟩) l.length cap) X ∧ X[i]? = some s := by
  obtain ⟨X, h1, _, _, h4⟩ := a.row
  have := a.lt; have := a.le
  exact ⟨X, X[i]'(by omega), h1, List.getElem?_eq_getElem (by omega)⟩

theorem GMid.skip (a : GMid E wr base g cap e l P i j) (hr : l[j]? = some r) (hp : P r = true) (hk : Kept wr w' []) : GMid E w' base g cap e l P i (j + 1) := by
  obtain ⟨X, h1, h2, h3, h4⟩ := a.row
  have hj : j < l.length := (List.getElem?_eq_some_iff.1 hr).1
  exact ⟨⟨X, h1.keep hk, by rw [keptG_miss hr hp]; exact h2, by rw [← List.drop_drop, h3, List.drop_drop], h4⟩, by rw [keptG_miss hr hp]; exact a.len, by have := a.lt; omega, hj⟩

theorem GMid.put (a : GMid E wr base g cap e l P i j) (hr : l[j]? = some r) (hp : P r = false) (hk : Kept wr w' []) :
    GMid E (putAll w' g (i * E.k) (E.cs r).toList) base g cap e l P (i + 1) (j + 1) := by
  obtain ⟨X, h1, h2, h3, h4⟩ := a.row
  have hj : j < l.length := (List.getElem?_eq_some_iff.1 hr).1
  have hlt := a.lt
  refine ⟨⟨X.set i r, (h1.keep hk).put i (by omega) r, ?_, ?_, by rw [List.length_set, h4]⟩, by rw [keptG_hit hr hp, List.length_append, ← a.len]; rfl, by omega, hj⟩
  · rw [keptG_hit hr hp, ← h2, List.take_add_one, List.take_set_of_le (Nat.le_refl _), List.getElem?_set_self (by omega)]
    rfl
  · rw [List.drop_set_of_lt (by omega), ← List.drop_drop, h3, List.drop_drop]

/-- The end: what is behind is made noughts. -/
theorem GMid.fin {Q : Program} (a : GMid E wr base g cap e l P i l.length) (t : TypeId) (z : Value) (ht : Q.underlying t = some (.slice e)) (hv : ∀ w, (zeroValue e).run Q w = .ok z w) (h1 : ∀ v ∈ z.cells.toList, v.oneCell' = true) (hz : z.cells.size = E.k) :
    ∃ w3, (∀ ty, (Builtin.clear_ #[t] ty #[.slice (some ⟨g, i * E.k, none⟩) (l.length - i) (cap - i)]).run Q wr = .ok (.tuple #[]) w3) ∧ i = (l.filter fun r => !P r).length ∧
      OwnK E w3 base e (.slice (some ⟨g, 0, none⟩) i cap) (l.filter fun r => !P r) ∧ Fo (fun k => k = g) wr w3 := by
  obtain ⟨X, o1, h2, _, h4⟩ := a.row
  have hl := a.len
  have hlt := a.lt
  rw [keptG_all] at h2 hl
  obtain ⟨R, hg, hBg, _, hlc, hcm, hRl, hRt⟩ := o1.row
  have hX : i * E.k + (l.length - i) * E.k = X.length * E.k := by rw [← Nat.add_mul, h4]; congr 1; omega
  have hcx : X.length * E.k ≤ R.length := by rw [hRl]; exact Nat.mul_le_mul_right _ hlc
  obtain ⟨w3, hr, ⟨R3, h3, hl3, ht3⟩, hf3⟩ := run_clear_k (P := Q) wr t e z ht hv h1 (by rw [hz]; exact E.pos) (n := l.length - i) (c := cap - i) (o := i * E.k) (by omega) hg (by rw [hz]; omega)
  refine ⟨w3, hr, hl, ?_, hf3⟩
  have hh := ownK_row (E := E) (l := l.filter fun r => !P r) (B := base) (cap := cap) h3 hBg (by rw [← hl]; omega) hcm (by rw [hl3]; exact hRl) (by
    rw [← hl, ht3, ← h2, kcs_take E X i (by omega), ← hRt, List.take_take, Nat.min_eq_left (Nat.mul_le_mul_right _ (by omega))])
  rw [← hl] at hh
  exact hh

theorem Fo.oneK {O : Nat → Prop} {a b c : World} (h : Fo O a b) (k : Kept b c []) : Fo O a c := h.trans (Fo.ofKept k O)

end Go.Proofs.Ytcnjgjgppbakdaa
