/-
  What the laws of layer 14 share: events by a number; what is due, and what is left.
-/
import Derived.Test.YtcnjgjgppbakdaaRtk
namespace Go.Proofs.Ytcnjgjgppbakdaa
set_option linter.unusedVariables false
open Go.RowKit

def evI (k : Int) : Ev := ⟨k, 0, ⟨#[]⟩, 0, 0, 0, 0, ⟨#[]⟩⟩
theorem evI_tr (k : Int) : -9223372036854775808 ≤ (evI k).tr := by show (-9223372036854775808 : Int) ≤ 0; decide

theorem due_lft_len (l : List It) (K : Int) : (evs (dueI l K)).length + (lftI l K).length = l.length := by
  rw [evs_length, dueI, lftI]
  induction l with
  | nil => rfl
  | cons x t ih =>
    by_cases h : x.a ≤ K
    · rw [List.filter_cons_of_pos (by simpa using h), List.filter_cons_of_neg (by simpa using h), List.length_cons, List.length_cons]; omega
    · rw [List.filter_cons_of_neg (by simpa using h), List.filter_cons_of_pos (by simpa using h), List.length_cons, List.length_cons]; omega
theorem due_lft_none (l : List It) (K : Int) : dueI (lftI l K) K = [] := by
  rw [dueI, List.filter_eq_nil_iff]
  intro x hx
  rw [lftI, List.mem_filter] at hx
  simpa using hx.2
theorem lft_above {l : List It} {K : Int} {x : It} (h : x ∈ lftI l K) : ¬ x.a ≤ K := by
  rw [lftI, List.mem_filter] at h
  simpa using h.2
/-- Of two that stand in order the first comes no later. -/
theorem rise_le {l : List It} (h : Rise ltI l) {i j : Nat} {x y : It} (hij : i < j) (hx : l[i]? = some x) (hy : l[j]? = some y) : ltI x y = true := by
  obtain ⟨hi, rfl⟩ := List.getElem?_eq_some_iff.1 hx
  obtain ⟨hj, rfl⟩ := List.getElem?_eq_some_iff.1 hy
  exact List.pairwise_iff_getElem.1 h i j hi hj hij
theorem ltI_at {x y : It} (h : ltI x y = true) : x.a ≤ y.a := by
  rw [ltI_iff] at h
  omega

/-- Cells written over a whole block. -/
theorem putAll_at {w : World} {g : Nat} {cs : Array Value} {T : TypeId} {fz : Nat × Nat} (h : w.heap[g]? = some (.cells cs T fz)) {us : List Value} (hl : us.length = cs.size) : (putAll w g 0 us).heap[g]? = some (.cells us.toArray T fz) := by
  obtain ⟨cs', h1, h2, h3⟩ := heap_putAll us w 0 cs h (by omega)
  rw [h1]
  have e : cs' = us.toArray := by
    apply Array.ext'
    rw [h3, List.take_zero, List.nil_append, Nat.zero_add, List.drop_eq_nil_of_le (by rw [Array.length_toList]; omega), List.append_nil]
  rw [e]
theorem putAll_far {w : World} {g k : Nat} (h : k ≠ g) (us : List Value) {o : Obj} (ho : w.heap[k]? = some o) : (putAll w g 0 us).heap[k]? = some o :=
  (putAll_fo (O := fun k => k = g) us w 0 (Fo.refl _ w) (.inl rfl)).heap h ho
theorem putAll_keep {a w : World} (h : Kept a w []) {g : Nat} (hg : a.heap.size ≤ g) (us : List Value) : Kept a (putAll w g 0 us) [] := putAll_kept us w 0 h (.inr hg)
/-- An item's cells in a box, and that they may be written. -/
theorem it_cells {w : World} {g : Nat} {u0 u1 u2 u3 u4 u5 u6 u7 u8 : Value} {T : TypeId} {fz : Nat × Nat} (h : w.heap[g]? = some (.cells #[u0, u1, u2, u3, u4, u5, u6, u7, u8] T fz)) :
    w.cell? ⟨g, 0, none⟩ = some u0 ∧ w.cell? ⟨g, 1, none⟩ = some u1 ∧ w.cell? ⟨g, 2, none⟩ = some u2 ∧ w.cell? ⟨g, 3, none⟩ = some u3 ∧ w.cell? ⟨g, 4, none⟩ = some u4 ∧ w.cell? ⟨g, 5, none⟩ = some u5 ∧ w.cell? ⟨g, 6, none⟩ = some u6 ∧ w.cell? ⟨g, 7, none⟩ = some u7 ∧ w.cell? ⟨g, 8, none⟩ = some u8 :=
  ⟨by rw [cell_of_row _ _ _ _ _ _ h]; rfl, by rw [cell_of_row _ _ _ _ _ _ h]; rfl, by rw [cell_of_row _ _ _ _ _ _ h]; rfl, by rw [cell_of_row _ _ _ _ _ _ h]; rfl, by rw [cell_of_row _ _ _ _ _ _ h]; rfl, by rw [cell_of_row _ _ _ _ _ _ h]; rfl, by rw [cell_of_row _ _ _ _ _ _ h]; rfl, by rw [cell_of_row _ _ _ _ _ _ h]; rfl, by rw [cell_of_row _ _ _ _ _ _ h]; rfl⟩
theorem it_frozen {w : World} {g : Nat} {cs : Array Value} {T : TypeId} (h : w.heap[g]? = some (.cells cs T (0, 0))) : w.frozen? ⟨g, 0, none⟩ = false ∧ w.frozen? ⟨g, 1, none⟩ = false ∧ w.frozen? ⟨g, 2, none⟩ = false ∧ w.frozen? ⟨g, 3, none⟩ = false ∧ w.frozen? ⟨g, 4, none⟩ = false ∧ w.frozen? ⟨g, 5, none⟩ = false ∧ w.frozen? ⟨g, 6, none⟩ = false ∧ w.frozen? ⟨g, 7, none⟩ = false ∧ w.frozen? ⟨g, 8, none⟩ = false :=
  ⟨frozen_of_row _ _ _ _ _ h, frozen_of_row _ _ _ _ _ h, frozen_of_row _ _ _ _ _ h, frozen_of_row _ _ _ _ _ h, frozen_of_row _ _ _ _ _ h, frozen_of_row _ _ _ _ _ h, frozen_of_row _ _ _ _ _ h, frozen_of_row _ _ _ _ _ h, frozen_of_row _ _ _ _ _ h⟩
abbrev zI9 : Obj := .cells #[.int .i64 0, .int .i64 0, .int .i64 0, .string ⟨#[]⟩, .int .i64 0, .int .i64 0, .int .u8 0, .int .i64 0, .string ⟨#[]⟩] rtE
/-- One more at its place, all by a bound. -/
theorem adiL_all {P : It → Prop} {l : List It} {e : Ev} {ow : ByteArray} {at' : Int} (h : ∀ x ∈ l, P x) (hx : P (addX e ow at')) : ∀ x ∈ adiL l e ow at', P x := by
  intro x hm
  unfold adiL at hm
  split at hm
  · rcases (insG_mem _ _ _).1 hm with rfl | hm
    · exact hx
    · exact h x hm
  · exact h x hm

end Go.Proofs.Ytcnjgjgppbakdaa
