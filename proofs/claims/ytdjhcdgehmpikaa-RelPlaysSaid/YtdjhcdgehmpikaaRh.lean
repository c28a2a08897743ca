/-
  clear of a slice of structs; cells written in a row.
-/
import Derived.Test.YtdjhcdgehmpikaaRg
import Derived.Lib.SliceRun
namespace Go.Proofs.Ytdjhcdgehmpikaa
open Go.RowKit

theorem setCells_at {g : Nat} {t : TypeId} {fz : Nat × Nat} : ∀ (vs : List Value) (o : Nat) (w : World) (cs : Array Value), w.heap[g]? = some (.cells cs t fz) →
    ∃ cs', (w.setCells g o vs).heap[g]? = some (.cells cs' t fz) ∧ cs'.size = cs.size ∧ cs'.toList.take o = cs.toList.take o
  | [], o, w, cs, h => ⟨cs, h, rfl, rfl⟩
  | v :: vs, o, w, cs, h => by
    obtain ⟨cs', h1, h2, h3⟩ := setCells_at vs (o + 1) _ _ (heap_setCell_at h o v)
    refine ⟨cs', h1, by rw [h2]; simp, ?_⟩
    have h4 : (cs'.toList.take (o + 1)).take o = cs'.toList.take o := by rw [List.take_take]; congr 1; omega
    rw [← h4, h3, List.take_take, Array.toList_setIfInBounds, List.take_set]
    rw [List.set_eq_of_length_le (by simp; omega)]
    congr 1
    omega

theorem Fo.setCells {O : Nat → Prop} {g : Nat} (hO : O g) : ∀ (vs : List Value) (o : Nat) (a w : World), Fo O a w → Fo O a (w.setCells g o vs)
  | [], _, _, _, h => h
  | v :: vs, o, a, _, h => Fo.setCells hO vs (o + 1) a _ (h.setCell (p := ⟨g, o, none⟩) (.inl hO) v)

/-- clear, of a slice of elements of some cells. -/
theorem run_clear_cells {P : Program} (w : World) (t e : TypeId) (z : Value) (ht : P.underlying t = some (.slice e)) (hv : ∀ w, (zeroValue e).run P w = .ok z w) (h1 : ∀ v ∈ z.cells.toList, v.oneCell' = true) (hz : 0 < z.cells.size)
    {b o n c : Nat} {cs : Array Value} {te : TypeId} (hn : 0 < n) (hb : w.heap[b]? = some (.cells cs te (0, 0))) (ho : o + n * z.cells.size ≤ cs.size) :
    ∃ vs, ∀ ty, (Builtin.clear_ #[t] ty #[.slice (some ⟨b, o, none⟩) n c]).run P w = .ok (.tuple #[]) (w.setCells b o vs) := by
  have hl : (Builtin.zeroCells z.cells n).toList.length = n * z.cells.size := by simp [Builtin.zeroCells]
  have hc : ∀ j, j < (Builtin.zeroCells z.cells n).toList.length → (w.cell? ⟨b, o + 0 + j, none⟩).isSome = true := by
    intro j hj
    rw [hl] at hj
    rw [cell_of_row w b (o + 0 + j) _ _ _ hb, Array.getElem?_eq_getElem (by omega)]
    rfl
  have hf : ∀ j, j < (Builtin.zeroCells z.cells n).toList.length → w.frozen? ⟨b, o + 0 + j, none⟩ = false := by
    intro j hj
    simp [World.frozen?, hb]
  have hs := run_storeCells_cells (P := P) b o _ 0 w hc hf (by
    intro v hm
    simp only [Builtin.zeroCells, Array.toList_map, Array.toList_range, List.mem_map] at hm
    obtain ⟨i, _, rfl⟩ := hm
    have hi : i % z.cells.size < z.cells.size := Nat.mod_lt _ hz
    rw [getElem!_pos z.cells _ hi]
    exact h1 _ (by simp))
  refine ⟨(Builtin.zeroCells z.cells n).toList, fun ty => ?_⟩
  obtain ⟨m, rfl⟩ : ∃ m, n = m + 1 := ⟨n - 1, by omega⟩
  simp only [Nat.add_zero] at hs
  simp [Builtin.clear_, run_underlying ht, hv, hs]
end Go.Proofs.Ytdjhcdgehmpikaa
