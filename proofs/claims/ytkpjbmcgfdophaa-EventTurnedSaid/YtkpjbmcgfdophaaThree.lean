/-
  The document's examples of layer 2 hold (carrierlaw02.three), in any world; and what the calls tell of no writer, and of no reader.
-/
import Derived.Test.YtkpjbmcgfdophaaRead2
namespace Go.Proofs.Ytkpjbmcgfdophaa
open Go.RowKit

theorem numL_300 : numL 300 = [172, 2] := by rw [numL_great (by decide), numL_small (by decide)]; rfl
theorem intL_m1 : intL (-1) = [1] := by
  have : Lib.zigzag (-1) = 1 := by decide
  rw [intL, this, numL_small (by decide)]; rfl
theorem rNum_300 : rNum 0 [172, 2] = (300, [], 0) := by decide

/-- Bytes written out, in a block that was just laid. -/
theorem rd_lit (w : World) (l : List UInt8) (cs : Array Value) (T : TypeId) (n : Nat) (hn : n = l.length) (h : cs.toList = bc l) : Rd (w.alloc (.cells cs T)) (.slice (some ⟨w.heap.size, 0, none⟩) n n) l := by
  subst hn
  refine ⟨_, _, rfl, Nat.le_refl _, by simp, fun _ => ⟨w.heap.size, 0, rfl, fun i hi => ?_⟩⟩
  rw [World.cell?_alloc_at _ _ _ _ rfl, ← Array.getElem?_toList, h, Nat.zero_add]
  exact bc_at l i hi

end Go.Proofs.Ytkpjbmcgfdophaa
