/-
  The document's example (five); the document's snapshots by numbers (Of).
-/
import Derived.Test.YtojkandkhhjaaaaSnG
import Derived.Test.YtojkandkhhjaaaaFr
namespace Go.Proofs.Ytojkandkhhjaaaa
open Go.RowKit

/-- A snapshot's two cells. -/
theorem two_cells {w : World} {p : Nat} {M : Int} {v : Value} {t : TypeId} {fz : Nat × Nat} (h : w.heap[p]? = some (.cells #[.int .i64 M, v] t fz)) : w.cell? ⟨p, 0, none⟩ = some (.int .i64 M) ∧ w.cell? ⟨p, 1, none⟩ = some v :=
  ⟨by simpa using cell_of_row w p 0 _ _ _ h, by simpa using cell_of_row w p 1 _ _ _ h⟩

theorem Kept.two {w w' : World} {p : Nat} {M : Int} {v : Value} (k : Kept w w' []) (h : w.cell? ⟨p, 0, none⟩ = some (.int .i64 M) ∧ w.cell? ⟨p, 1, none⟩ = some v) : w'.cell? ⟨p, 0, none⟩ = some (.int .i64 M) ∧ w'.cell? ⟨p, 1, none⟩ = some v :=
  ⟨k.cell (p := ⟨p, 0, none⟩) (by simp) h.1, k.cell (p := ⟨p, 1, none⟩) (by simp) h.2⟩

end Go.Proofs.Ytojkandkhhjaaaa
