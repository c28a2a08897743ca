/-
  The document's example (clash); the calls of no heap, and of one without a manager.
-/
import Derived.Test.YtdjhcdgehmpikaaHo
namespace Go.Proofs.Ytdjhcdgehmpikaa
open Go.RowKit Go.Maps

/-- A view in a box. -/
def Bv (w : World) (g : Nat) (mx own : Int) (sl : Value) (l : List Int) : Prop := w.heap[g]? = some (.cells #[.int .i64 mx, sl, .int .i64 own] 51 (0, 0)) ∧ Vo w sl l

theorem Bv.keep {w w' : World} {g : Nat} {mx own : Int} {sl : Value} {l : List Int} (a : Bv w g mx own sl l) (hk : Kept w w' []) : Bv w' g mx own sl l := ⟨hk.heap (by simp) a.1, a.2.keep hk⟩
theorem Bv.fo {w w' : World} {B p h : Nat} {O : Nat → Prop} {st : List Nat} {ks : List Int} {F : Int → List Vr} {g : Nat} {mx own : Int} {sl : Value} {l : List Int} (a : Bv w g mx own sl l) (s : Sd w B p h O st ks F) (hf : Fo O w w') : Bv w' g mx own sl l :=
  ⟨s.heap hf a.1 (by decide), s.vo hf a.2⟩
theorem Bv.cells {w : World} {g : Nat} {mx own : Int} {sl : Value} {l : List Int} (a : Bv w g mx own sl l) : w.cell? ⟨g, 0, none⟩ = some (.int .i64 mx) ∧ w.cell? ⟨g, 1, none⟩ = some sl ∧ w.cell? ⟨g, 2, none⟩ = some (.int .i64 own) := three_at a.1
theorem Bv.make {w : World} {mx own : Int} {sl : Value} {l : List Int} (a : Vo w sl l) : Bv (w.alloc (.cells #[.int .i64 mx, sl, .int .i64 own] 51)) w.heap.size mx own sl l :=
  ⟨heap_alloc_new w _, a.keep ((Kept.refl w []).alloc _)⟩

/-- A row of the example. -/
def clF : Int → List Vr := updF (fun _ => []) 5 [⟨⟨#[]⟩, 1, 0⟩]

end Go.Proofs.Ytdjhcdgehmpikaa
