/-
  Events as an encoding. No function of the program.
-/
import Derived.Test.YtcnjgjgppbakdaaGka
import Derived.Test.YtcnjgjgppbakdaaEv0
namespace Go.Proofs.Ytcnjgjgppbakdaa
open Go.RowKit

def encEv : Enc Ev where
  k := 8
  cs := Ev.cs
  size := fun _ => rfl
  one := fun x u h => by
    simp only [Ev.cs, List.mem_cons, List.not_mem_nil, or_false] at h
    rcases h with rfl | rfl | rfl | rfl | rfl | rfl | rfl | rfl <;> rfl
  pos := by decide

end Go.Proofs.Ytcnjgjgppbakdaa
