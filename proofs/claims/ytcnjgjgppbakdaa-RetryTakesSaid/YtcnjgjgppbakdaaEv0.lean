/-
  An event as plain data, and its cells.
-/
import Derived.Test.YtcnjgjgppbakdaaKit
namespace Go.Proofs.Ytcnjgjgppbakdaa
open Go.RowKit

/-- An event. -/
structure Ev where
  id : Int
  tx : Int
  ow : ByteArray
  tr : Int
  tb : Int
  kd : Int
  key : Int
  t : ByteArray

def Ev.zero : Ev := ⟨0, 0, ⟨#[]⟩, 0, 0, 0, 0, ⟨#[]⟩⟩

/-- Its cells. -/
def Ev.cs (e : Ev) : Array Value := #[.int .i64 e.id, .int .i64 e.tx, .string e.ow, .int .i64 e.tr, .int .i64 e.tb, .int .u8 e.kd, .int .i64 e.key, .string e.t]

end Go.Proofs.Ytcnjgjgppbakdaa
