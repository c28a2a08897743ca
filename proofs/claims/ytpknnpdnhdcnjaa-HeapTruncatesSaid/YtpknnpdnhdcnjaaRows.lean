/-
  No cell of these rows narrows 'for every input' (looked for: loops, veiled, ifaces, maps, wideKeys, modest, calm, conditions, laid).
  DERIVED. THE GIVEN ROWS OF THIS SEAT. 5 by the template 'for every input the law returns true; each argument reads behind the call as it read before'; 0 by the template 'total and deterministic' (their statements: YtpknnpdnhdcnjaaTotals.lean).
  GIVEN WITH THE SEED: the statements are not yours to turn. If you find one false, say at which input.
  Laid BY PROGRAM, IN A SANDBOX (cutbox-rows.mjs): the forced cells as the released guide's own fill.sh prints them over the translation 9757f77586b2322e… (all of the seat's roots in one cut). By AI agents, Wed Nov 11 2026. No macro, syntax, notation, axiom, sorry.
-/
import Derived.Test.YtpknnpdnhdcnjaaChecked
import GoSem.Claim
import GoSem.ClaimJoined
import GoSem.ClaimMapViews
import Derived.JoinedTies
import Derived.KernelRfl
namespace Go.Proofs.Ytpknnpdnhdcnjaa
/- THE CELL 'sum', in the pinned program and in every row, IS THE sha256 OF THE DUMP (.gsa) THAT YtpknnpdnhdcnjaaProg.lean LOADS. Nothing in Lean hashes anything: it is a label: what it is worth is what the hold of that sum in a sandbox is worth. -/
noncomputable def Try.pinned : Pinned := { name := "ytpknnpdnhdcnjaa", sum := "9757f77586b2322ecd19dc532152723be75c5c0704341eb9a5eaf2583177084e", checked := Try.checked }
namespace Rows
def none {H : Type} : Left H := { results := [], args := [] }

/-- 'carrierlaw07.HeapSnap': WHATEVER THE INPUT: true; the input reads as it did. -/
def heapSnapSpec : ChangeSpec := { name := "heapSnap", fn := fun _ => fun
  | [d1, d2] => { results := [.lit (.bool true)], args := [d1, d2] }
  | _ => none }
def heapSnapRow : OpenClaim := { program := "ytpknnpdnhdcnjaa", sum := "9757f77586b2322ecd19dc532152723be75c5c0704341eb9a5eaf2583177084e", func := "carrier/carrierlaw07.HeapSnap", spec := "heapSnap", unfollowed := true, recurses := true, apart := false }
def HeapSnapSaid : Prop := heapSnapRow.holds Try.pinned (OpenSpec.ofChange heapSnapSpec)

/-- ITS FALSE NEIGHBOUR: 'it returns false'. Refute it at one input. -/
def heapSnapWrong : ChangeSpec := { name := "heapSnap", fn := fun _ => fun
  | [d1, d2] => { results := [.lit (.bool false)], args := [d1, d2] }
  | _ => none }
def HeapSnapWrongFalsely : Prop := heapSnapRow.holds Try.pinned (OpenSpec.ofChange heapSnapWrong)

/-- 'carrierlaw07.HeapFirst': WHATEVER THE INPUT: true; the input reads as it did. -/
def heapFirstSpec : ChangeSpec := { name := "heapFirst", fn := fun _ => fun
  | [d1, d2, d3, d4] => { results := [.lit (.bool true)], args := [d1, d2, d3, d4] }
  | _ => none }
def heapFirstRow : OpenClaim := { program := "ytpknnpdnhdcnjaa", sum := "9757f77586b2322ecd19dc532152723be75c5c0704341eb9a5eaf2583177084e", func := "carrier/carrierlaw07.HeapFirst", spec := "heapFirst", unfollowed := true, recurses := true, apart := false }
def HeapFirstSaid : Prop := heapFirstRow.holds Try.pinned (OpenSpec.ofChange heapFirstSpec)

/-- ITS FALSE NEIGHBOUR: 'it returns false'. Refute it at one input. -/
def heapFirstWrong : ChangeSpec := { name := "heapFirst", fn := fun _ => fun
  | [d1, d2, d3, d4] => { results := [.lit (.bool false)], args := [d1, d2, d3, d4] }
  | _ => none }
def HeapFirstWrongFalsely : Prop := heapFirstRow.holds Try.pinned (OpenSpec.ofChange heapFirstWrong)

/-- 'carrierlaw07.HeapRedo': WHATEVER THE INPUT: true; the input reads as it did. -/
def heapRedoSpec : ChangeSpec := { name := "heapRedo", fn := fun _ => fun
  | [d] => { results := [.lit (.bool true)], args := [d] }
  | _ => none }
def heapRedoRow : OpenClaim := { program := "ytpknnpdnhdcnjaa", sum := "9757f77586b2322ecd19dc532152723be75c5c0704341eb9a5eaf2583177084e", func := "carrier/carrierlaw07.HeapRedo", spec := "heapRedo", unfollowed := true, recurses := true, apart := false }
def HeapRedoSaid : Prop := heapRedoRow.holds Try.pinned (OpenSpec.ofChange heapRedoSpec)

/-- ITS FALSE NEIGHBOUR: 'it returns false'. Refute it at one input. -/
def heapRedoWrong : ChangeSpec := { name := "heapRedo", fn := fun _ => fun
  | [d] => { results := [.lit (.bool false)], args := [d] }
  | _ => none }
def HeapRedoWrongFalsely : Prop := heapRedoRow.holds Try.pinned (OpenSpec.ofChange heapRedoWrong)

/-- 'carrierlaw07.HeapNil': WHATEVER THE INPUT: true; the input reads as it did. -/
def heapNilSpec : ChangeSpec := { name := "heapNil", fn := fun _ => fun
  | [d1, d2] => { results := [.lit (.bool true)], args := [d1, d2] }
  | _ => none }
def heapNilRow : OpenClaim := { program := "ytpknnpdnhdcnjaa", sum := "9757f77586b2322ecd19dc532152723be75c5c0704341eb9a5eaf2583177084e", func := "carrier/carrierlaw07.HeapNil", spec := "heapNil", unfollowed := true, recurses := true, apart := false }
def HeapNilSaid : Prop := heapNilRow.holds Try.pinned (OpenSpec.ofChange heapNilSpec)

/-- ITS FALSE NEIGHBOUR: 'it returns false'. Refute it at one input. -/
def heapNilWrong : ChangeSpec := { name := "heapNil", fn := fun _ => fun
  | [d1, d2] => { results := [.lit (.bool false)], args := [d1, d2] }
  | _ => none }
def HeapNilWrongFalsely : Prop := heapNilRow.holds Try.pinned (OpenSpec.ofChange heapNilWrong)

/-- 'carrierlaw07.HeapTruncates': WHATEVER THE INPUT: true; the input reads as it did. -/
def heapTruncatesSpec : ChangeSpec := { name := "heapTruncates", fn := fun _ => fun
  | [d1, d2, d3] => { results := [.lit (.bool true)], args := [d1, d2, d3] }
  | _ => none }
def heapTruncatesRow : OpenClaim := { program := "ytpknnpdnhdcnjaa", sum := "9757f77586b2322ecd19dc532152723be75c5c0704341eb9a5eaf2583177084e", func := "carrier/carrierlaw07.HeapTruncates", spec := "heapTruncates", unfollowed := true, recurses := true, apart := false }
def HeapTruncatesSaid : Prop := heapTruncatesRow.holds Try.pinned (OpenSpec.ofChange heapTruncatesSpec)

/-- ITS FALSE NEIGHBOUR: 'it returns false'. Refute it at one input. -/
def heapTruncatesWrong : ChangeSpec := { name := "heapTruncates", fn := fun _ => fun
  | [d1, d2, d3] => { results := [.lit (.bool false)], args := [d1, d2, d3] }
  | _ => none }
def HeapTruncatesWrongFalsely : Prop := heapTruncatesRow.holds Try.pinned (OpenSpec.ofChange heapTruncatesWrong)

/- THE SECOND FORM. 'bulk': how many values and letters a reading holds, each counted each time it is reached (what is shared counts as often as it is met; a slice's spare places count too). A statement '..UptoSaid' is the law's where the arguments, and the package variables that the reading takes, are together of bulk at most 1048576: NARROWER than '..Said'. Prove '..Said' where nothing that the law and all that it calls make is longer than what came in: it says more and counts as full. Else prove '..UptoSaid'. A law counts once. -/
mutual
def uptoBulk {H : Type} : DataW H → Nat
  | .lit (.string bytes) => bytes.length + 1
  | .lit _ => 1
  | .nil => 1
  | .ptr d => uptoBulk d + 1
  | .slice elems spare => uptoBulkAll elems + uptoBulkAll spare + 1
  | .agg parts => uptoBulkAll parts + 1
  | .iface _ d => uptoBulk d + 1
  | .map entries => uptoBulkEntries entries + 1
  | .held _ => 1
def uptoBulkAll {H : Type} : List (DataW H) → Nat
  | [] => 0
  | d :: r => uptoBulk d + uptoBulkAll r
def uptoBulkEntries {H : Type} : List (Lit × DataW H) → Nat
  | [] => 0
  | x :: r => uptoBulkEntry x + uptoBulkEntries r
def uptoBulkEntry {H : Type} : Lit × DataW H → Nat
  | (.string bytes, d) => bytes.length + uptoBulk d + 1
  | (_, d) => uptoBulk d + 1
 end
def uptoSmall : (H : Type) → List (DataW H) → Bool := fun _ ds => decide (uptoBulkAll ds ≤ 1048576)
def OpenSpec.upto (s : _root_.Go.ChangeSpec) : _root_.Go.OpenSpec := { _root_.Go.OpenSpec.ofChange s with cond := some uptoSmall }

/-- 'carrierlaw07.HeapSnap', WHERE WHAT IT READS IS OF BULK AT MOST 1048576: true; the input reads as it did. -/
def heapSnapUptoRow : OpenClaim := { program := "ytpknnpdnhdcnjaa", sum := "9757f77586b2322ecd19dc532152723be75c5c0704341eb9a5eaf2583177084e", func := "carrier/carrierlaw07.HeapSnap", spec := "heapSnap", unfollowed := true, recurses := true, apart := false, narrowed := true }
def HeapSnapUptoSaid : Prop := heapSnapUptoRow.holds Try.pinned (OpenSpec.upto heapSnapSpec)

/-- 'carrierlaw07.HeapFirst', WHERE WHAT IT READS IS OF BULK AT MOST 1048576: true; the input reads as it did. -/
def heapFirstUptoRow : OpenClaim := { program := "ytpknnpdnhdcnjaa", sum := "9757f77586b2322ecd19dc532152723be75c5c0704341eb9a5eaf2583177084e", func := "carrier/carrierlaw07.HeapFirst", spec := "heapFirst", unfollowed := true, recurses := true, apart := false, narrowed := true }
def HeapFirstUptoSaid : Prop := heapFirstUptoRow.holds Try.pinned (OpenSpec.upto heapFirstSpec)

/-- 'carrierlaw07.HeapRedo', WHERE WHAT IT READS IS OF BULK AT MOST 1048576: true; the input reads as it did. -/
def heapRedoUptoRow : OpenClaim := { program := "ytpknnpdnhdcnjaa", sum := "9757f77586b2322ecd19dc532152723be75c5c0704341eb9a5eaf2583177084e", func := "carrier/carrierlaw07.HeapRedo", spec := "heapRedo", unfollowed := true, recurses := true, apart := false, narrowed := true }
def HeapRedoUptoSaid : Prop := heapRedoUptoRow.holds Try.pinned (OpenSpec.upto heapRedoSpec)

/-- 'carrierlaw07.HeapNil', WHERE WHAT IT READS IS OF BULK AT MOST 1048576: true; the input reads as it did. -/
def heapNilUptoRow : OpenClaim := { program := "ytpknnpdnhdcnjaa", sum := "9757f77586b2322ecd19dc532152723be75c5c0704341eb9a5eaf2583177084e", func := "carrier/carrierlaw07.HeapNil", spec := "heapNil", unfollowed := true, recurses := true, apart := false, narrowed := true }
def HeapNilUptoSaid : Prop := heapNilUptoRow.holds Try.pinned (OpenSpec.upto heapNilSpec)

/-- 'carrierlaw07.HeapTruncates', WHERE WHAT IT READS IS OF BULK AT MOST 1048576: true; the input reads as it did. -/
def heapTruncatesUptoRow : OpenClaim := { program := "ytpknnpdnhdcnjaa", sum := "9757f77586b2322ecd19dc532152723be75c5c0704341eb9a5eaf2583177084e", func := "carrier/carrierlaw07.HeapTruncates", spec := "heapTruncates", unfollowed := true, recurses := true, apart := false, narrowed := true }
def HeapTruncatesUptoSaid : Prop := heapTruncatesUptoRow.holds Try.pinned (OpenSpec.upto heapTruncatesSpec)

end Rows
end Go.Proofs.Ytpknnpdnhdcnjaa
