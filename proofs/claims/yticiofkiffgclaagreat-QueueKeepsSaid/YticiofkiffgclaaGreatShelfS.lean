/-
  The shelf's contracts of generic functions of the library, laid at this program in plain words: numbers of functions and types, and that the bodies are the shelf's.
-/
import Derived.Shelf.SlSortCmp.InsertionK
import Derived.Ground.SlsfProg
import Derived.Test.YticiofkiffgclaaGreatProg
namespace Go.Proofs.YticiofkiffgclaaGreat
open Go.RowKit Go.Sort Go.Shelf

def Tryz.insE_ren : Go.Shelf.Ren := ⟨fun | 20 => 185 | n => n, fun | 24 => 50 | 22 => 57 | 3 => 3 | 25 => 135 | 4 => 4 | 0 => 0 | n => n, fun | n => n⟩
theorem Tryz.insE : Go.Proofs.SlLaysF0.n20 Tryz.prog Tryz.insE_ren := {
  mixed := by kernel_rfl,
  f20 := ⟨Tryz.f185.name, by decide, Tryz.func185.trans (congrArg some (by kernel_rfl))⟩,
  t0 := Tryz.underlying0,
  a0 := Tryz.isAgg0,
  z0 := Tryz.sizeOf0,
  v0 := Tryz.zeroValue0,
  t3 := Tryz.underlying3,
  a3 := Tryz.isAgg3,
  z3 := Tryz.sizeOf3,
  v3 := Tryz.zeroValue3,
  t4 := Tryz.underlying4,
  a4 := Tryz.isAgg4,
  z4 := Tryz.sizeOf4,
  v4 := Tryz.zeroValue4,
  t22 := Tryz.underlying57,
  a22 := Tryz.isAgg57,
  z22 := Tryz.sizeOf57,
  v22 := Tryz.zeroValue57,
  t25 := Tryz.underlying135,
  a25 := Tryz.isAgg135,
  z25 := Tryz.sizeOf135,
  v25 := Tryz.zeroValue135 }

end Go.Proofs.YticiofkiffgclaaGreat
