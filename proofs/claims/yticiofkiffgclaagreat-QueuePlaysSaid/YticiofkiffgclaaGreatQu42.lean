/-
  Zsq in one text.
-/
import Derived.Test.YticiofkiffgclaaGreatQu38
import Derived.Test.YticiofkiffgclaaGreatQu39
import Derived.Test.YticiofkiffgclaaGreatQu40
import Derived.Test.YticiofkiffgclaaGreatQu41
set_option linter.unusedVariables false
namespace Go.Proofs.YticiofkiffgclaaGreat
open Go.ChangeShapes Go.WideShapes Go.ChangeAt Go.RowKit
variable {w0 w w' : World} {a : Hk} {h m hx zb zr : Nat} {s1 s2 s1' s2' : List Nat} {q1 q2 q' : Qs} {O1 O2 : Nat -> Prop} {C R : Array Value}
theorem do_any {k : Nat} (b : Bq w0 w a h m hx k) (hk : k < 1000) (x : ActQ) (d8 : x.d < 256) (i8 : x.id < 256) (o8 : x.ow < 256) (wa : (Lit.int .i64 x.a).wf = true) : Calls Tryz.prog 11 #[.pointer (some ⟨hx, 0, none⟩), .agg x.cs] w fun e w' => e = .returned (.bool true) /\ Bq w0 w' a h m hx (k + 1) := by
 obtain ⟨D, U, Ky, N⟩ := x
 simp only [ActQ.cs] at *
 have h24 := Nat.mod_lt D (show 0 < 24 by decide)
 by_cases c0 : D % 24 = 9 ∨ D % 24 = 10 ∨ D % 24 = 11
 ·exact do_tck b hk D U Ky N d8 i8 o8 wa c0
 by_cases c1 : D % 24 = 14 ∨ D % 24 = 15
 ·exact do_nxt b hk D U Ky N d8 i8 o8 wa c1
 by_cases c2 : D % 24 = 0 ∨ D % 24 = 1 ∨ D % 24 = 2 ∨ D % 24 = 3 ∨ D % 24 = 4 ∨ D % 24 = 5 ∨ D % 24 = 6 ∨ D % 24 = 7 ∨ D % 24 = 8 ∨ D % 24 = 16 ∨ D % 24 = 17 ∨ D % 24 = 18
 ·exact do_one b hk D U Ky N d8 i8 o8 wa c2
 exact do_two b hk D U Ky N d8 i8 o8 wa (by omega)
end Go.Proofs.YticiofkiffgclaaGreat
