/-
  The document's example of layer 10.
-/
import Derived.Test.YtalplhhmghnggaaSph
namespace Go.Proofs.Ytalplhhmghnggaa
set_option linter.unusedVariables false
open Go.RowKit

/-- Blocks that came later have turned: what was there stands. -/
theorem Kept.fo {w w1 w2 : World} {O : Nat → Prop} (h : Kept w w1 []) (f : Fo O w1 w2) (hO : ∀ k, O k → w.heap.size ≤ k) : Kept w w2 [] :=
  ⟨f.os.trans h.os, f.tape.trans h.tape, f.output.trans h.output, Nat.le_trans h.size f.size, fun k hk hn => (f.block k (Nat.lt_of_lt_of_le hk h.size) (fun e => by have := hO k e; omega)).trans (h.block k hk hn)⟩
theorem Kept.sp {T : TypeId} {w w1 w2 : World} {B h c : Nat} {V : Nat → Value} {l : Nat → List Ev} {O : Nat → Prop} (k : Kept w w1 []) (a : Sp T w1 B h V l c) (hB : w.heap.size ≤ B) (s : Stp (sfoot h V) O w1 w2) : Kept w w2 [] :=
  k.fo s.1 (fun i hi => Nat.le_trans hB (a.lt i hi).1)

def noE : Nat → List Ev := fun _ => []
def noV : Nat → Value := fun _ => .slice none 0 0
theorem dst_no : Dst noV := by intro i j k _ _ _ h; simp [noV, Value.ownBlock] at h

/-- An event with a number alone. -/
def eI (n : Int) : Ev := ⟨n, 0, ⟨#[]⟩, 0, 0, 0, 0, ⟨#[]⟩⟩

theorem rot_a : rotS (upd noE 0 [eI 1]) 0 false = (2, 0, upd noE 0 [eI 1], 1) := by simp [rotS, nxt, upd, noE]
theorem rot_b : rotS (upd noE 0 [eI 1]) 1 false = (2, 0, upd noE 0 [eI 1], 2) := by simp [rotS, nxt, upd, noE]
theorem rot_c : rotS (upd noE 0 [eI 1]) 2 false = (0, 9, upd noE 0 [eI 1], 2) := by simp [rotS, nxt, upd]

set_option maxHeartbeats 2000000 in
theorem turns_any (W : World) : Calls Try.prog 9 #[] W fun e w' => e = .returned (.bool true) ∧ Kept W w' [] := by
  go_enter Try.func9, Try.ntmps9
  go_wp2_with fail
  refine (new_any W).mono ?_
  rintro e w1 ⟨h, rfl, a1, k1⟩
  have c1 := add_any (a1 : Sp spT w1 W.heap.size h noV noE 0) dst_no (by simp) (eI 1)
  have A1 := Lib.hid a1; have K1 := Lib.hid k1; have C1 := Lib.hid c1
  clear a1 k1 c1
  simp only [eI, Ev.cs] at C1
  go_wp2_with fail
  refine C1.out.mono ?_
  rintro e w2 ⟨rfl, V2, a2, d2, s2⟩
  have e2 : upd noE 0 (noE 0 ++ [eI 1]) = upd noE 0 [eI 1] := rfl
  change Sp spT w2 W.heap.size h V2 (upd noE 0 (noE 0 ++ [eI 1])) 0 at a2
  rw [e2] at a2
  have K2 := Lib.hid (K1.out.sp A1.out (Nat.le_refl _) s2)
  have c2 := srotate_any a2 d2 false
  rw [rot_a] at c2
  have A2 := Lib.hid a2; have C2 := Lib.hid c2
  clear a2 d2 s2 c2 e2
  go_wp2_with fail
  refine C2.out.mono ?_
  rintro e w3 ⟨rfl, V3, a3, d3, s3⟩
  have K3 := Lib.hid (K2.out.sp A2.out (Nat.le_refl _) s3)
  change Sp spT w3 W.heap.size h V3 (upd noE 0 [eI 1]) 1 at a3
  have c3 := srotate_any a3 d3 false
  rw [rot_b] at c3
  have A3 := Lib.hid a3; have C3 := Lib.hid c3
  clear a3 d3 s3 c3
  go_wp2_with fail
  refine C3.out.mono ?_
  rintro e w4 ⟨rfl, V4, a4, d4, s4⟩
  have K4 := Lib.hid (K3.out.sp A3.out (Nat.le_refl _) s4)
  change Sp spT w4 W.heap.size h V4 (upd noE 0 [eI 1]) 2 at a4
  have c4 := srotate_any a4 d4 false
  rw [rot_c] at c4
  have A4 := Lib.hid a4; have C4 := Lib.hid c4
  clear a4 d4 s4 c4
  go_wp2_with fail
  refine C4.out.mono ?_
  rintro e w5 ⟨rfl, V5, a5, d5, s5⟩
  have K5 := Lib.hid (K4.out.sp A4.out (Nat.le_refl _) s5)
  clear a5 d5 s5
  go_wp2
  go_ret
  exact ⟨rfl, K5.out⟩

end Go.Proofs.Ytalplhhmghnggaa
