/-
  Both items' lists held against each other: like.
-/
import Derived.Test.YtcnjgjgppbakdaaRtn
namespace Go.Proofs.Ytcnjgjgppbakdaa
set_option linter.unusedVariables false
open Go.RowKit

variable {w w' : World} {B p q : Nat} {V U : Value} {l : List It}

set_option maxHeartbeats 4000000 in
set_option maxRecDepth 100000 in
theorem like_any (a : Ls encIt rtT rtE w B p V l) (d : Lr encIt riT riE w B q U l) (few : l.length ≤ 16) : Calls Try.prog 21 #[.pointer (some ⟨p, 0, none⟩), .pointer (some ⟨q, 0, none⟩)] w fun e w' => e = .returned (.bool true) ∧ Kept w w' [] := by
  have CL := Lib.hid (tall_any a (by omega))
  have D := Lib.hid d
  obtain ⟨uq, cq, eq⟩ := d.shape
  have dc := d.cell.1
  rw [eq] at dc
  have DC := Lib.hid dc; have EQ := Lib.hid eq
  have NE := ev_ne
  clear a d eq dc
  go_enter Try.func21, Try.ntmps21
  go_wp2_with fail
  refine CL.out.mono ?_
  rintro e w1 ⟨v1, rfl, o1, k1⟩
  obtain ⟨u1, c1, e1⟩ := o1.shape
  subst e1
  have dc := k1.cell (by simp) DC.out
  have O1 := Lib.hid o1; have K1 := Lib.hid k1
  clear o1 k1
  go_wp2
  clear dc
  go_loopw [6] (fun s6 wr => ∃ i : Nat, s6 = .int .i64 i ∧ i ≤ l.length ∧ Hid (Kept w1 wr [])) (fun s6 _ => l.length - (intOf s6).toNat)
  case atStart => exact ⟨0, rfl, Nat.zero_le _, Lib.hid (Kept.refl _ _)⟩
  case round =>
    obtain ⟨i, rfl, hi, KR⟩ := hrel
    by_cases hlt : i < l.length
    · have x1 : (i : Int) < (l.length : Int) := by omega
      obtain ⟨x, hx⟩ : ∃ x, l[i]? = some x := ⟨_, List.getElem?_eq_getElem hlt⟩
      have o4 := O1.out.keep KR.out
      obtain ⟨g, eg, -⟩ := o4.at hx
      subst eg
      obtain ⟨⟨p0, p1, p2, p3, p4, p5, p6, p7, p8⟩, -⟩ := cellsO_r o4 hx
      have kw := K1.out.trans KR.out (by simp)
      have d4 := D.out.keep kw
      obtain ⟨gq, oq, c', hv⟩ := d4.hit hx
      have r4 := d4.rd
      have dc := d4.cell.1
      rw [hv] at r4 dc
      obtain ⟨q0, q1, q2, q3, q4, q5, q6, q7, q8⟩ := cellsR_r r4 hx
      obtain ⟨b0, ⟨b1, b2, b3, b4, b5, b6, b7, b8⟩⟩ := x
      simp only at p0 p1 p2 p3 p4 p5 p6 p7 p8 q0 q1 q2 q3 q4 q5 q6 q7 q8
      clear o4 d4 r4 hv hx kw
      go_wp2_with fail
      go_quiet (fail)
      have KN := Lib.hid (KR.out.drewN nq)
      clear p0 p1 p2 p3 p4 p5 p6 p7 p8 q0 q1 q2 q3 q4 q5 q6 q7 q8 dc
      generalize wr.drewN nq = wn at KN ⊢
      go_wp2
      go_roundw
      case rel => exact ⟨i + 1, by go_num, by omega, KN⟩
      case measure => simp [intOf]; omega
    · have x1 : ¬ (i : Int) < (l.length : Int) := by omega
      go_wp2
      go_ret
      exact ⟨rfl, K1.out.trans KR.out (by simp)⟩

end Go.Proofs.Ytcnjgjgppbakdaa
