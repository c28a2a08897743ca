/-
  Proved: whatever the arguments are, carrierlaw10.SpoolEmpties answers true and leaves its arguments as they were. No condition.
-/
import Derived.Test.YtalplhhmghnggaaSpi
import Derived.Test.YtalplhhmghnggaaRows
import Derived.Test.YtalplhhmghnggaaChecked
import Derived.ProofKit
import Derived.OpenShut
import Derived.ChangeOld
import Derived.Below
namespace Go.Proofs.Ytalplhhmghnggaa.spoolEmpties
open Go.ChangeShapes Go.WideShapes Go.ChangeAt Go.RowKit
set_option linter.unusedVariables false

theorem own : ownKnob Try.prog.godebug = none := by kernel_rfl
theorem laidOut : laidOutB Try.prog = true := by kernel_rfl

/-- So many events, by their numbers. -/
def evs (k : Nat) : List Ev := (List.range k).map fun i : Nat => eI ((i : Int) + 1)
theorem evs_length (k : Nat) : (evs k).length = k := by simp [evs]
theorem evs_succ (k : Nat) : evs (k + 1) = evs k ++ [eI ((k : Int) + 1)] := by simp [evs, List.range_succ]
theorem evs_upd (k : Nat) : upd (upd noE 0 (evs k)) 0 (upd noE 0 (evs k) 0 ++ [eI ((k : Int) + 1)]) = upd noE 0 (evs (k + 1)) := by
  funext j
  by_cases h : j = 0
  · subst h; rw [upd_same, upd_same, upd_same, evs_succ]
  · rw [upd_ne _ _ h, upd_ne _ _ h, upd_ne _ _ h]
theorem upd_e0 (i : Nat) : upd noE 0 (evs 0) i = [] := by
  by_cases h : i = 0
  · subst h; rw [upd_same]; rfl
  · rw [upd_ne _ _ h]; rfl
theorem evs_len (k : Nat) : lenN (upd noE 0 (evs k)) = k := by simp [lenN, upd, noE, evs_length]
theorem evs_lt {k : Nat} (h : k < 100) : ∀ i, i < 3 → (upd noE 0 (evs k) i).length < 1000000 := by
  intro i hi
  by_cases h : i = 0
  · subst h; rw [upd_same, evs_length]; omega
  · rw [upd_ne _ _ h]; simp [noE]
theorem rot_1 (k j : Nat) (hj : j < 2) : rotS (upd noE 0 (evs k)) j true = (2, 0, upd noE 0 (evs k), j + 1) := by
  have e : nxt j = j + 1 := by unfold nxt; omega
  unfold rotS
  rw [e, if_pos (by rw [upd_ne _ _ (by omega)]; rfl)]
theorem evs_ne {k : Nat} (h : 0 < k) : upd noE 0 (evs k) (nxt 2) ≠ [] := by
  have e : nxt 2 = 0 := rfl
  rw [e, upd_same]
  intro h1
  have := evs_length k
  rw [h1] at this
  simp at this
  omega
theorem rot_2 (k : Nat) (h : 0 < k) : rotS (upd noE 0 (evs k)) 2 true = (1, 0, upd (upd noE 0 (evs k)) 0 [], 2) := by
  unfold rotS
  rw [if_neg (evs_ne h), if_pos rfl]
  rfl
theorem rot_3 (k : Nat) (h : 0 < k) : rotS (upd noE 0 (evs k)) 2 false = (0, 9, upd noE 0 (evs k), 2) := by
  unfold rotS
  rw [if_neg (evs_ne h), if_neg (by simp)]
theorem upd_no (k : Nat) : upd (upd noE 0 (evs k)) 0 [] = noE := by
  funext j
  by_cases h : j = 0
  · subst h; rw [upd_same]; rfl
  · rw [upd_ne _ _ h, upd_ne _ _ h]
theorem rot_4 : rotS noE 2 true = (2, 0, noE, 0) := by
  unfold rotS
  rw [if_pos rfl]
  rfl

set_option maxHeartbeats 4000000 in
set_option maxRecDepth 100000 in
theorem walk (a0 : Int) (a1 : Bool) (w0 : (Lit.int .u8 a0).wf = true) (W : World) :
    Calls Try.prog 4 #[.int .u8 a0, .bool a1] W fun e w' => e = .returned (.bool true) ∧ Below W.heap.size W w' := by
  have B0 := bounds_u8 w0
  obtain ⟨n, hn⟩ : ∃ n : Nat, a0.tmod 9 = n := ⟨(a0.tmod 9).toNat, by have := Int.tmod_nonneg 9 B0.1; omega⟩
  have hn9 : n < 9 := by have := Int.tmod_lt_of_pos a0 (show (0 : Int) < 9 by omega); omega
  clear w0 B0
  obtain ⟨k, hk⟩ : ∃ k, k = n + 1 := ⟨_, rfl⟩
  have xk : 1 + (n : Int) = (k : Int) := by omega
  have hk0 : 0 < k := by omega
  have hk9 : k < 10 := by omega
  clear hk
  go_enter Try.func4, Try.ntmps4
  go_wp2_with fail
  refine (turns_any W).mono ?_
  rintro e w1 ⟨rfl, k1⟩
  have K1 := Lib.hid k1; clear k1
  go_wp2_with fail
  refine (new_any w1).mono ?_
  rintro e w2 ⟨h, rfl, a2, k2⟩
  have K2 := Lib.hid (K1.out.trans k2 (by simp))
  have HB : RowKit.Hid (W.heap.size ≤ w1.heap.size) := Lib.hid K1.out.size
  have A2 := Lib.hid (show Sp spT w2 w1.heap.size h noV (upd noE 0 (evs 0)) 0 from a2.congr (fun i _ => (upd_e0 i).symm))
  clear a2 k2
  go_wp2
  go_loopg [7] k (fun kx s7 wr => ∃ (i : Nat) (V : Nat → Value), s7 = .int .i64 i ∧ i ≤ k ∧ k - i ≤ kx ∧ RowKit.Hid (Sp spT wr w1.heap.size h V (upd noE 0 (evs i)) 0 ∧ Dst V ∧ Kept W wr []))
  case atStart => exact ⟨0, noV, rfl, by omega, by omega, A2.out, dst_no, K2.out⟩
  case round =>
    clear A2 K2
    obtain ⟨i, V, rfl, hik, hkx, HS⟩ := hrel
    obtain ⟨p1, p2, p3⟩ := HS.out
    by_cases hlt : i < k
    · have x1 : (i : Int) < (k : Int) := by omega
      have hc := add_any p1 p2 (evs_lt (by omega) 0 (by omega)) (eI ((i : Int) + 1))
      rw [evs_upd] at hc
      simp only [eI, Ev.cs] at hc
      have HC := Lib.hid hc; have P1 := Lib.hid p1; have P3 := Lib.hid p3
      clear p1 p2 p3 hc HS
      go_wp2_with fail
      refine HC.out.mono ?_
      rintro e w3 ⟨rfl, V3, q1, q2, q3⟩
      have Q := Lib.hid (And.intro q1 (And.intro q2 (P3.out.sp P1.out HB.out q3)))
      clear q1 q2 q3 HC P1 P3
      go_wp2
      go_roundg (k - (i + 1))
      case measure => omega
      case rel => exact ⟨i + 1, V3, by go_num, by omega, by omega, Q⟩
    · have x1 : ¬ (i : Int) < (k : Int) := by omega
      obtain rfl : i = k := by omega
      have P := Lib.hid (And.intro p1 (And.intro p2 p3))
      clear p1 p2 p3 HS
      go_wp2
      go_loopg [8, 9, 10] 2 (fun kx s8 _ _ w5 => ∃ (j : Nat) (V : Nat → Value), s8 = .int .i64 j ∧ j ≤ 2 ∧ 2 - j ≤ kx ∧ RowKit.Hid (Sp spT w5 w1.heap.size h V (upd noE 0 (evs i)) j ∧ Dst V ∧ Kept W w5 []))
      case atStart => exact ⟨0, V, rfl, by omega, by omega, P⟩
      case round =>
        clear P
        obtain ⟨j, V, rfl, hj2, hkx, HS⟩ := hrel
        obtain ⟨p1, p2, p3⟩ := HS.out
        by_cases hlt2 : j < 2
        · have x2 : (j : Int) < 2 := by omega
          have hc := srotate_any p1 p2 true
          rw [rot_1 _ _ hlt2] at hc
          have HC := Lib.hid hc; have P1 := Lib.hid p1; have P3 := Lib.hid p3
          clear p1 p2 p3 hc HS
          go_wp2_with fail
          refine HC.out.mono ?_
          rintro e w6 ⟨rfl, V3, q1, q2, q3⟩
          have hl := len_any q1 (fun q hq => by have := evs_lt (k := i) (by omega) q hq; omega)
          rw [evs_len] at hl
          have HLn := Lib.hid hl
          have Q := Lib.hid (And.intro q1 (And.intro q2 (P3.out.sp P1.out HB.out q3)))
          clear q1 q2 q3 HC P1 P3 hl
          go_wp2_with fail
          refine HLn.out.mono ?_
          rintro e w7 ⟨rfl, rfl⟩
          go_wp2
          go_roundg (2 - (j + 1))
          case measure => omega
          case rel => exact ⟨j + 1, V3, by go_num, by omega, by omega, Q⟩
        · have x2 : ¬ (j : Int) < 2 := by omega
          obtain rfl : j = 2 := by omega
          cases a1 with
          | false =>
            have hc := srotate_any p1 p2 false
            rw [rot_3 _ hk0] at hc
            have HC := Lib.hid hc; have P1 := Lib.hid p1; have P3 := Lib.hid p3
            clear p1 p2 p3 hc HS
            go_wp2_with fail
            refine HC.out.mono ?_
            rintro e w6 ⟨rfl, V3, q1, q2, q3⟩
            have hl := len_any q1 (fun q hq => by have := evs_lt (k := i) (by omega) q hq; omega)
            rw [evs_len] at hl
            have HLn := Lib.hid hl
            have Q := Lib.hid (P3.out.sp P1.out HB.out q3)
            clear q1 q2 q3 HC P1 P3 hl
            go_wp2_with fail
            refine HLn.out.mono ?_
            rintro e w7 ⟨rfl, rfl⟩
            go_wp2
            go_ret
            exact ⟨rfl, Q.out.below (Nat.le_refl _) (by simp)⟩
          | true =>
            have hc := srotate_any p1 p2 true
            rw [rot_2 _ hk0, upd_no] at hc
            have HC := Lib.hid hc; have P1 := Lib.hid p1; have P3 := Lib.hid p3
            clear p1 p2 p3 hc HS
            go_wp2_with fail
            refine HC.out.mono ?_
            rintro e w6 ⟨rfl, V3, q1, q2, q3⟩
            change Sp spT w6 w1.heap.size h V3 noE 2 at q1
            have hc := srotate_any q1 q2 true
            rw [rot_4] at hc
            have HC2 := Lib.hid hc
            have Q1 := Lib.hid q1
            have Q := Lib.hid (P3.out.sp P1.out HB.out q3)
            clear q1 q2 q3 HC P1 P3 hc
            go_wp2_with fail
            refine HC2.out.mono ?_
            rintro e w7 ⟨rfl, V4, r1, r2, r3⟩
            change Sp spT w7 w1.heap.size h V4 noE 0 at r1
            have R := Lib.hid (Q.out.sp Q1.out HB.out r3)
            have hl := len_any r1 (fun i hi => by simp [noE])
            have hcu := cur_any r1
            have HLn := Lib.hid hl; have HCu := Lib.hid hcu
            clear r1 r2 r3 HC2 hl hcu
            go_wp2_with fail
            refine HLn.out.mono ?_
            rintro e w8 ⟨rfl, rfl⟩
            have e0 : lenN noE = 0 := rfl
            rw [e0]
            go_wp2_with fail
            refine HCu.out.mono ?_
            rintro e w9 ⟨rfl, rfl⟩
            go_wp2
            go_ret
            exact ⟨rfl, R.out.below (Nat.le_refl _) (by simp)⟩

set_option maxRecDepth 100000 in
theorem lifted (os : Os) (started : os.Started) (H : Type) (enc : TypeId × Value → H) :
    ReturnsInHanded {} Try.checked os 4 .any (Rows.spoolEmptiesSpec.pre6 enc Try.prog Try.f4 Rows.spoolEmptiesRow.domain false) (Rows.spoolEmptiesSpec.post enc Try.prog Try.f4 false true false false) := by
  refine returnsInHanded_of_change (C := Try.checked) own started (by kernel_rfl) Try.func4
    (ChangeSpec.witness6 (enc := enc) (C := Try.checked) false ⟨#[], #[.int .u8 0, .bool false], []⟩ 8 (by kernel_rfl) (by kernel_rfl) (by kernel_rfl) (by kernel_rfl)) ?_
  intro W base args ds gs before hval0 hW hcnd _
  have hval : ∀ (j : Nat) t v, Try.f4.params[j]? = some t → args[j]? = some v → Value.okWide Try.prog W .any base t v := hval0
  have hW' := hW
  obtain ⟨p, q, hA0, hV, rfl, hfz, hnd⟩ := hW
  have hA : DataW.TrodAll enc Try.prog W 0 (fun _ => true) true Try.f4.params.toList args.toList ds p := hA0
  rw [Try.params4] at hA hval
  obtain ⟨v0, vs0, d0, ds0, p0, q0, hargs, rfl, rfl, h0, r0⟩ := trodAll_cons hA
  obtain ⟨v1, vs1, d1, ds1, p1, q1, rfl, rfl, rfl, h1, r1⟩ := trodAll_cons r0
  obtain ⟨rfl, rfl, rfl⟩ := trodAll_nil r1
  obtain rfl : args = #[v0, v1] := by cases args; simp_all
  obtain ⟨rfl, rfl⟩ := trodVars_none hV
  obtain ⟨a0, rfl, rfl, rfl, w0⟩ := open_int Try.underlying5 (hval 0 5 v0 rfl rfl) h0
  obtain ⟨a1, rfl, rfl, rfl⟩ := open_bool Try.underlying4 (hval 1 4 v1 rfl rfl) h1
  clear hA0 hval0
  simp only [List.append_nil] at hW'
  refine (walk a0 a1 w0 W).mono fun e W' ⟨he, bel⟩ => ?_
  subst he
  exact ⟨_, rfl, _, _, _, [], _, [], hW', trodAll_mk1 (shut_bool Try.underlying4 _), (trodAll_cons_mk (shut_int Try.underlying5 w0) (trodAll_cons_mk (shut_bool Try.underlying4 a1) trodAll_mk0)), rfl, bel.frame _, fun h => by cases h⟩

theorem over : Rows.spoolEmptiesRow.holds Try.pinned (OpenSpec.ofChange Rows.spoolEmptiesSpec) :=
  OpenClaim.holds_of_wide 4 Try.f4 rfl rfl rfl rfl rfl rfl rfl ⟨rfl, rfl, rfl, rfl, rfl⟩ rfl rfl rfl rfl rfl (by kernel_rfl) Try.func4 (by kernel_rfl)
    (of_decide_eq_true (by kernel_rfl)) (by unfold Func.isWrapper; first | (rw [if_pos (by decide +kernel)]; kernel_rfl) | (rw [if_neg (by decide +kernel)]; exact ⟨rfl, rfl⟩))
    (fun os started H enc _ => lifted os started H enc)

theorem proved : Rows.SpoolEmptiesSaid :=
  over
end Go.Proofs.Ytalplhhmghnggaa.spoolEmpties

namespace Go.Proofs.Ytalplhhmghnggaa
theorem spoolEmpties_holds : Rows.SpoolEmptiesSaid := spoolEmpties.proved
#print axioms spoolEmpties_holds
end Go.Proofs.Ytalplhhmghnggaa

