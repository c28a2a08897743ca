/-
  Proved: whatever the arguments are, carrierlaw11.TickPuts answers true and leaves its arguments as they were. No condition.
-/
import Derived.Test.YtodfjpjjcgdmeaaKj
import Derived.Test.YtodfjpjjcgdmeaaRows
import Derived.Test.YtodfjpjjcgdmeaaChecked
import Derived.ProofKit
import Derived.OpenShut
import Derived.ChangeOld
import Derived.Below
import Derived.Deep.LoopGhost
namespace Go.Proofs.Ytodfjpjjcgdmeaa.tickPuts
open Go.ChangeShapes Go.WideShapes Go.ChangeAt Go.RowKit
set_option linter.unusedVariables false

theorem own : ownKnob Try.prog.godebug = none := by kernel_rfl
theorem laidOut : laidOutB Try.prog = true := by kernel_rfl

/-- What stands there after so many tries. -/
def minP (i : Nat) : List Pt := oneP (min i 64)
theorem min_ok (i : Nat) : Okp (minP i) := one_ok (by omega)
theorem min_last (i : Nat) : lastN (minP i) = (min i 64 : Nat) := one_last _
theorem min_add (i : Nat) : addS (minP i) 1 [] 0 = minP (i + 1) := by
  unfold minP
  by_cases h : i < 64
  · rw [show min i 64 = i by omega, show min (i + 1) 64 = i + 1 by omega, (one_add h).2]
  · rw [show min i 64 = 64 by omega, show min (i + 1) 64 = 64 by omega, one_full.2]
theorem min_put (i : Nat) (n A : Int) : putE (minP i) n A [] 0 = if n = (min i 64 : Nat) + 1 then (if 64 ≤ i then 8 else if 1 ≤ A then 0 else 1) else 1 := by
  unfold putE
  rw [min_last]
  by_cases h : n = (min i 64 : Nat) + 1
  · rw [if_pos h, if_pos h]
    unfold minP
    rw [one_most _ A (by omega)]
    by_cases h2 : 64 ≤ i
    · rw [if_pos h2, if_pos (by omega)]
    · rw [if_neg h2, if_neg (by omega)]
  · rw [if_neg h, if_neg h]
theorem put_far (ps : List Pt) (n A B : Int) (hn : B = lastN ps + 10) : putE (putS ps n A [] 0) B 1 [] 0 = 1 := by
  have h : lastN (putS ps n A [] 0) ≤ lastN ps + 1 := by
    unfold putS
    by_cases h : n = lastN ps + 1
    · rw [if_pos h, lastN_add]
      by_cases h2 : addE ps A [] 0 = 0
      · rw [if_pos h2]; omega
      · rw [if_neg h2]; omega
    · rw [if_neg h]; omega
  unfold putE
  rw [if_neg (by omega)]
theorem okput {ps : List Pt} (ok : Okp ps) (n : Int) {A : Int} (hA : A ≤ 9223372036854775807) : Okp (putS ps n A [] 0) := by
  unfold putS
  by_cases h : n = lastN ps + 1
  · rw [if_pos h]; exact ok.add1 0 hA
  · rw [if_neg h]; exact ok
theorem lastput (ps : List Pt) (n A : Int) : lastN (putS ps n A [] 0) ≤ lastN ps + 1 := by
  unfold putS
  by_cases h : n = lastN ps + 1
  · rw [if_pos h, lastN_add]
    by_cases h2 : addE ps A [] 0 = 0
    · rw [if_pos h2]; omega
    · rw [if_neg h2]; omega
  · rw [if_neg h]; omega

set_option maxHeartbeats 8000000 in
set_option maxRecDepth 100000 in
theorem walk (a0 a1 a2 : Int) (w0 : (Lit.int .i64 a0).wf = true) (w1 : (Lit.int .u8 a1).wf = true) (w2 : (Lit.int .i64 a2).wf = true) (W : World) :
    Calls Try.prog 9 #[.int .i64 a0, .int .u8 a1, .int .i64 a2] W fun e w' => e = .returned (.bool true) ∧ Below W.heap.size W w' := by
  have B1 := bounds_u8 w1
  have HA2 := (bounds_i64 w2).2
  obtain ⟨r, hr⟩ : ∃ r : Nat, a1.tmod 70 = r := ⟨(a1.tmod 70).toNat, by have := Int.tmod_nonneg 70 B1.1; omega⟩
  have hr70 : r < 70 := by have := Int.tmod_lt_of_pos a1 (show (0 : Int) < 70 by omega); omega
  have m1 : IntKind.i64.wrap (r : Int) = r := by rw [IntKind.wrap_i64]; omega
  clear w0 B1 w1 w2
  go_enter Try.func9, Try.ntmps9
  go_wp2_with fail
  refine (trims_any W).mono ?_
  rintro e w1 ⟨rfl, k1⟩
  have K1 := Lib.hid k1; clear k1
  go_wp2_with fail
  refine (ck_new K1.out).mono ?_
  rintro e w2 ⟨h, rfl, c2⟩
  have C2 := Lib.hid (show Ck W w2 h (minP 0) from c2); clear c2
  go_wp2
  go_loopg [8] r (fun kx s8 wr => ∃ i : Nat, s8 = .int .i64 i ∧ i ≤ r ∧ r - i ≤ kx ∧ RowKit.Hid (Ck W wr h (minP i)))
  case atStart => exact ⟨0, rfl, by omega, by omega, C2.out⟩
  case round =>
    clear C2
    obtain ⟨i, rfl, hi, hkx, HC⟩ := hrel
    by_cases hlt : i < r
    · have x1 : (i : Int) < (r : Int) := by omega
      have hc := ck_add HC.out (min_ok i) 1 none 0 [] 0 (RdT.nil _) (by omega) (by simp) (by rw [min_last]; omega)
      rw [min_add] at hc
      generalize addE (minP i) 1 [] 0 = E at hc
      have HA := Lib.hid hc
      clear hc
      go_wp2_with fail
      refine HA.out.mono ?_
      rintro e w3 ⟨y, rfl, _, _, c3⟩
      have C3 := Lib.hid c3; clear c3
      go_wp2
      go_roundg (r - (i + 1))
      case measure => omega
      case rel => exact ⟨i + 1, by go_num, by omega, by omega, C3.out⟩
    · have x1 : ¬ (i : Int) < (r : Int) := by omega
      obtain rfl : i = r := by omega
      have HP := Lib.hid (min_put i a0 a2)
      have hlast := min_last i
      obtain ⟨L, hL⟩ : ∃ L : Nat, L = min i 64 := ⟨_, rfl⟩
      have hL64 : L ≤ 64 := by omega
      rw [← hL] at hlast HP
      have HL := Lib.hid hlast
      have HF : RowKit.Hid (∀ n A, putE (putS (minP i) n A [] 0) ((L : Int) + 1 + 9) 1 [] 0 = 1) := Lib.hid (fun n A => put_far _ _ _ _ (by omega))
      have hl := ck_last HC.out (min_ok i)
      rw [hlast] at hl
      have HLA := Lib.hid hl
      have hp := fun (U : World) (hU : Kept wr U []) => ck_put (HC.out.keep hU) (min_ok i) a0 a2 none 0 [] 0 (RdT.nil U) HA2 (by simp) (by rw [hlast]; omega)
      have HPU := Lib.hid hp
      have OK2 := Lib.hid (okput (min_ok i) a0 HA2)
      have HL2 : RowKit.Hid (lastN (putS (minP i) a0 a2 [] 0) ≤ 1099511627776) := Lib.hid (by have := lastput (minP i) a0 a2; omega)
      clear hl hp hL hlast HA2
      have m3 : wrap64 ((L : Int) + 1) = (L : Int) + 1 := by simp only [wrap64]; omega
      have m4 : wrap64 ((L : Int) + 1 + 9) = (L : Int) + 1 + 9 := by simp only [wrap64]; omega
      have m5 : IntKind.i64.wrap ((L : Int) + 1) = (L : Int) + 1 := by rw [IntKind.wrap_i64]; omega
      by_cases hn : a0 = (L : Int) + 1
      · have y1 : (a0 != (L : Int) + 1) = false := by rw [hn]; simp
        rw [if_pos hn] at HP
        by_cases h64 : 64 ≤ i
        · have y2 : (64 : Int) ≤ (i : Int) := by omega
          rw [if_pos h64] at HP
          have HPV := Lib.hid HP.out
          clear h64 hn
          rw [HPV.out] at HPU
          go_wp2_with fail
          refine HLA.out.mono ?_
          rintro e w3 ⟨rfl, k3⟩
          have K3 := Lib.hid k3
          clear k3
          go_wp2_with fail
          refine (HPU.out w3 K3.out).mono ?_
          rintro e w4 ⟨rfl, c4⟩
          have hq := ck_put c4 OK2.out ((L : Int) + 1 + 9) 1 none 0 [] 0 (RdT.nil _) (by omega) (by simp) HL2.out
          rw [HF.out] at hq
          have HQ := Lib.hid hq
          clear hq c4
          go_wp2_with fail
          refine HQ.out.mono ?_
          rintro e w5 ⟨rfl, c5⟩
          have C5 := Lib.hid c5.kept
          clear c5
          go_wp2
          go_ret
          exact ⟨rfl, C5.out.below (Nat.le_refl _) (by simp)⟩
        · have y2 : ¬ (64 : Int) ≤ (i : Int) := by omega
          rw [if_neg h64] at HP
          clear h64
          by_cases h1 : 1 ≤ a2
          · rw [if_pos h1] at HP
            have HPV := Lib.hid HP.out
            clear hn
            rw [HPV.out] at HPU
            go_wp2_with fail
            refine HLA.out.mono ?_
            rintro e w3 ⟨rfl, k3⟩
            have K3 := Lib.hid k3
            clear k3
            go_wp2_with fail
            refine (HPU.out w3 K3.out).mono ?_
            rintro e w4 ⟨rfl, c4⟩
            have hq := ck_put c4 OK2.out ((L : Int) + 1 + 9) 1 none 0 [] 0 (RdT.nil _) (by omega) (by simp) HL2.out
            rw [HF.out] at hq
            have HQ := Lib.hid hq
            clear hq c4
            go_wp2_with fail
            refine HQ.out.mono ?_
            rintro e w5 ⟨rfl, c5⟩
            have C5 := Lib.hid c5.kept
            clear c5
            go_wp2
            go_ret
            exact ⟨rfl, C5.out.below (Nat.le_refl _) (by simp)⟩
          · rw [if_neg h1] at HP
            have HPV := Lib.hid HP.out
            clear hn
            rw [HPV.out] at HPU
            go_wp2_with fail
            refine HLA.out.mono ?_
            rintro e w3 ⟨rfl, k3⟩
            have K3 := Lib.hid k3
            clear k3
            go_wp2_with fail
            refine (HPU.out w3 K3.out).mono ?_
            rintro e w4 ⟨rfl, c4⟩
            have hq := ck_put c4 OK2.out ((L : Int) + 1 + 9) 1 none 0 [] 0 (RdT.nil _) (by omega) (by simp) HL2.out
            rw [HF.out] at hq
            have HQ := Lib.hid hq
            clear hq c4
            go_wp2_with fail
            refine HQ.out.mono ?_
            rintro e w5 ⟨rfl, c5⟩
            have C5 := Lib.hid c5.kept
            clear c5
            go_wp2
            go_ret
            exact ⟨rfl, C5.out.below (Nat.le_refl _) (by simp)⟩
      · have y1 : (a0 != (L : Int) + 1) = true := bne_iff_ne.2 hn
        rw [if_neg hn] at HP
        have HPV := Lib.hid HP.out
        clear hn
        rw [HPV.out] at HPU
        go_wp2_with fail
        refine HLA.out.mono ?_
        rintro e w3 ⟨rfl, k3⟩
        have K3 := Lib.hid k3
        clear k3
        go_wp2_with fail
        refine (HPU.out w3 K3.out).mono ?_
        rintro e w4 ⟨rfl, c4⟩
        have hq := ck_put c4 OK2.out ((L : Int) + 1 + 9) 1 none 0 [] 0 (RdT.nil _) (by omega) (by simp) HL2.out
        rw [HF.out] at hq
        have HQ := Lib.hid hq
        clear hq c4
        go_wp2_with fail
        refine HQ.out.mono ?_
        rintro e w5 ⟨rfl, c5⟩
        have C5 := Lib.hid c5.kept
        clear c5
        go_wp2
        go_ret
        exact ⟨rfl, C5.out.below (Nat.le_refl _) (by simp)⟩

set_option maxRecDepth 100000 in
theorem lifted (os : Os) (started : os.Started) (H : Type) (enc : TypeId × Value → H) :
    ReturnsInHanded {} Try.checked os 9 .any (Rows.tickPutsSpec.pre6 enc Try.prog Try.f9 Rows.tickPutsRow.domain false) (Rows.tickPutsSpec.post enc Try.prog Try.f9 false true false false) := by
  refine returnsInHanded_of_change (C := Try.checked) own started (by kernel_rfl) Try.func9
    (ChangeSpec.witness6 (enc := enc) (C := Try.checked) false ⟨#[], #[.int .i64 0, .int .u8 0, .int .i64 0], []⟩ 8 (by kernel_rfl) (by kernel_rfl) (by kernel_rfl) (by kernel_rfl)) ?_
  intro W base args ds gs before hval0 hW hcnd _
  have hval : ∀ (j : Nat) t v, Try.f9.params[j]? = some t → args[j]? = some v → Value.okWide Try.prog W .any base t v := hval0
  have hW' := hW
  obtain ⟨p, q, hA0, hV, rfl, hfz, hnd⟩ := hW
  have hA : DataW.TrodAll enc Try.prog W 0 (fun _ => true) true Try.f9.params.toList args.toList ds p := hA0
  rw [Try.params9] at hA hval
  obtain ⟨v0, vs0, d0, ds0, p0, q0, hargs, rfl, rfl, h0, r0⟩ := trodAll_cons hA
  obtain ⟨v1, vs1, d1, ds1, p1, q1, rfl, rfl, rfl, h1, r1⟩ := trodAll_cons r0
  obtain ⟨v2, vs2, d2, ds2, p2, q2, rfl, rfl, rfl, h2, r2⟩ := trodAll_cons r1
  obtain ⟨rfl, rfl, rfl⟩ := trodAll_nil r2
  obtain rfl : args = #[v0, v1, v2] := by cases args; simp_all
  obtain ⟨rfl, rfl⟩ := trodVars_none hV
  obtain ⟨a0, rfl, rfl, rfl, w0⟩ := open_int Try.underlying2 (hval 0 2 v0 rfl rfl) h0
  obtain ⟨a1, rfl, rfl, rfl, w1⟩ := open_int Try.underlying5 (hval 1 5 v1 rfl rfl) h1
  obtain ⟨a2, rfl, rfl, rfl, w2⟩ := open_int Try.underlying2 (hval 2 2 v2 rfl rfl) h2
  clear hA0 hval0
  simp only [List.append_nil] at hW'
  refine (walk a0 a1 a2 w0 w1 w2 W).mono fun e W' ⟨he, bel⟩ => ?_
  subst he
  exact ⟨_, rfl, _, _, _, [], _, [], hW', trodAll_mk1 (shut_bool Try.underlying4 _), (trodAll_cons_mk (shut_int Try.underlying2 w0) (trodAll_cons_mk (shut_int Try.underlying5 w1) (trodAll_cons_mk (shut_int Try.underlying2 w2) trodAll_mk0))), rfl, bel.frame _, fun h => by cases h⟩

theorem over : Rows.tickPutsRow.holds Try.pinned (OpenSpec.ofChange Rows.tickPutsSpec) :=
  OpenClaim.holds_of_wide 9 Try.f9 rfl rfl rfl rfl rfl rfl rfl ⟨rfl, rfl, rfl, rfl, rfl⟩ rfl rfl rfl rfl rfl (by kernel_rfl) Try.func9 (by kernel_rfl)
    (of_decide_eq_true (by kernel_rfl)) (by unfold Func.isWrapper; first | (rw [if_pos (by decide +kernel)]; kernel_rfl) | (rw [if_neg (by decide +kernel)]; exact ⟨rfl, rfl⟩))
    (fun os started H enc _ => lifted os started H enc)

theorem proved : Rows.TickPutsSaid :=
  over
end Go.Proofs.Ytodfjpjjcgdmeaa.tickPuts

namespace Go.Proofs.Ytodfjpjjcgdmeaa
theorem tickPuts_holds : Rows.TickPutsSaid := tickPuts.proved
#print axioms tickPuts_holds
end Go.Proofs.Ytodfjpjjcgdmeaa

