/-
  Proved: whatever the arguments are, carrierlaw13.CursorErrs answers true and leaves its arguments as they were. No condition.
-/
import Derived.Test.YtnoiomaoignndaaCuh
import Derived.Test.YtnoiomaoignndaaRows
import Derived.Test.YtnoiomaoignndaaChecked
import Derived.ProofKit
import Derived.OpenShut
import Derived.ChangeOld
import Derived.Below
namespace Go.Proofs.Ytnoiomaoignndaa.cursorErrs
open Go.ChangeShapes Go.WideShapes Go.ChangeAt Go.RowKit
set_option linter.unusedVariables false

theorem own : ownKnob Try.prog.godebug = none := by kernel_rfl
theorem laidOut : laidOutB Try.prog = true := by kernel_rfl

theorem errs_good {n : ByteArray} {x : Int} (h : 1 ≤ n.size ∧ n.size ≤ 40 ∧ 1 ≤ x) : regE [] n x = 0 ∧ regL [] n x = [⟨n, x, 0⟩] ∧ opnE [⟨n, x, 0⟩] n x = 1 ∧ opnL [⟨n, x, 0⟩] n x = [⟨n, x, 0⟩] ∧ getV [⟨n, x, 0⟩] n = .tuple #[.agg #[.string n, .int .i64 x, .int .i64 0], .bool true] ∧ finN [⟨n, x, 0⟩] n = 0 ∧ finE [⟨n, x, 0⟩] n = 7 := by
  have hp : plc [⟨n, x, 0⟩] n = some 0 := plc_hit (x := ⟨n, x, 0⟩) rfl (isN_iff.2 rfl) (fun j _ hj => absurd hj (Nat.not_lt_zero _))
  have hg : getC [⟨n, x, 0⟩] n = some ⟨n, x, 0⟩ := getC_plc hp rfl
  have h1 : regE [] n x = 0 := by rw [regE, if_neg (by omega)]; rfl
  refine ⟨h1, by rw [regL, if_pos h1]; rfl, ?_, ?_, ?_, ?_, ?_⟩
  · rw [opnE, hg]
    show (if (0 : Int) < 0 then (7 : Int) else if x ≤ x then 1 else 0) = 1
    rw [if_neg (by omega), if_pos (by omega)]
  · rw [opnL, hp, hg]
    show (if (0 : Int) < 0 ∨ x ≤ x then _ else _) = _
    rw [if_pos (by omega)]
  · rw [getV, hg]; rfl
  · rw [finN, hg]
  · rw [finE, hg]; rfl
theorem errs_bad {n : ByteArray} {x : Int} (h : ¬ (1 ≤ n.size ∧ n.size ≤ 40 ∧ 1 ≤ x)) : regE [] n x = 1 := by rw [regE, if_pos (by omega)]

set_option maxHeartbeats 4000000 in
set_option maxRecDepth 100000 in
theorem walk (a0 a1 : Int) (w0 : (Lit.int .u8 a0).wf = true) (w1 : (Lit.int .i64 a1).wf = true) (W : World) :
    Calls Try.prog 5 #[.int .u8 a0, .int .i64 a1] W fun e w' => e = .returned (.bool true) ∧ Below W.heap.size W w' := by
  have B0 := bounds_u8 w0
  obtain ⟨q, hq⟩ : ∃ q : Nat, a0 = q := ⟨a0.toNat, by omega⟩
  subst hq
  obtain ⟨n, hn⟩ : ∃ n : Nat, n = q % 60 := ⟨_, rfl⟩
  have xn : (q : Int) % 60 = (n : Int) := by omega
  have hn60 : n < 60 := by omega
  obtain ⟨C, txt, hsz, hmk, hcv⟩ := text_of n (by omega)
  have HSZ := Lib.hid hsz; have HCV := Lib.hid hcv
  clear w0 w1 hn hcv hsz
  go_enter Try.func5, Try.ntmps5
  go_wp2_with fail
  refine (cq_new (Kept.refl W [])).mono ?_
  rintro e w1 ⟨h, rfl, c1⟩
  have C1 := Lib.hid c1
  have sc := HCV.out w1 _ rfl
  have CR := Lib.hid (cq_reg (c1.keep ((Kept.refl w1 []).alloc (.cells C 5))) txt a1)
  clear c1
  go_wp2_with fail
  clear hmk sc
  by_cases hg : 1 ≤ txt.size ∧ txt.size ≤ 40 ∧ 1 ≤ a1
  · obtain ⟨s1, s2, s3, s4, s5, s6, s7⟩ := errs_good hg
    rw [s1, s2] at CR
    have x1 : (1 : Int) ≤ (txt.size : Int) := by omega
    have x2 : (txt.size : Int) ≤ 40 := by omega
    have x3 : 1 ≤ a1 := hg.2.2
    have S3 := Lib.hid s3; have S4 := Lib.hid s4; have S5 := Lib.hid s5; have S6 := Lib.hid s6; have S7 := Lib.hid s7
    clear s1 s2 s3 s4 s5 s6 s7 hg
    refine CR.out.mono ?_
    rintro e w2 ⟨rfl, c2⟩
    have C2 := Lib.hid c2; clear c2
    go_wp2_with fail
    refine (cq_opn C2.out txt a1).mono ?_
    rintro e w3 ⟨rfl, c3⟩
    rw [S3.out]
    rw [S4.out] at c3
    have C3 := Lib.hid c3; clear c3
    go_wp2_with fail
    refine (cq_get C3.out txt).mono ?_
    rintro e w4 ⟨rfl, k4⟩
    rw [S5.out]
    have C4 := Lib.hid (C3.out.keep k4); clear k4
    obtain ⟨z, hz⟩ : ∃ z, z = w4.heap.size := ⟨_, rfl⟩
    obtain ⟨w5, hw5⟩ : ∃ w5, w5 = w4.alloc (.cells #[.string txt, .int .i64 a1, .int .i64 0] cuE) := ⟨_, rfl⟩
    have k5 : Kept w4 w5 [] := by rw [hw5]; exact (Kept.refl w4 []).alloc _
    have g5 : w5.heap[z]? = some (.cells #[.string txt, .int .i64 a1, .int .i64 0] cuE (0, 0)) := by rw [hw5, hz]; exact heap_alloc_new w4 _
    obtain ⟨ok4, V4, a4, k04⟩ := C4.out
    have hz4 : ¬ cfoot h V4 z := fun hk => by have := (a4.lt z hk).2; omega
    have CF := Lib.hid (cfin_any (a4.keep k5) ok4 txt)
    have AF : Hid (∀ w6, Fo (cfoot h V4) w5 w6 → (w6.heap[z]? = some (.cells #[.string txt, .int .i64 a1, .int .i64 0] cuE (0, 0))) ∧ Kept W w6 []) := Lib.hid (fun w6 f => ⟨f.heap hz4 g5, (k04.trans k5 (by simp)).foC f (fun k hk => (a4.lt k hk).1)⟩)
    have HW5 := Lib.hid hw5; have HZ := Lib.hid hz
    rw [S6.out, S7.out] at CF
    clear k5 g5 hw5 hz a4 ok4 k04 hz4
    go_wp2_with fail
    rw [← HW5.out, ← HZ.out]
    refine CF.out.mono ?_
    rintro e w6 ⟨rfl, V6, a6, s6⟩
    obtain ⟨g6, k6⟩ := AF.out w6 s6.1
    obtain ⟨f0, f1, f2⟩ : w6.cell? ⟨z, 0, none⟩ = some (.string txt) ∧ w6.cell? ⟨z, 1, none⟩ = some (.int .i64 a1) ∧ w6.cell? ⟨z, 2, none⟩ = some (.int .i64 0) := ⟨by rw [cell_of_row _ _ _ _ _ _ g6]; rfl, by rw [cell_of_row _ _ _ _ _ _ g6]; rfl, by rw [cell_of_row _ _ _ _ _ _ g6]; rfl⟩
    have K6 := Lib.hid k6; have G6 := Lib.hid g6
    clear a6 s6 g6 k6 f0 f1 f2
    go_wp2_with fail
    refine (done_any w6).mono ?_
    rintro e w7 ⟨rfl, k7⟩
    have g7 := k7.heap (by simp) G6.out
    obtain ⟨f0, f1, f2⟩ : w7.cell? ⟨z, 0, none⟩ = some (.string txt) ∧ w7.cell? ⟨z, 1, none⟩ = some (.int .i64 a1) ∧ w7.cell? ⟨z, 2, none⟩ = some (.int .i64 0) := ⟨by rw [cell_of_row _ _ _ _ _ _ g7]; rfl, by rw [cell_of_row _ _ _ _ _ _ g7]; rfl, by rw [cell_of_row _ _ _ _ _ _ g7]; rfl⟩
    have K7 := Lib.hid (K6.out.trans k7 (by simp))
    clear k7 g7
    go_wp2
    go_ret
    exact ⟨rfl, K7.out.below (Nat.le_refl _) (by simp)⟩
  · have s1 := errs_bad hg
    rw [s1] at CR
    clear s1
    refine CR.out.mono ?_
    rintro e w2 ⟨rfl, c2⟩
    have C2 := Lib.hid c2; clear c2
    by_cases y1 : 1 ≤ txt.size
    · have x1 : (1 : Int) ≤ (txt.size : Int) := by omega
      by_cases y2 : txt.size ≤ 40
      · have x2 : (txt.size : Int) ≤ 40 := by omega
        have x3 : decide (1 ≤ a1) = false := by rw [decide_eq_false_iff_not]; omega
        have x4 : a1 < 1 := by omega
        go_wp2_with fail
        refine (done_any w2).mono ?_
        rintro e w3 ⟨rfl, k3⟩
        have K3 := Lib.hid (C2.out.kept.trans k3 (by simp)); clear k3
        go_wp2
        go_ret
        exact ⟨rfl, K3.out.below (Nat.le_refl _) (by simp)⟩
      · have x2 : ¬ (txt.size : Int) ≤ 40 := by omega
        have x3 : (40 : Int) < (txt.size : Int) := by omega
        clear hg
        go_wp2_with fail
        refine (done_any w2).mono ?_
        rintro e w3 ⟨rfl, k3⟩
        have K3 := Lib.hid (C2.out.kept.trans k3 (by simp)); clear k3
        go_wp2
        go_ret
        exact ⟨rfl, K3.out.below (Nat.le_refl _) (by simp)⟩
    · have x1 : ¬ (1 : Int) ≤ (txt.size : Int) := by omega
      have x2 : txt.size = 0 := by omega
      clear hg
      go_wp2_with fail
      refine (done_any w2).mono ?_
      rintro e w3 ⟨rfl, k3⟩
      have K3 := Lib.hid (C2.out.kept.trans k3 (by simp)); clear k3
      go_wp2
      go_ret
      exact ⟨rfl, K3.out.below (Nat.le_refl _) (by simp)⟩

set_option maxRecDepth 100000 in
theorem lifted (os : Os) (started : os.Started) (H : Type) (enc : TypeId × Value → H) :
    ReturnsInHanded {} Try.checked os 5 .any (Rows.cursorErrsSpec.pre6 enc Try.prog Try.f5 Rows.cursorErrsRow.domain false) (Rows.cursorErrsSpec.post enc Try.prog Try.f5 false true false false) := by
  refine returnsInHanded_of_change (C := Try.checked) own started (by kernel_rfl) Try.func5
    (ChangeSpec.witness6 (enc := enc) (C := Try.checked) false ⟨#[], #[.int .u8 0, .int .i64 0], []⟩ 8 (by kernel_rfl) (by kernel_rfl) (by kernel_rfl) (by kernel_rfl)) ?_
  intro W base args ds gs before hval0 hW hcnd _
  have hval : ∀ (j : Nat) t v, Try.f5.params[j]? = some t → args[j]? = some v → Value.okWide Try.prog W .any base t v := hval0
  have hW' := hW
  obtain ⟨p, q, hA0, hV, rfl, hfz, hnd⟩ := hW
  have hA : DataW.TrodAll enc Try.prog W 0 (fun _ => true) true Try.f5.params.toList args.toList ds p := hA0
  rw [Try.params5] at hA hval
  obtain ⟨v0, vs0, d0, ds0, p0, q0, hargs, rfl, rfl, h0, r0⟩ := trodAll_cons hA
  obtain ⟨v1, vs1, d1, ds1, p1, q1, rfl, rfl, rfl, h1, r1⟩ := trodAll_cons r0
  obtain ⟨rfl, rfl, rfl⟩ := trodAll_nil r1
  obtain rfl : args = #[v0, v1] := by cases args; simp_all
  obtain ⟨rfl, rfl⟩ := trodVars_none hV
  obtain ⟨a0, rfl, rfl, rfl, w0⟩ := open_int Try.underlying5 (hval 0 5 v0 rfl rfl) h0
  obtain ⟨a1, rfl, rfl, rfl, w1⟩ := open_int Try.underlying2 (hval 1 2 v1 rfl rfl) h1
  clear hA0 hval0
  simp only [List.append_nil] at hW'
  refine (walk a0 a1 w0 w1 W).mono fun e W' ⟨he, bel⟩ => ?_
  subst he
  exact ⟨_, rfl, _, _, _, [], _, [], hW', trodAll_mk1 (shut_bool Try.underlying4 _), (trodAll_cons_mk (shut_int Try.underlying5 w0) (trodAll_cons_mk (shut_int Try.underlying2 w1) trodAll_mk0)), rfl, bel.frame _, fun h => by cases h⟩

theorem over : Rows.cursorErrsRow.holds Try.pinned (OpenSpec.ofChange Rows.cursorErrsSpec) :=
  OpenClaim.holds_of_wide 5 Try.f5 rfl rfl rfl rfl rfl rfl rfl ⟨rfl, rfl, rfl, rfl, rfl⟩ rfl rfl rfl rfl rfl (by kernel_rfl) Try.func5 (by kernel_rfl)
    (of_decide_eq_true (by kernel_rfl)) (by unfold Func.isWrapper; first | (rw [if_pos (by decide +kernel)]; kernel_rfl) | (rw [if_neg (by decide +kernel)]; exact ⟨rfl, rfl⟩))
    (fun os started H enc _ => lifted os started H enc)

theorem proved : Rows.CursorErrsSaid :=
  over
end Go.Proofs.Ytnoiomaoignndaa.cursorErrs

namespace Go.Proofs.Ytnoiomaoignndaa
theorem cursorErrs_holds : Rows.CursorErrsSaid := cursorErrs.proved
#print axioms cursorErrs_holds
end Go.Proofs.Ytnoiomaoignndaa

