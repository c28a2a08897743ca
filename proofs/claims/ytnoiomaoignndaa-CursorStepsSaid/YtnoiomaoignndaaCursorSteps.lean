/-
  Proved: whatever the arguments are, carrierlaw13.CursorSteps answers true and leaves its arguments as they were. No condition.
-/
import Derived.Test.YtnoiomaoignndaaCun
import Derived.Test.YtnoiomaoignndaaRows
import Derived.Test.YtnoiomaoignndaaChecked
import Derived.ProofKit
import Derived.OpenShut
import Derived.ChangeOld
import Derived.Below
namespace Go.Proofs.Ytnoiomaoignndaa.cursorSteps
open Go.ChangeShapes Go.WideShapes Go.ChangeAt Go.RowKit
set_option linter.unusedVariables false

theorem own : ownKnob Try.prog.godebug = none := by kernel_rfl
theorem laidOut : laidOutB Try.prog = true := by kernel_rfl

theorem steps_all {la nx : Int} (h : la < nx) (h0 : 0 < nx) : opnE [⟨nA, la, 0⟩] nA nx = 0 ∧ opnL [⟨nA, la, 0⟩] nA nx = [⟨nA, la, nx⟩] ∧ opnE [⟨nA, la, nx⟩] nA (nx + 1) = 7 ∧ opnL [⟨nA, la, nx⟩] nA (nx + 1) = [⟨nA, la, nx⟩] ∧
    finN [⟨nA, la, nx⟩] nA = nx ∧ finE [⟨nA, la, nx⟩] nA = 0 ∧ finL [⟨nA, la, nx⟩] nA = [⟨nA, nx, 0⟩] ∧ getV [⟨nA, nx, 0⟩] nA = .tuple #[.agg #[.string nA, .int .i64 nx, .int .i64 0], .bool true] := by
  have hp : ∀ (a b : Int), plc [⟨nA, a, b⟩] nA = some 0 := fun a b => plc_hit (x := ⟨nA, a, b⟩) rfl (isN_iff.2 rfl) (fun j _ hj => absurd hj (Nat.not_lt_zero _))
  have hg : ∀ (a b : Int), getC [⟨nA, a, b⟩] nA = some ⟨nA, a, b⟩ := fun a b => getC_plc (hp a b) rfl
  refine ⟨?_, ?_, ?_, ?_, ?_, ?_, ?_, ?_⟩
  · rw [opnE, hg]
    show (if (0 : Int) < 0 then (7 : Int) else if nx ≤ la then 1 else 0) = 0
    rw [if_neg (by omega), if_neg (by omega)]
  · rw [opnL, hp, hg]
    show (if (0 : Int) < 0 ∨ nx ≤ la then _ else _) = _
    rw [if_neg (by omega)]; rfl
  · rw [opnE, hg]
    show (if 0 < nx then (7 : Int) else _) = 7
    rw [if_pos h0]
  · rw [opnL, hp, hg]
    show (if 0 < nx ∨ nx + 1 ≤ la then _ else _) = _
    rw [if_pos (.inl h0)]
  · rw [finN, hg]
  · rw [finE, hg]
    show (if nx = 0 then (7 : Int) else 0) = 0
    rw [if_neg (by omega)]
  · rw [finL, hp, hg]
    show (if nx = 0 then _ else _) = _
    rw [if_neg (by omega)]; rfl
  · rw [getV, hg]; rfl

theorem reg_one : regL [] nA 1 = [⟨nA, 1, 0⟩] := by
  have h1 : regE [] nA 1 = 0 := by rw [regE, if_neg (by decide)]; rfl
  rw [regL, if_pos h1]; rfl

set_option maxHeartbeats 4000000 in
set_option maxRecDepth 100000 in
theorem walk (a0 : Option Addr) (len cap : Nat) (z : List Int) (W : World) (w0 : IsRow .u8 W a0 len cap z) :
    Calls Try.prog 6 #[.slice a0 len cap] W fun e w' => e = .returned (.bool true) ∧ Below W.heap.size W w' := by
  obtain ⟨bs, hbl, hbr⟩ := isRow_rd w0
  have HR := Lib.hid hbr; have HL := Lib.hid hbl
  clear w0 hbl hbr
  by_cases h60 : 60 < len
  · have x0 : (60 : Int) < (len : Int) := by omega
    go_enter Try.func6, Try.ntmps6
    go_wp2_with fail
    refine (done_any W).mono ?_
    rintro e w1 ⟨rfl, k1⟩
    have K1 := Lib.hid k1; clear k1
    go_wp2_with fail
    refine (done_any w1).mono ?_
    rintro e w2 ⟨rfl, k2⟩
    have K2 := Lib.hid (K1.out.trans k2 (by simp)); clear k2
    go_wp2
    go_ret
    exact ⟨rfl, K2.out.below (Nat.le_refl _) (by simp)⟩
  · have x0 : ¬ (60 : Int) < (len : Int) := by omega
    go_enter Try.func6, Try.ntmps6
    go_wp2_with fail
    refine (done_any W).mono ?_
    rintro e w1 ⟨rfl, k1⟩
    have K1 := Lib.hid k1; clear k1
    go_wp2_with fail
    refine (cq_new K1.out).mono ?_
    rintro e w2 ⟨h, rfl, c2⟩
    have C2 := Lib.hid c2; clear c2
    go_wp2_with fail
    refine (cq_reg C2.out nA 1).mono ?_
    rintro e w3 ⟨rfl, c3⟩
    rw [reg_one] at c3
    have C3 := Lib.hid c3; clear c3
    go_wp2
    go_loopw [4, 5] (fun s4 s5 wr => ∃ (i : Nat) (la : Int), s5 = .int .i64 i ∧ s4 = .int .i64 la ∧ i ≤ len ∧ 1 ≤ la ∧ la ≤ 1 + 9 * (i : Int) ∧ Hid (Cq W wr h [⟨nA, la, 0⟩])) (fun _ s5 _ => len - (intOf s5).toNat)
    case atStart => exact ⟨0, 1, rfl, rfl, Nat.zero_le _, by omega, by omega, C3⟩
    case round =>
      obtain ⟨i, la, rfl, rfl, hi, hl1, hl2, CI⟩ := hrel
      by_cases hlt : i < len
      · have x1 : (i : Int) < (len : Int) := by omega
        obtain ⟨b, o, e0, cb, e1⟩ := (show Rd wr (.slice a0 len cap) bs from HR.out.kept CI.out.kept (by simp)).at8 (i := i) (by rw [HL.out]; exact hlt)
        subst e0
        clear e1
        obtain ⟨y, hy⟩ : ∃ y : Nat, y = (bs.getD i 0).toNat := ⟨_, rfl⟩
        have hy8 : y < 256 := by rw [hy]; exact (bs.getD i 0).toNat_lt
        rw [← hy] at cb
        obtain ⟨r, hr⟩ : ∃ r : Nat, r = y % 9 := ⟨_, rfl⟩
        have xr : (y : Int) % 9 = (r : Int) := by omega
        have hr9 : r < 9 := by omega
        obtain ⟨s1, s2, s3, s4, s5, s6, s7, s8⟩ := steps_all (la := la) (nx := la + 1 + (r : Int)) (by omega) (by omega)
        have CO := Lib.hid (cq_opn CI.out nA (la + 1 + (r : Int)))
        rw [s1, s2] at CO
        have S3 := Lib.hid s3; have S4 := Lib.hid s4; have S5 := Lib.hid s5; have S6 := Lib.hid s6; have S7 := Lib.hid s7; have S8 := Lib.hid s8
        clear s1 s2 s3 s4 s5 s6 s7 s8 hy hr
        go_wp2_with fail
        refine CO.out.mono ?_
        rintro e w4 ⟨rfl, c4⟩
        have C4 := Lib.hid c4; clear c4
        go_wp2_with fail
        refine (cq_opn C4.out nA (la + 1 + (r : Int) + 1)).mono ?_
        rintro e w5 ⟨rfl, c5⟩
        rw [S4.out] at c5
        rw [S3.out]
        have C5 := Lib.hid c5; clear c5
        go_wp2_with fail
        refine (cq_fin C5.out nA).mono ?_
        rintro e w6 ⟨rfl, c6⟩
        rw [S7.out] at c6
        rw [S5.out, S6.out]
        have C6 := Lib.hid c6; clear c6
        go_wp2_with fail
        refine (cq_get C6.out nA).mono ?_
        rintro e w7 ⟨rfl, k7⟩
        rw [S8.out]
        have C7 := Lib.hid ((C6.out.keep k7).keep ((Kept.refl w7 []).alloc (.cells #[.string nA, .int .i64 (la + 1 + (r : Int)), .int .i64 0] cuE)))
        clear k7
        go_wp2
        go_roundw
        case rel => exact ⟨i + 1, la + 1 + (r : Int), by go_num, rfl, by omega, by omega, by omega, C7⟩
        case measure => simp [intOf]; omega
      · have x1 : ¬ (i : Int) < (len : Int) := by omega
        go_wp2
        go_ret
        exact ⟨rfl, CI.out.below⟩

set_option maxRecDepth 100000 in
theorem lifted (os : Os) (started : os.Started) (H : Type) (enc : TypeId × Value → H) :
    ReturnsInHanded {} Try.checked os 6 .any (Rows.cursorStepsSpec.pre6 enc Try.prog Try.f6 Rows.cursorStepsRow.domain false) (Rows.cursorStepsSpec.post enc Try.prog Try.f6 false true false false) := by
  refine returnsInHanded_of_change (C := Try.checked) own started (by kernel_rfl) Try.func6
    (ChangeSpec.witness6 (enc := enc) (C := Try.checked) false ⟨#[], #[.slice none 0 0], []⟩ 8 (by kernel_rfl) (by kernel_rfl) (by kernel_rfl) (by kernel_rfl)) ?_
  intro W base args ds gs before hval0 hW hcnd _
  have hval : ∀ (j : Nat) t v, Try.f6.params[j]? = some t → args[j]? = some v → Value.okWide Try.prog W .any base t v := hval0
  have hW' := hW
  obtain ⟨p, q, hA0, hV, rfl, hfz, hnd⟩ := hW
  have hA : DataW.TrodAll enc Try.prog W 0 (fun _ => true) true Try.f6.params.toList args.toList ds p := hA0
  rw [Try.params6] at hA hval
  obtain ⟨v0, vs0, d0, ds0, p0, q0, hargs, rfl, rfl, h0, r0⟩ := trodAll_cons hA
  obtain ⟨rfl, rfl, rfl⟩ := trodAll_nil r0
  obtain rfl : args = #[v0] := by cases args; simp_all
  obtain ⟨rfl, rfl⟩ := trodVars_none hV
  obtain ⟨a0, len0, cap0, rfl⟩ := okWide_slice Try.underlying45 (hval 0 45 v0 rfl rfl)
  have k0 := h0
  have lt0 : ∀ x ∈ p0, x.block < W.heap.size := by obtain ⟨m, hm⟩ := k0; exact DataW.trod_lt m _ _ _ hm
  obtain ⟨z0, w0⟩ : ∃ zs, IsRow .u8 W a0 len0 cap0 zs := by
    obtain ⟨fuel, hf⟩ := h0
    rcases open_ints Try.underlying45 Try.underlying5 (by kernel_rfl) hf with ⟨hcs, _⟩ | ⟨x, l, c, zs, hcs, _, hl, hm, hz, _, hcell, hwz⟩
    · simp [Value.cells] at hcs
      obtain ⟨rfl, rfl, rfl⟩ := hcs
      exact ⟨[], .inl ⟨rfl, rfl, rfl, rfl⟩⟩
    · simp [Value.cells] at hcs
      obtain ⟨rfl, rfl, rfl⟩ := hcs
      exact ⟨zs, .inr ⟨_, rfl, hl, hm, by simpa using hz, hcell, hwz⟩⟩
  clear hA0 hval0
  refine (walk a0 len0 cap0 z0 W w0).mono fun e W' ⟨he, bel⟩ => ?_
  subst he
  exact ⟨_, rfl, _, _, _, [], _, [], hW', trodAll_mk1 (shut_bool Try.underlying4 _), (trodAll_cons_mk (Below.trod laidOut (by kernel_rfl) (of_decide_eq_true (by kernel_rfl)) k0 bel lt0) trodAll_mk0), rfl, bel.frame _, fun h => by cases h⟩

theorem over : Rows.cursorStepsRow.holds Try.pinned (OpenSpec.ofChange Rows.cursorStepsSpec) :=
  OpenClaim.holds_of_wide 6 Try.f6 rfl rfl rfl rfl rfl rfl rfl ⟨rfl, rfl, rfl, rfl, rfl⟩ rfl rfl rfl rfl rfl (by kernel_rfl) Try.func6 (by kernel_rfl)
    (of_decide_eq_true (by kernel_rfl)) (by unfold Func.isWrapper; first | (rw [if_pos (by decide +kernel)]; kernel_rfl) | (rw [if_neg (by decide +kernel)]; exact ⟨rfl, rfl⟩))
    (fun os started H enc _ => lifted os started H enc)

theorem proved : Rows.CursorStepsSaid :=
  over
end Go.Proofs.Ytnoiomaoignndaa.cursorSteps

namespace Go.Proofs.Ytnoiomaoignndaa
theorem cursorSteps_holds : Rows.CursorStepsSaid := cursorSteps.proved
#print axioms cursorSteps_holds
end Go.Proofs.Ytnoiomaoignndaa

