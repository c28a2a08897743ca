/-
  Proved: whatever the arguments are, carrierlaw11.TickFull answers true and leaves its arguments as they were. No condition.
-/
import Derived.Test.YtodfjpjjcgdmeaaKj
import Derived.Test.YtodfjpjjcgdmeaaRows
import Derived.Test.YtodfjpjjcgdmeaaChecked
import Derived.ProofKit
import Derived.OpenShut
import Derived.ChangeOld
import Derived.Below
import Derived.Deep.LoopGhost
namespace Go.Proofs.Ytodfjpjjcgdmeaa.tickFull
open Go.ChangeShapes Go.WideShapes Go.ChangeAt Go.RowKit
set_option linter.unusedVariables false

theorem own : ownKnob Try.prog.godebug = none := by kernel_rfl
theorem laidOut : laidOutB Try.prog = true := by kernel_rfl

theorem one_trim (r : Nat) (h : r < 60) : (trimS (oneP 64) (2 + (r : Int))).length = 63 - r := by
  have : ∀ r : Fin 60, (trimS (oneP 64) (2 + ((r : Nat) : Int))).length = 63 - (r : Nat) := by decide +kernel
  exact this ⟨r, h⟩
theorem one_again (r : Nat) (h : r < 60) : addE (trimS (oneP 64) (2 + (r : Int))) 1 [] 0 = 0 := by
  have : ∀ r : Fin 60, addE (trimS (oneP 64) (2 + ((r : Nat) : Int))) 1 [] 0 = 0 := by decide +kernel
  exact this ⟨r, h⟩

set_option maxHeartbeats 4000000 in
set_option maxRecDepth 100000 in
theorem walk (a0 : Int) (w0 : (Lit.int .u8 a0).wf = true) (W : World) :
    Calls Try.prog 4 #[.int .u8 a0] W fun e w' => e = .returned (.bool true) ∧ Below W.heap.size W w' := by
  have B0 := bounds_u8 w0
  obtain ⟨r, hr⟩ : ∃ r : Nat, a0.tmod 60 = r := ⟨(a0.tmod 60).toNat, by have := Int.tmod_nonneg 60 B0.1; omega⟩
  have hr60 : r < 60 := by have := Int.tmod_lt_of_pos a0 (show (0 : Int) < 60 by omega); omega
  have T1 := Lib.hid (one_trim r hr60)
  have T2 := Lib.hid (one_again r hr60)
  clear w0 B0
  go_enter Try.func4, Try.ntmps4
  go_wp2_with fail
  refine (trims_any W).mono ?_
  rintro e w1 ⟨rfl, k1⟩
  have K1 := Lib.hid k1; clear k1
  go_wp2_with fail
  refine (ck_new K1.out).mono ?_
  rintro e w2 ⟨h, rfl, c2⟩
  have C2 := Lib.hid (show Ck W w2 h (oneP 0) from c2); clear c2
  go_wp2
  go_loopg [4, 5, 6] 64 (fun kx s4 _ _ wr => ∃ i : Nat, s4 = .int .i64 i ∧ i ≤ 64 ∧ 64 - i ≤ kx ∧ RowKit.Hid (Ck W wr h (oneP i)))
  case atStart => exact ⟨0, rfl, by omega, by omega, C2.out⟩
  case round =>
    clear C2
    obtain ⟨i, rfl, hi, hkx, HC⟩ := hrel
    by_cases hlt : i < 64
    · have x1 : (i : Int) < 64 := by omega
      have hc := ck_add HC.out (one_ok hi) 1 none 0 [] 0 (RdT.nil _) (by omega) (by simp) (by rw [oneP, lastN_seq]; omega)
      rw [(one_add hlt).1, (one_add hlt).2] at hc
      have HA := Lib.hid hc
      clear hc
      go_wp2_with fail
      refine HA.out.mono ?_
      rintro e w3 ⟨y, rfl, _, _, c3⟩
      have C3 := Lib.hid (fun o => c3.keep ((Kept.refl w3 []).alloc o)); clear c3
      obtain ⟨y0, y1, y2, y3, y4, y5⟩ := y
      simp only [Tk.cs]
      go_wp2
      go_roundg (64 - (i + 1))
      case measure => omega
      case rel => exact ⟨i + 1, by go_num, by omega, by omega, C3.out _⟩
    · have x1 : ¬ (i : Int) < 64 := by omega
      obtain rfl : i = 64 := by omega
      have hc := ck_add HC.out (one_ok hi) 1 none 0 [] 0 (RdT.nil _) (by omega) (by simp) (by rw [oneP, lastN_seq]; omega)
      rw [one_full.1, one_full.2] at hc
      have HA := Lib.hid hc
      have HOK := Lib.hid (one_ok (Nat.le_refl 64))
      clear hc HC
      go_wp2_with fail
      refine HA.out.mono ?_
      rintro e w3 ⟨y, rfl, _, _, c3⟩
      obtain ⟨y0, y1, y2, y3, y4, y5⟩ := y
      simp only [Tk.cs]
      have HT := Lib.hid (fun o => ck_trim (c3.keep ((Kept.refl w3 []).alloc o)) HOK.out (2 + (r : Int)))
      clear c3
      have m1 : IntKind.i64.wrap (r : Int) = r := by rw [IntKind.wrap_i64]; omega
      have m2 : wrap64 (2 + (r : Int)) = 2 + (r : Int) := by simp only [wrap64]; omega
      have m3 : IntKind.i64.wrap (2 + (r : Int)) = 2 + (r : Int) := by rw [IntKind.wrap_i64]; omega
      go_wp2_with fail
      refine (HT.out _).mono ?_
      rintro e w4 ⟨rfl, c4⟩
      have T3 : ((oneP 64).length : Int) - ((trimS (oneP 64) (2 + (r : Int))).length : Int) = (r : Int) + 1 := by
        have := T1.out
        have h64 : (oneP 64).length = 64 := seqP_length 64
        omega
      rw [T3]
      clear T3
      have okT := HOK.out.trim (2 + (r : Int))
      have hc := ck_add c4 okT 1 none 0 [] 0 (RdT.nil _) (by omega) (by simp) (by rw [lastN_trim, oneP, lastN_seq]; omega)
      rw [T2.out] at hc
      have HN : RowKit.Hid (addP (trimS (oneP 64) (2 + (r : Int))) 1 [] 0 = ⟨65, 1, [], 0⟩) := Lib.hid (by unfold addP; rw [T2.out, if_pos rfl, lastN_trim]; rfl)
      have HLn : RowKit.Hid ((addS (trimS (oneP 64) (2 + (r : Int))) 1 [] 0).length = 64 - r) := Lib.hid (by unfold addS; rw [T2.out, if_pos rfl]; have := T1.out; simp; omega)
      rw [HN.out] at hc
      have HA2 := Lib.hid hc
      clear hc c4 okT HT HA
      go_wp2_with fail
      refine HA2.out.mono ?_
      rintro e w5 ⟨y, rfl, hy, _, c5⟩
      obtain ⟨z0, z1, z2, z3, z4, z5⟩ := y
      simp only [Tk.pl, Pt.mk.injEq] at hy
      obtain ⟨e0, e1, e2, e3⟩ := hy
      subst z0 z1 z4 z5
      simp only [Tk.cs]
      have HL := Lib.hid (fun o => ck_len (c5.keep ((Kept.refl w5 []).alloc o)))
      rw [HLn.out] at HL
      have C5 := Lib.hid (fun o => (c5.keep ((Kept.refl w5 []).alloc o)).kept)
      clear c5
      have m4 : ((64 - r : Nat) : Int) = 63 - (r : Int) + 1 := by omega
      have m5 : wrap64 (64 - ((r : Int) + 1)) = 63 - (r : Int) := by simp only [wrap64]; omega
      have m6 : wrap64 (63 - (r : Int) + 1) = 63 - (r : Int) + 1 := by simp only [wrap64]; omega
      rw [m4] at HL
      clear m4
      go_wp2_with fail
      refine (HL.out _).mono ?_
      rintro e w7 ⟨rfl, rfl⟩
      go_wp2
      go_ret
      exact ⟨retb (show ((63 : Int) - (r : Int) + 1 == 64 - (2 + (r : Int) - 1) + 1) = true from by (rw [beq_iff_eq]; omega)), (C5.out _).below (Nat.le_refl _) (by simp)⟩

set_option maxRecDepth 100000 in
theorem lifted (os : Os) (started : os.Started) (H : Type) (enc : TypeId × Value → H) :
    ReturnsInHanded {} Try.checked os 4 .any (Rows.tickFullSpec.pre6 enc Try.prog Try.f4 Rows.tickFullRow.domain false) (Rows.tickFullSpec.post enc Try.prog Try.f4 false true false false) := by
  refine returnsInHanded_of_change (C := Try.checked) own started (by kernel_rfl) Try.func4
    (ChangeSpec.witness6 (enc := enc) (C := Try.checked) false ⟨#[], #[.int .u8 0], []⟩ 8 (by kernel_rfl) (by kernel_rfl) (by kernel_rfl) (by kernel_rfl)) ?_
  intro W base args ds gs before hval0 hW hcnd _
  have hval : ∀ (j : Nat) t v, Try.f4.params[j]? = some t → args[j]? = some v → Value.okWide Try.prog W .any base t v := hval0
  have hW' := hW
  obtain ⟨p, q, hA0, hV, rfl, hfz, hnd⟩ := hW
  have hA : DataW.TrodAll enc Try.prog W 0 (fun _ => true) true Try.f4.params.toList args.toList ds p := hA0
  rw [Try.params4] at hA hval
  obtain ⟨v0, vs0, d0, ds0, p0, q0, hargs, rfl, rfl, h0, r0⟩ := trodAll_cons hA
  obtain ⟨rfl, rfl, rfl⟩ := trodAll_nil r0
  obtain rfl : args = #[v0] := by cases args; simp_all
  obtain ⟨rfl, rfl⟩ := trodVars_none hV
  obtain ⟨a0, rfl, rfl, rfl, w0⟩ := open_int Try.underlying5 (hval 0 5 v0 rfl rfl) h0
  clear hA0 hval0
  simp only [List.append_nil] at hW'
  refine (walk a0 w0 W).mono fun e W' ⟨he, bel⟩ => ?_
  subst he
  exact ⟨_, rfl, _, _, _, [], _, [], hW', trodAll_mk1 (shut_bool Try.underlying4 _), (trodAll_cons_mk (shut_int Try.underlying5 w0) trodAll_mk0), rfl, bel.frame _, fun h => by cases h⟩

theorem over : Rows.tickFullRow.holds Try.pinned (OpenSpec.ofChange Rows.tickFullSpec) :=
  OpenClaim.holds_of_wide 4 Try.f4 rfl rfl rfl rfl rfl rfl rfl ⟨rfl, rfl, rfl, rfl, rfl⟩ rfl rfl rfl rfl rfl (by kernel_rfl) Try.func4 (by kernel_rfl)
    (of_decide_eq_true (by kernel_rfl)) (by unfold Func.isWrapper; first | (rw [if_pos (by decide +kernel)]; kernel_rfl) | (rw [if_neg (by decide +kernel)]; exact ⟨rfl, rfl⟩))
    (fun os started H enc _ => lifted os started H enc)

theorem proved : Rows.TickFullSaid :=
  over
end Go.Proofs.Ytodfjpjjcgdmeaa.tickFull

namespace Go.Proofs.Ytodfjpjjcgdmeaa
theorem tickFull_holds : Rows.TickFullSaid := tickFull.proved
#print axioms tickFull_holds
end Go.Proofs.Ytodfjpjjcgdmeaa

