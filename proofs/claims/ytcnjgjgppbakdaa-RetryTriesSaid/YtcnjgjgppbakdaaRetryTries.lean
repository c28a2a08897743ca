/-
  Proved: whatever the arguments are, carrierlaw14.RetryTries answers true and leaves its arguments as they were. No condition.
-/
import Derived.Test.YtcnjgjgppbakdaaRti
import Derived.Test.YtcnjgjgppbakdaaRows
import Derived.Test.YtcnjgjgppbakdaaChecked
import Derived.ProofKit
import Derived.OpenShut
import Derived.ChangeOld
import Derived.Below
namespace Go.Proofs.Ytcnjgjgppbakdaa.retryTries
open Go.ChangeShapes Go.WideShapes Go.ChangeAt Go.RowKit
set_option linter.unusedVariables false

theorem own : ownKnob Try.prog.godebug = none := by kernel_rfl
theorem laidOut : laidOutB Try.prog = true := by kernel_rfl

theorem i64_mask (n m : Int) (k : Nat) (hk : k ≤ 62) (hm : m = ((2 ^ k - 1 : Nat) : Int)) : bits .and .i64 n m = n % ((2 ^ k : Nat) : Int) := by
  subst hm
  have hp : (2 : Nat) ^ k ≤ 2 ^ 62 := Nat.pow_le_pow_right (by decide) hk
  have h0 : 0 < (2 : Nat) ^ k := Nat.two_pow_pos k
  have hx : (2 : Nat) ^ k ∣ 2 ^ 64 := Nat.pow_dvd_pow 2 (by omega)
  have h1 : (BitVec.ofInt 64 ((2 ^ k - 1 : Nat) : Int)).toNat = 2 ^ k - 1 := by
    rw [BitVec.ofInt_natCast, BitVec.toNat_ofNat]
    omega
  have key : (BitVec.ofInt 64 n &&& BitVec.ofInt 64 ((2 ^ k - 1 : Nat) : Int)).toNat = (n % ((2 ^ 64 : Nat) : Int)).toNat % 2 ^ k := by
    rw [BitVec.toNat_and, BitVec.toNat_ofInt, h1, Nat.and_two_pow_sub_one_eq_mod]
  show IntKind.i64.wrap ((BitVec.ofInt 64 n &&& BitVec.ofInt 64 ((2 ^ k - 1 : Nat) : Int)).toNat : Nat) = _
  rw [key, IntKind.wrap_i64]
  have e : (((n % ((2 ^ 64 : Nat) : Int)).toNat % 2 ^ k : Nat) : Int) = n % ((2 ^ k : Nat) : Int) := by
    rw [Int.natCast_emod, Int.toNat_of_nonneg (Int.emod_nonneg _ (by decide))]
    exact Int.emod_emod_of_dvd n (by exact_mod_cast hx)
  rw [e]
  have h2 := Int.emod_nonneg n (show ((2 ^ k : Nat) : Int) ≠ 0 by omega)
  have h3 := Int.emod_lt_of_pos n (show (0 : Int) < ((2 ^ k : Nat) : Int) by omega)
  omega

def eT (n : Int) : Ev := ⟨1, 0, ⟨#[]⟩, n, 0, 0, 0, ⟨#[]⟩⟩
def xT (n : Int) : It := ⟨0, ⟨1, 0, nA, trN n, 0, 0, 0, ⟨#[]⟩⟩⟩
theorem tries_math (n : Int) : adiL [] (eT n) nA 0 = [xT n] ∧ evs (dueI [xT n] 0) = [(xT n).e] := by
  have h1 : adiE [] (eT n).id nA = 0 := by rw [adiE, if_neg (by decide)]; rfl
  refine ⟨?_, ?_⟩
  · rw [adiL, if_pos h1]; rfl
  · rw [dueI, List.filter_cons_of_pos (by simp [xT])]; rfl

set_option maxHeartbeats 4000000 in
set_option maxRecDepth 100000 in
theorem walk (a0 : Int) (w0 : (Lit.int .i64 a0).wf = true) (W : World) :
    Calls Try.prog 6 #[.int .i64 a0] W fun e w' => e = .returned (.bool true) ∧ Below W.heap.size W w' := by
  have m3 : bits .and .i64 a0 2147483647 = a0 % 2147483648 := i64_mask a0 2147483647 31 (by decide) rfl
  clear w0
  by_cases h0 : a0 < 0
  · obtain ⟨N, hN⟩ : ∃ N : Int, N = 2147483647 := ⟨_, rfl⟩
    have M1 := Lib.hid (tries_math 2147483647).1; have M2 := Lib.hid (tries_math 2147483647).2
    clear hN
    go_enter Try.func6, Try.ntmps6
    go_wp2_with fail
    refine (tq_new (Kept.refl W [])).mono ?_
    rintro e w1 ⟨h, rfl, c1⟩
    have C1 := Lib.hid c1; clear c1
    go_wp2_with fail
    refine (tq_add C1.out (eT 2147483647) (by decide) nA 0).mono ?_
    rintro e w2 ⟨rfl, c2⟩
    rw [M1.out] at c2
    have C2 := Lib.hid c2; clear c2
    go_wp2_with fail
    refine (tq_take C2.out 0).mono ?_
    rintro e w3 ⟨v3, rfl, o3, c3, _⟩
    rw [M2.out] at o3
    obtain ⟨u3, cc3, e3⟩ := o3.shape
    subst e3
    obtain ⟨g, eg, -⟩ := o3.at (i := 0) (x := (xT 2147483647).e) rfl
    subst eg
    have C3 := Lib.hid c3; have O3 := Lib.hid o3
    clear o3 c3
    simp only [List.length_cons, List.length_nil, Nat.zero_add]
    have fin : ∀ w4, Kept w3 w4 [] → w4.cell? ⟨g, 3, none⟩ = some (.int .i64 (trN 2147483647)) := fun w4 k4 => by
      obtain ⟨g', eg, hc⟩ := (O3.out.keep k4).at (i := 0) (x := (xT 2147483647).e) rfl
      simp only [Option.some.injEq, Addr.mk.injEq] at eg
      obtain ⟨rfl, _⟩ := eg
      have := (hc 3 (by decide)).1
      rw [Nat.zero_mul, Nat.zero_add] at this
      exact this.trans rfl
    have FIN := Lib.hid fin
    clear fin
    have e9 : trN 2147483647 = 2147483647 := rfl
    rw [e9] at FIN
    clear e9
    go_wp2_with fail
    refine (seven_any _).mono ?_
    rintro e w4 ⟨rfl, k4⟩
    have p3 := FIN.out w4 k4
    have C4 := Lib.hid (C3.out.keep k4)
    clear k4
    go_wp2
    go_ret
    exact ⟨rfl, C4.out.below⟩
  · obtain ⟨N, hN⟩ : ∃ N : Int, N = a0 % 2147483648 := ⟨_, rfl⟩
    rw [← hN] at m3
    have h1 : 0 ≤ N := by omega
    have h2 : N < 2147483648 := by omega
    have M1 := Lib.hid (tries_math N).1; have M2 := Lib.hid (tries_math N).2
    clear hN
    go_enter Try.func6, Try.ntmps6
    go_wp2_with fail
    refine (tq_new (Kept.refl W [])).mono ?_
    rintro e w1 ⟨h, rfl, c1⟩
    have C1 := Lib.hid c1; clear c1
    go_wp2_with fail
    refine (tq_add C1.out (eT N) (by show -9223372036854775808 ≤ N; omega) nA 0).mono ?_
    rintro e w2 ⟨rfl, c2⟩
    rw [M1.out] at c2
    have C2 := Lib.hid c2; clear c2
    go_wp2_with fail
    refine (tq_take C2.out 0).mono ?_
    rintro e w3 ⟨v3, rfl, o3, c3, _⟩
    rw [M2.out] at o3
    obtain ⟨u3, cc3, e3⟩ := o3.shape
    subst e3
    obtain ⟨g, eg, -⟩ := o3.at (i := 0) (x := (xT N).e) rfl
    subst eg
    have C3 := Lib.hid c3; have O3 := Lib.hid o3
    clear o3 c3
    simp only [List.length_cons, List.length_nil, Nat.zero_add]
    have fin : ∀ w4, Kept w3 w4 [] → w4.cell? ⟨g, 3, none⟩ = some (.int .i64 (trN N)) := fun w4 k4 => by
      obtain ⟨g', eg, hc⟩ := (O3.out.keep k4).at (i := 0) (x := (xT N).e) rfl
      simp only [Option.some.injEq, Addr.mk.injEq] at eg
      obtain ⟨rfl, _⟩ := eg
      have := (hc 3 (by decide)).1
      rw [Nat.zero_mul, Nat.zero_add] at this
      exact this.trans rfl
    have FIN := Lib.hid fin
    clear fin
    by_cases hm : N = 2147483647
    · have e9 : trN N = N := by rw [trN, if_neg (by omega)]
      rw [e9] at FIN
      clear e9
      subst hm
      go_wp2_with fail
      refine (seven_any _).mono ?_
      rintro e w4 ⟨rfl, k4⟩
      have p3 := FIN.out w4 k4
      have C4 := Lib.hid (C3.out.keep k4)
      clear k4
      go_wp2
      go_ret
      exact ⟨rfl, C4.out.below⟩
    · have e9 : trN N = N + 1 := by rw [trN, if_pos (by omega)]
      rw [e9] at FIN
      have b9 : (N == 2147483647) = false := by rw [beq_eq_false_iff_ne]; exact hm
      clear e9
      go_wp2_with fail
      refine (seven_any _).mono ?_
      rintro e w4 ⟨rfl, k4⟩
      have p3 := FIN.out w4 k4
      have C4 := Lib.hid (C3.out.keep k4)
      clear k4
      go_wp2
      go_ret
      exact ⟨rfl, C4.out.below⟩

set_option maxRecDepth 100000 in
theorem lifted (os : Os) (started : os.Started) (H : Type) (enc : TypeId × Value → H) :
    ReturnsInHanded {} Try.checked os 6 .any (Rows.retryTriesSpec.pre6 enc Try.prog Try.f6 Rows.retryTriesRow.domain false) (Rows.retryTriesSpec.post enc Try.prog Try.f6 false true false false) := by
  refine returnsInHanded_of_change (C := Try.checked) own started (by kernel_rfl) Try.func6
    (ChangeSpec.witness6 (enc := enc) (C := Try.checked) false ⟨#[], #[.int .i64 0], []⟩ 8 (by kernel_rfl) (by kernel_rfl) (by kernel_rfl) (by kernel_rfl)) ?_
  intro W base args ds gs before hval0 hW hcnd _
  have hval : ∀ (j : Nat) t v, Try.f6.params[j]? = some t → args[j]? = some v → Value.okWide Try.prog W .any base t v := hval0
  have hW' := hW
  obtain ⟨p, q, hA0, hV, rfl, hfz, hnd⟩ := hW
  have hA : DataW.TrodAll enc Try.prog W 0 (fun _ => true) true Try.f6.params.toList args.toList ds p := hA0
  rw [Try.params6] at hA hval
  obtain ⟨v0, vs0, d0, ds0, p0, q0, hargs, rfl, rfl, h0, r0⟩ := trodAll_cons hA
  obtain ⟨rfl, rfl, rfl⟩ := trodAll_nil r0
  obtain rfl : args = #[v0] := by cases args; simp_all
  obtain ⟨rfl, rfl⟩ := trodVars_none hV
  obtain ⟨a0, rfl, rfl, rfl, w0⟩ := open_int Try.underlying3 (hval 0 3 v0 rfl rfl) h0
  clear hA0 hval0
  simp only [List.append_nil] at hW'
  refine (walk a0 w0 W).mono fun e W' ⟨he, bel⟩ => ?_
  subst he
  exact ⟨_, rfl, _, _, _, [], _, [], hW', trodAll_mk1 (shut_bool Try.underlying4 _), (trodAll_cons_mk (shut_int Try.underlying3 w0) trodAll_mk0), rfl, bel.frame _, fun h => by cases h⟩

theorem over : Rows.retryTriesRow.holds Try.pinned (OpenSpec.ofChange Rows.retryTriesSpec) :=
  OpenClaim.holds_of_wide 6 Try.f6 rfl rfl rfl rfl rfl rfl rfl ⟨rfl, rfl, rfl, rfl, rfl⟩ rfl rfl rfl rfl rfl (by kernel_rfl) Try.func6 (by kernel_rfl)
    (of_decide_eq_true (by kernel_rfl)) (by unfold Func.isWrapper; first | (rw [if_pos (by decide +kernel)]; kernel_rfl) | (rw [if_neg (by decide +kernel)]; exact ⟨rfl, rfl⟩))
    (fun os started H enc _ => lifted os started H enc)

theorem proved : Rows.RetryTriesSaid :=
  over
end Go.Proofs.Ytcnjgjgppbakdaa.retryTries

namespace Go.Proofs.Ytcnjgjgppbakdaa
theorem retryTries_holds : Rows.RetryTriesSaid := retryTries.proved
#print axioms retryTries_holds
end Go.Proofs.Ytcnjgjgppbakdaa

