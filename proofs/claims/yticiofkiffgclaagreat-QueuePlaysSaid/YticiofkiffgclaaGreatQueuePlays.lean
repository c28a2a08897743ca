/-
 Proved: whatever the arguments are, carrierlaw15.QueuePlays answers true and leaves its arguments as they were. No condition.
-/
import Derived.Test.YticiofkiffgclaaGreatQu0
import Derived.Test.YticiofkiffgclaaGreatQu42
import Derived.Test.YticiofkiffgclaaGreatQu43
import Derived.Test.YticiofkiffgclaaGreatRows
import Derived.Test.YticiofkiffgclaaGreatChecked
import Derived.ProofKit
import Derived.OpenShut
import Derived.ChangeOld
import Derived.Below
set_option linter.unusedVariables false
set_option maxHeartbeats 16000000
set_option maxRecDepth 100000
namespace Go.Proofs.YticiofkiffgclaaGreat.queuePlays
open Go.ChangeShapes Go.WideShapes Go.ChangeAt Go.RowKit
theorem own : ownKnob Tryz.prog.godebug = none := by kernel_rfl
theorem laidOut : laidOutB Tryz.prog = true := by kernel_rfl
theorem bq_keep {w0 w w' : World} {a : Hk} {h m hx k : Nat} (b : Bq w0 w a h m hx k) (kp : Kept w w' []) : Bq w0 w' a h m hx k := by
 obtain ⟨st, q, O1, O2, b, z, hl⟩ := b
 exact ⟨st, q, O1, O2, b.keep kp, z, hl⟩
theorem bq_kept {w0 w : World} {a : Hk} {h m hx k : Nat} (b : Bq w0 w a h m hx k) : Kept w0 w [] := by
 obtain ⟨st, q, O1, O2, b, z, hl⟩ := b
 exact b.k0
theorem bq_like {w0 w : World} {a : Hk} {h m hx k : Nat} (b : Bq w0 w a h m hx k) (hk : k <= 1000) : Calls Tryz.prog 12 #[.pointer (some ⟨hx, 0, none⟩)] w fun e w' => e = .returned (.bool true) /\ Kept w w' [] := by
 obtain ⟨st, q, O1, O2, b, z, hl⟩ := b
 exact qlike_any b z hk
theorem walk (a0 : Option Addr) (len cap : Nat) (f : Nat -> ActQ) (W : World) (w0 : IsActsQ W W.heap.size a0 len f /\ len <= maxLen) :
  Calls Tryz.prog 3 #[.slice a0 len cap] W fun e w' => e = .returned (.bool true) /\ Below W.heap.size W w' := by
 have HA := iH w0.1
 have hlm : len <= 9223372036854775807 := by have := w0.2; unfold maxLen at this; omega
 clear w0
 by_cases hg : 120 < len
 ·have xg : (120 : Int) < (len : Int) := by omega
  go_enter Tryz.func3, Tryz.ntmps3
  go_wp2_with fail
  refine (early_any W).mono ?_
  rintro e w1 ⟨rfl, k1⟩
  have K1 := iH k1; clear k1
  go_wp2_with fail
  refine (early_any w1).mono ?_
  rintro e w2 ⟨rfl, k2⟩
  have K2 := iH (K1.out.trans k2 (by simp)); clear k2
  go_wp2
  go_ret
  exact ⟨rfl, K2.out.below (Nat.le_refl _) (by simp)⟩
 ·have xg : ¬ (120 : Int) < (len : Int) := by omega
  go_enter Tryz.func3, Tryz.ntmps3
  go_wp2_with fail
  refine (early_any W).mono ?_
  rintro e w1 ⟨rfl, k1⟩
  have K1 := iH k1; clear k1
  go_wp2_with fail
  refine (start_any w1).mono ?_
  rintro e w2 ⟨a, h, m, hx, rfl, b2⟩
  have B2 := iH b2; clear b2
  go_wp2
  go_loopw [4] (fun s5 wr => ∃ i : Nat, s5 = .int .i64 i /\ i <= len /\ Hid (Bq w1 wr a h m hx i)) (fun s5 _ => len - (intOf s5).toNat)
  case atStart => exact ⟨0, rfl, Nat.zero_le _, B2⟩
  case round =>
  obtain ⟨i, rfl, hi, BE⟩ := hrel
  have BK := iH (K1.out.trans (bq_kept BE.out) (by simp))
  by_cases hlt : i < len
  ·have x1 : (i : Int) < (len : Int) := by omega
   obtain ⟨b, o, e0, -, hf⟩ := HA.out.kept BK.out (by omega)
   subst e0
   have at0 := hf i hlt
   have D0 := do_any BE.out (show i < 1000 by omega) (f i) at0.d8 at0.i8 at0.o8 at0.wa
   obtain ⟨c0, c1, c2, c3, -, -, -, -⟩ := at0
   generalize f i = x at D0 c0 c1 c2 c3
   obtain ⟨D, U, Ky, N⟩ := x
   simp only [ActQ.cs] at D0 c0 c1 c2 c3
   have DD := iH D0
   clear D0 hf
   go_wp2_with fail
   refine DD.out.mono ?_
   rintro e w5 ⟨rfl, b5⟩
   have B5 := iH b5; clear b5 c0 c1 c2 c3
   go_wp2_with fail
   refine (bq_like B5.out (by omega)).mono ?_
   rintro e w6 ⟨rfl, k6⟩
   have B6 := iH (bq_keep B5.out k6); clear k6
   go_wp2
   go_roundw
   case rel => exact ⟨i + 1, by go_num, by omega, B6⟩
   case measure => simp [intOf]; omega
  have x1 : ¬ (i : Int) < (len : Int) := by omega
  go_wp2
  go_ret
  exact ⟨rfl, BK.out.below (Nat.le_refl _) (by simp)⟩
theorem lifted (os : Os) (started : os.Started) (H : Type) (enc : TypeId × Value -> H) :
  ReturnsInHanded {} Tryz.checked os 3 .any (Rows.queuePlaysSpec.pre6 enc Tryz.prog Tryz.f3 Rows.queuePlaysRow.domain false) (Rows.queuePlaysSpec.post enc Tryz.prog Tryz.f3 false true false false) := by
 refine returnsInHanded_of_change (C := Tryz.checked) own started (by kernel_rfl) Tryz.func3
  (ChangeSpec.witness6 (enc := enc) (C := Tryz.checked) false ⟨#[], #[.slice none 0 0], []⟩ 8 (by kernel_rfl) (by kernel_rfl) (by kernel_rfl) (by kernel_rfl)) ?_
 intro W base args ds gs before hval0 hW hcnd _
 have hval : ∀ (j : Nat) t v, Tryz.f3.params[j]? = some t -> args[j]? = some v -> Value.okWide Tryz.prog W .any base t v := hval0
 have hW' := hW
 obtain ⟨p, q, hA0, hV, rfl, hfz, hnd⟩ := hW
 have hA : DataW.TrodAll enc Tryz.prog W 0 (fun _ => true) true Tryz.f3.params.toList args.toList ds p := hA0
 rw [Tryz.params3] at hA hval
 obtain ⟨v0, vs0, d0, ds0, p0, q0, hargs, rfl, rfl, h0, r0⟩ := trodAll_cons hA
 obtain ⟨rfl, rfl, rfl⟩ := trodAll_nil r0
 obtain rfl : args = #[v0] := by cases args; simp_all
 obtain ⟨rfl, rfl⟩ := trodVars_none hV
 obtain ⟨a0, len0, cap0, rfl⟩ := okWide_slice Tryz.underlying22 (hval 0 22 v0 rfl rfl)
 have k0 := h0
 have lt0 : ∀ x ∈ p0, x.block < W.heap.size := by obtain ⟨m, hm⟩ := k0; exact DataW.trod_lt m _ _ _ hm
 obtain ⟨z0, w0⟩ : ∃ f, IsActsQ W W.heap.size a0 len0 f /\ len0 <= maxLen := by
  obtain ⟨fuel, hf⟩ := h0
  exact actsq_open (by simpa [Value.cells] using hf)
 clear hA0 hval0
 refine (walk a0 len0 cap0 z0 W w0).mono fun e W' ⟨he, bel⟩ => ?_
 subst he
 exact ⟨_, rfl, _, _, _, [], _, [], hW', trodAll_mk1 (shut_bool Tryz.underlying4 _), (trodAll_cons_mk (Below.trod laidOut (by kernel_rfl) (of_decide_eq_true (by kernel_rfl)) k0 bel lt0) trodAll_mk0), rfl, bel.frame _, fun h => by cases h⟩
theorem over : Rows.queuePlaysRow.holds Tryz.pinned (OpenSpec.ofChange Rows.queuePlaysSpec) :=
 OpenClaim.holds_of_wide 3 Tryz.f3 rfl rfl rfl rfl rfl rfl rfl ⟨rfl, rfl, rfl, rfl, rfl⟩ rfl rfl rfl rfl rfl (by kernel_rfl) Tryz.func3 (by kernel_rfl)
  (of_decide_eq_true (by kernel_rfl)) (by unfold Func.isWrapper; first | (rw [if_pos (by decide +kernel)]; kernel_rfl) | (rw [if_neg (by decide +kernel)]; exact ⟨rfl, rfl⟩))
  (fun os started H enc _ => lifted os started H enc)
theorem proved : Rows.QueuePlaysSaid :=
 over
end Go.Proofs.YticiofkiffgclaaGreat.queuePlays
namespace Go.Proofs.YticiofkiffgclaaGreat
theorem queuePlays_holds : Rows.QueuePlaysSaid := queuePlays.proved
#print axioms queuePlays_holds
end Go.Proofs.YticiofkiffgclaaGreat
