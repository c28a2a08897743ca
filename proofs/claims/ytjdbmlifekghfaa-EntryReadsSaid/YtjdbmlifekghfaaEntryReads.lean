/-
  Proved: whatever the arguments are, carrierlaw16.EntryReads answers true and leaves its arguments as they were. No condition.
-/
import Derived.Test.YtjdbmlifekghfaaEr29
import Derived.Test.YtjdbmlifekghfaaEr1
import Derived.ProofKit
import Derived.OpenShut
import Derived.ChangeOld
import Derived.Below
namespace Go.Proofs.Ytjdbmlifekghfaa.entryReads
open Go.ChangeShapes Go.WideShapes Go.ChangeAt Go.RowKit
set_option linter.unusedVariables false

theorem own : ownKnob Try.prog.godebug = none := by kernel_rfl
theorem laidOut : laidOutB Try.prog = true := by kernel_rfl

set_option maxHeartbeats 4000000 in
set_option maxRecDepth 100000 in
theorem walk (a0 : Option Addr) (len0 cap0 : Nat) (z0 : List Int) (a1 : Int) (W : World) (w0 : IsRow .u8 W a0 len0 cap0 z0) (w1 : (Lit.int .u8 a1).wf = true) :
    Calls Try.prog 4 #[.slice a0 len0 cap0, .int .u8 a1] W fun e w' => e = .returned (.bool true) ∧ Below W.heap.size W w' := by
  obtain ⟨l, rfl, hrd⟩ := isRow_rd w0
  have hb := bounds_u8 w1
  obtain ⟨q, rfl⟩ : ∃ q : Nat, a1 = q := ⟨a1.toNat, by omega⟩
  have hq : q ≤ 255 := by omega
  have R := Lib.hid hrd
  clear w0 hrd w1 hb
  by_cases h1 : (150 : Int) < (l.length : Int)
  · go_enter Try.func4, Try.ntmps4
    go_wp2_with fail
    refine (nine_any W).mono ?_
    rintro e w1 ⟨rfl, hk⟩
    have K := Lib.hid hk; clear hk
    go_wp2
    go_ret
    exact ⟨rfl, K.out.below (Nat.le_refl _) (by simp)⟩
  have hl : l.length ≤ 150 := by omega
  have HL := Lib.hid hl
  clear hl
  obtain ⟨m, hm⟩ : ∃ m, m = q % 12 := ⟨_, rfl⟩
  have hm2 : m < 12 := by omega
  have hmt : (q : Int).tmod 12 = m := by rw [Int.tmod_eq_emod_of_nonneg (by omega)]; omega
  have hw1 : IntKind.u8.wrap (1 + (m : Int)) = ((m + 1 : Nat) : Int) := by rw [show (1 + (m : Int)) = ((m + 1 : Nat) : Int) from by omega]; simp [IntKind.wrap, IntKind.bits, IntKind.signed] ; omega
  have hw2 : IntKind.u8.wrap (m : Int) = (m : Int) := by simp [IntKind.wrap, IntKind.bits, IntKind.signed] ; omega
  have hbc : ∀ V : World, Rd (V.alloc (.cells #[.int .u8 ((m + 1 : Nat) : Int)] 5)) (.slice (some ⟨V.heap.size, 0, none⟩) 1 1) [UInt8.ofNat (m + 1)] := fun V => rd_lit V _ _ _ 1 rfl (by simp [bc]; omega)
  have HBC := Lib.hid hbc
  clear hm hq hbc
  go_enter Try.func4, Try.ntmps4
  go_wp2_with fail
  refine (nine_any W).mono ?_
  rintro e w1 ⟨rfl, k1⟩
  have K1 := Lib.hid k1; clear k1
  go_wp2_with fail
  refine (reads_any _ l w1 (R.out.kept K1.out (by simp)) (by have := HL.out; omega)).mono ?_
  rintro e w2 ⟨rfl, k2⟩
  have K2 := Lib.hid (K1.out.trans k2 (by simp)); clear k2
  go_wp2_with fail
  refine (join_any _ _ [UInt8.ofNat (m + 1)] l _ (HBC.out w2) (R.out.kept (K2.out.alloc _) (by simp)) (by simp) (by have := HL.out; omega)).mono ?_
  rintro e w3 ⟨v3, rfl, o3, k3⟩
  have K3 := Lib.hid ((K2.out.alloc _).trans k3 (by simp)); have O3 := Lib.hid o3.rd; clear k3 o3
  go_wp2_with fail
  refine (reads_any _ _ w3 O3.out (by have := HL.out; simp; omega)).mono ?_
  rintro e w4 ⟨rfl, k4⟩
  have K4 := Lib.hid (K3.out.trans k4 (by simp)); clear k4
  go_wp2_with fail
  have RL6 : Rd (w4.alloc (.cells #[.int .u8 1, .int .u8 5, .int .u8 6, .int .u8 7, .int .u8 0] 5)) (.slice (some ⟨w4.heap.size, 0, none⟩) 5 5) [1, 5, 6, 7, 0] := rd_lit w4 [1, 5, 6, 7, 0] #[.int .u8 1, .int .u8 5, .int .u8 6, .int .u8 7, .int .u8 0] 5 5 rfl rfl
  refine (join_any _ _ [1, 5, 6, 7, 0] l _ RL6 (R.out.kept (K4.out.alloc _) (by simp)) (by decide) (by have := HL.out; omega)).mono ?_
  rintro e w5 ⟨v5, rfl, o5, k5⟩
  have K5 := Lib.hid ((K4.out.alloc _).trans k5 (by simp)); have O5 := Lib.hid o5.rd; clear k5 o5 RL6
  go_wp2_with fail
  refine (reads_any _ _ w5 O5.out (by have := HL.out; simp; omega)).mono ?_
  rintro e w6 ⟨rfl, k6⟩
  have K6 := Lib.hid (K5.out.trans k6 (by simp)); clear k6
  go_wp2_with fail
  have RL8 : Rd (w6.alloc (.cells #[.int .u8 8, .int .u8 5, .int .u8 6, .int .u8 7] 5)) (.slice (some ⟨w6.heap.size, 0, none⟩) 4 4) [8, 5, 6, 7] := rd_lit w6 [8, 5, 6, 7] #[.int .u8 8, .int .u8 5, .int .u8 6, .int .u8 7] 5 4 rfl rfl
  refine (join_any _ _ [8, 5, 6, 7] l _ RL8 (R.out.kept (K6.out.alloc _) (by simp)) (by decide) (by have := HL.out; omega)).mono ?_
  rintro e w7 ⟨v7, rfl, o7, k7⟩
  have K7 := Lib.hid ((K6.out.alloc _).trans k7 (by simp)); have O7 := Lib.hid o7.rd; clear k7 o7 RL8
  go_wp2_with fail
  refine (reads_any _ _ w7 O7.out (by have := HL.out; simp; omega)).mono ?_
  rintro e w8 ⟨rfl, k8⟩
  have K8 := Lib.hid (K7.out.trans k8 (by simp)); clear k8
  go_wp2
  go_ret
  exact ⟨rfl, K8.out.below (Nat.le_refl _) (by simp)⟩

set_option maxRecDepth 100000 in
theorem lifted (os : Os) (started : os.Started) (H : Type) (enc : TypeId × Value → H) :
    ReturnsInHanded {} Try.checked os 4 .any (Rows.entryReadsSpec.pre6 enc Try.prog Try.f4 Rows.entryReadsRow.domain false) (Rows.entryReadsSpec.post enc Try.prog Try.f4 false true false false) := by
  refine returnsInHanded_of_change (C := Try.checked) own started (by kernel_rfl) Try.func4
    (ChangeSpec.witness6 (enc := enc) (C := Try.checked) false ⟨#[], #[.slice none 0 0, .int .u8 0], []⟩ 8 (by kernel_rfl) (by kernel_rfl) (by kernel_rfl) (by kernel_rfl)) ?_
  intro W base args ds gs before hval0 hW hcnd _
  have hval : ∀ (j : Nat) t v, Try.f4.params[j]? = some t → args[j]? = some v → Value.okWide Try.prog W .any base t v := hval0
  have hW' := hW
  obtain ⟨p, q, hA0, hV, rfl, hfz, hnd⟩ := hW
  have hA : DataW.TrodAll enc Try.prog W 0 (fun _ => true) true Try.f4.params.toList args.toList ds p := hA0
  rw [Try.params4] at hA hval
  obtain ⟨v0, vs0, d0, ds0, p0, q0, hargs, rfl, rfl, h0, r0⟩ := trodAll_cons hA
  obtain ⟨v1, vs1, d1, ds1, p1, q1, rfl, rfl, rfl, h1, r1⟩ := trodAll_cons r0
  obtain ⟨rfl, rfl, rfl⟩ := trodAll_nil r1
  obtain rfl : args = #[v0, v1] := by cases args; simp_all
  obtain ⟨rfl, rfl⟩ := trodVars_none hV
  obtain ⟨a0, len0, cap0, rfl⟩ := okWide_slice Try.underlying22 (hval 0 22 v0 rfl rfl)
  have k0 := h0
  have lt0 : ∀ x ∈ p0, x.block < W.heap.size := by obtain ⟨m, hm⟩ := k0; exact DataW.trod_lt m _ _ _ hm
  obtain ⟨z0, w0⟩ : ∃ zs, IsRow .u8 W a0 len0 cap0 zs := by
    obtain ⟨fuel, hf⟩ := h0
    rcases open_ints Try.underlying22 Try.underlying5 (by kernel_rfl) hf with ⟨hcs, _⟩ | ⟨x, l, c, zs, hcs, _, hl, hm, hz, _, hcell, hwz⟩
    · simp [Value.cells] at hcs
      obtain ⟨rfl, rfl, rfl⟩ := hcs
      exact ⟨[], .inl ⟨rfl, rfl, rfl, rfl⟩⟩
    · simp [Value.cells] at hcs
      obtain ⟨rfl, rfl, rfl⟩ := hcs
      exact ⟨zs, .inr ⟨_, rfl, hl, hm, by simpa using hz, hcell, hwz⟩⟩
  obtain ⟨a1, rfl, rfl, rfl, w1⟩ := open_int Try.underlying5 (hval 1 5 v1 rfl rfl) h1
  clear hA0 hval0
  refine (walk a0 len0 cap0 z0 a1 W w0 w1).mono fun e W' ⟨he, bel⟩ => ?_
  subst he
  exact ⟨_, rfl, _, _, _, [], _, [], hW', trodAll_mk1 (shut_bool Try.underlying4 _), (trodAll_cons_mk (Below.trod laidOut (by kernel_rfl) (of_decide_eq_true (by kernel_rfl)) k0 bel lt0) (trodAll_cons_mk (shut_int Try.underlying5 w1) trodAll_mk0)), rfl, bel.frame _, fun h => by cases h⟩

theorem over : Rows.entryReadsRow.holds Try.pinned (OpenSpec.ofChange Rows.entryReadsSpec) :=
  OpenClaim.holds_of_wide 4 Try.f4 rfl rfl rfl rfl rfl rfl rfl ⟨rfl, rfl, rfl, rfl, rfl⟩ rfl rfl rfl rfl rfl (by kernel_rfl) Try.func4 (by kernel_rfl)
    (of_decide_eq_true (by kernel_rfl)) (by unfold Func.isWrapper; first | (rw [if_pos (by decide +kernel)]; kernel_rfl) | (rw [if_neg (by decide +kernel)]; exact ⟨rfl, rfl⟩))
    (fun os started H enc _ => lifted os started H enc)

theorem proved : Rows.EntryReadsSaid :=
  over
end Go.Proofs.Ytjdbmlifekghfaa.entryReads

namespace Go.Proofs.Ytjdbmlifekghfaa
theorem entryReads_holds : Rows.EntryReadsSaid := entryReads.proved
#print axioms entryReads_holds
end Go.Proofs.Ytjdbmlifekghfaa

