/-
  Proved: whatever the arguments are, carrierlaw04.WalErrs answers true and leaves its arguments as they were. No condition.
-/
import Derived.Test.YtdoegdapgbhmbaaWl
import Derived.ProofKit
import Derived.OpenShut
import Derived.ChangeOld
import Derived.Below
namespace Go.Proofs.Ytdoegdapgbhmbaa.walErrs
open Go.ChangeShapes Go.WideShapes Go.ChangeAt Go.RowKit
set_option linter.unusedVariables false

theorem own : ownKnob Try.prog.godebug = none := by kernel_rfl
theorem laidOut : laidOutB Try.prog = true := by kernel_rfl

theorem clamp_id {c : Nat} (h : c ≤ 4096) : clampN (c : Int) = c := by unfold clampN; omega

set_option maxHeartbeats 4000000 in
set_option maxRecDepth 100000 in
theorem walk (a0 a1 : Int) (w0 : (Lit.int .u8 a0).wf = true) (w1 : (Lit.int .u16 a1).wf = true) (W : World) :
    Calls Try.prog 6 #[.int .u8 a0, .int .u16 a1] W fun e w' => e = .returned (.bool true) ∧ Below W.heap.size W w' := by
  have b0 := bounds_u8 w0
  have b1 := bounds_u16 w1
  obtain ⟨n0, rfl⟩ : ∃ n0 : Nat, a0 = (n0 : Int) := ⟨a0.toNat, by omega⟩
  obtain ⟨k0, rfl⟩ : ∃ k0 : Nat, a1 = (k0 : Int) := ⟨a1.toNat, by omega⟩
  obtain ⟨c, hc⟩ : ∃ c : Nat, (n0 : Int) % 140 = (c : Int) := ⟨n0 % 140, by omega⟩
  obtain ⟨z, hz⟩ : ∃ z : Nat, (k0 : Int) % 4200 = (z : Int) := ⟨k0 % 4200, by omega⟩
  have hc140 : c < 140 := by omega
  have hz4200 : z < 4200 := by omega
  clear w0 w1 b0 b1
  go_enter Try.func6, Try.ntmps6
  go_wp2_with fail
  refine (fresh_any W).mono ?_
  rintro e w1 ⟨rfl, hk⟩
  have K1 := Lib.hid hk; clear hk
  go_wp2_with fail
  refine (new_any (c : Int) w1).mono ?_
  rintro e w2 ⟨p, gn, gs, rfl, hd, hk⟩
  rw [clamp_id (by omega)] at hd
  have D2 := Lib.hid hd; have K2 := Lib.hid (K1.out.trans hk (by simp))
  have hz2 := hk.size
  have hzW := K1.out.size
  clear hd hk
  go_wp2_with fail
  refine (open_any D2.out rfl (by decide) hz2).mono ?_
  rintro e w3 ⟨q, vr, rfl, v3, s3, ws3, hd, _, hy, _, hf, hg, hq, hrow⟩
  rw [clr_noughts] at hd hy
  obtain ⟨rfl, rfl⟩ := hy rfl
  rw [scan_noughts] at hg hrow
  have D3 := Lib.hid hd; have G3 := Lib.hid (show Lg w3 q p 0 from hg); have K3 := Lib.hid (((Fr.ofKept K2.out 0 []).later hf (by omega)).kept)
  obtain ⟨xs, ho, _⟩ := hrow
  obtain ⟨ar, cr, hvr⟩ := ownsRow_shape ho
  rw [List.length_nil] at hvr
  subst hvr
  have hz3 := hf.size
  have hqB : w1.heap.size ≤ q := by omega
  clear hd hf hg ho hq hy
  go_wp2_with (refine wpList_make w3 rfl 36 _ _ rfl (.slice (some ⟨w3.heap.size, 0, none⟩) z z) (.cells (bc (List.replicate z 0)).toArray 5) (mk_bytes z (by omega) w3) ?_)
  intro w4 Hg4 Hk4 hz4
  have O4 := Lib.hid (own_block Hg4.out (Nat.le_refl w3.heap.size) (List.length_replicate ..) (by unfold maxLen; omega))
  have D4 := Lib.hid (D3.out.frame (Fr.ofKept Hk4.out 0 []) (by simp) (by simp) (by simp))
  have G4 := Lib.hid (G3.out.frame (Fr.ofKept Hk4.out 0 []) (by simp))
  have K4 := Lib.hid (K3.out.trans Hk4.out (by simp))
  by_cases hbad : z = 0 ∨ 4000 < z
  · go_wp2_with fail
    refine (append_bad w4 _ _ _ hbad).mono ?_
    rintro e w5 ⟨rfl, rfl⟩
    have DX := D4; have GX := G4; have KX := K4
    rcases hbad with hb | hb
    · have y1 : (z : Int) < 1 := by omega
      clear hb
      skip
      go_wp2_with (first
        | (go_at_call 25; refine (lsize_any GX.out).mono ?_; rintro e w' ⟨rfl, rfl⟩)
        | (go_at_call 26; refine (room_any DX.out GX.out (by omega)).mono ?_; rintro e wR ⟨rfl, hkR⟩; have KR := Lib.hid hkR; have DR := Lib.hid (DX.out.frame (Fr.ofKept hkR 0 []) (by simp) (by simp) (by simp)); clear hkR)
        | (go_at_call 24; refine (waiting_any DR.out).mono ?_; rintro e w' ⟨rfl, rfl⟩))
      go_ret
      exact ⟨rfl, (KX.out.trans KR.out (by simp)).below (Nat.le_refl _) (by simp)⟩
    · have y1 : ¬ (z : Int) < 1 := by omega
      have y2 : (4000 : Int) < (z : Int) := by omega
      clear hb
      skip
      go_wp2_with (first
        | (go_at_call 25; refine (lsize_any GX.out).mono ?_; rintro e w' ⟨rfl, rfl⟩)
        | (go_at_call 26; refine (room_any DX.out GX.out (by omega)).mono ?_; rintro e wR ⟨rfl, hkR⟩; have KR := Lib.hid hkR; have DR := Lib.hid (DX.out.frame (Fr.ofKept hkR 0 []) (by simp) (by simp) (by simp)); clear hkR)
        | (go_at_call 24; refine (waiting_any DR.out).mono ?_; rintro e w' ⟨rfl, rfl⟩))
      go_ret
      exact ⟨rfl, (KX.out.trans KR.out (by simp)).below (Nat.le_refl _) (by simp)⟩
  · have y1 : ¬ (z : Int) < 1 := by omega
    have y2 : ¬ (4000 : Int) < (z : Int) := by omega
    by_cases hfull : 32 * c < 6 + z
    · have y3 : 32 * (c : Int) < (z : Int) + 6 := by omega
      go_wp2_with fail
      refine (append_full D4.out G4.out (by omega) _ z _ (by omega) (by omega) (by omega)).mono ?_
      rintro e w5 ⟨rfl, hk⟩
      have DX := Lib.hid (D4.out.frame (Fr.ofKept hk 0 []) (by simp) (by simp) (by simp))
      have GX := Lib.hid (G4.out.frame (Fr.ofKept hk 0 []) (by simp))
      have KX := Lib.hid (K4.out.trans hk (by simp))
      clear hk hbad hfull
      go_wp2_with (first
        | (go_at_call 25; refine (lsize_any GX.out).mono ?_; rintro e w' ⟨rfl, rfl⟩)
        | (go_at_call 26; refine (room_any DX.out GX.out (by omega)).mono ?_; rintro e wR ⟨rfl, hkR⟩; have KR := Lib.hid hkR; have DR := Lib.hid (DX.out.frame (Fr.ofKept hkR 0 []) (by simp) (by simp) (by simp)); clear hkR)
        | (go_at_call 24; refine (waiting_any DR.out).mono ?_; rintro e w' ⟨rfl, rfl⟩))
      go_ret
      exact ⟨rfl, (KX.out.trans KR.out (by simp)).below (Nat.le_refl _) (by simp)⟩
    · have y3 : ¬ 32 * (c : Int) < (z : Int) + 6 := by omega
      have hlr : (List.replicate z (0 : UInt8)).length = z := List.length_replicate ..
      have LR := Lib.hid hlr
      go_wp2_with fail
      refine (append_ok D4.out G4.out _ (List.replicate z 0) O4.out.rd (by omega) (by omega) (by omega) (by decide) (by omega) hqB).mono ?_
      rintro e w5 ⟨rfl, v5, ws5, q1, _, _, q4, q5⟩
      obtain ⟨y, hy⟩ : ∃ y, y = 6 + z := ⟨_, rfl⟩
      have e5 : 0 + (frameB (List.replicate z 0)).length = y := by rw [frameB_length, LR.out]; omega
      rw [e5] at q4
      have DX := Lib.hid q1; have GX := Lib.hid q4
      have KX := Lib.hid (((Fr.ofKept K4.out 0 []).later q5 hzW).kept)
      obtain ⟨r, hr⟩ : ∃ r, r = 32 * c - y := ⟨_, rfl⟩
      have hyr : (y : Int) + (r : Int) = 32 * (c : Int) := by omega
      have hy0 : ((y : Int) == 0) = false := by rw [beq_eq_false_iff_ne]; omega
      have hyc : y ≤ 32 * c := by omega
      have Hr := Lib.hid hr
      have ysmall : y ≤ 4206 := by omega
      clear q1 q4 q5 e5 hlr hy hr hbad hfull
      go_wp2_with (first
        | (go_at_call 25; refine (lsize_any GX.out).mono ?_; rintro e w' ⟨rfl, rfl⟩)
        | (go_at_call 26; refine (room_any DX.out GX.out hyc).mono ?_; rintro e wR ⟨rfl, hkR⟩; rw [← Hr.out]; have KR := Lib.hid hkR; clear hkR))
      go_ret
      exact ⟨rfl, (KX.out.trans KR.out (by simp)).below (Nat.le_refl _) (by simp)⟩

set_option maxRecDepth 100000 in
theorem lifted (os : Os) (started : os.Started) (H : Type) (enc : TypeId × Value → H) :
    ReturnsInHanded {} Try.checked os 6 .any (Rows.walErrsSpec.pre6 enc Try.prog Try.f6 Rows.walErrsRow.domain false) (Rows.walErrsSpec.post enc Try.prog Try.f6 false true false false) := by
  refine returnsInHanded_of_change (C := Try.checked) own started (by kernel_rfl) Try.func6
    (ChangeSpec.witness6 (enc := enc) (C := Try.checked) false ⟨#[], #[.int .u8 0, .int .u16 0], []⟩ 8 (by kernel_rfl) (by kernel_rfl) (by kernel_rfl) (by kernel_rfl)) ?_
  intro W base args ds gs before hval0 hW hcnd _
  have hval : ∀ (j : Nat) t v, Try.f6.params[j]? = some t → args[j]? = some v → Value.okWide Try.prog W .any base t v := hval0
  have hW' := hW
  obtain ⟨p, q, hA0, hV, rfl, hfz, hnd⟩ := hW
  have hA : DataW.TrodAll enc Try.prog W 0 (fun _ => true) true Try.f6.params.toList args.toList ds p := hA0
  rw [Try.params6] at hA hval
  obtain ⟨v0, vs0, d0, ds0, p0, q0, hargs, rfl, rfl, h0, r0⟩ := trodAll_cons hA
  obtain ⟨v1, vs1, d1, ds1, p1, q1, rfl, rfl, rfl, h1, r1⟩ := trodAll_cons r0
  obtain ⟨rfl, rfl, rfl⟩ := trodAll_nil r1
  obtain rfl : args = #[v0, v1] := by cases args; simp_all
  obtain ⟨rfl, rfl⟩ := trodVars_none hV
  obtain ⟨a0, rfl, rfl, rfl, w0⟩ := open_int Try.underlying5 (hval 0 5 v0 rfl rfl) h0
  obtain ⟨a1, rfl, rfl, rfl, w1⟩ := open_int Try.underlying64 (hval 1 64 v1 rfl rfl) h1
  clear hA0 hval0
  simp only [List.append_nil] at hW'
  refine (walk a0 a1 w0 w1 W).mono fun e W' ⟨he, bel⟩ => ?_
  subst he
  exact ⟨_, rfl, _, _, _, [], _, [], hW', trodAll_mk1 (shut_bool Try.underlying4 _), (trodAll_cons_mk (shut_int Try.underlying5 w0) (trodAll_cons_mk (shut_int Try.underlying64 w1) trodAll_mk0)), rfl, bel.frame _, fun h => by cases h⟩

theorem over : Rows.walErrsRow.holds Try.pinned (OpenSpec.ofChange Rows.walErrsSpec) :=
  OpenClaim.holds_of_wide 6 Try.f6 rfl rfl rfl rfl rfl rfl rfl ⟨rfl, rfl, rfl, rfl, rfl⟩ rfl rfl rfl rfl rfl (by kernel_rfl) Try.func6 (by kernel_rfl)
    (of_decide_eq_true (by kernel_rfl)) (by unfold Func.isWrapper; first | (rw [if_pos (by decide +kernel)]; kernel_rfl) | (rw [if_neg (by decide +kernel)]; exact ⟨rfl, rfl⟩))
    (fun os started H enc _ => lifted os started H enc)

theorem proved : Rows.WalErrsSaid :=
  over
end Go.Proofs.Ytdoegdapgbhmbaa.walErrs

namespace Go.Proofs.Ytdoegdapgbhmbaa
theorem walErrs_holds : Rows.WalErrsSaid := walErrs.proved
#print axioms walErrs_holds
end Go.Proofs.Ytdoegdapgbhmbaa

