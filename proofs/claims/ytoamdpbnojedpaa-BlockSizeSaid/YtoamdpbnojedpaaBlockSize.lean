/-
  Proved: whatever the arguments are, carrierlaw03.BlockSize answers true and leaves its arguments as they were. No condition.
-/
import Derived.Test.YtoamdpbnojedpaaRefRest
namespace Go.Proofs.Ytoamdpbnojedpaa.blockSize
open Go.ChangeShapes Go.WideShapes Go.ChangeAt Go.RowKit
set_option linter.unusedVariables false

theorem own : ownKnob Try.prog.godebug = none := by kernel_rfl
theorem laidOut : laidOutB Try.prog = true := by kernel_rfl

theorem laid_nil (L : List UInt8) : laid L [] = L := rfl

set_option maxHeartbeats 4000000 in
set_option maxRecDepth 100000 in
theorem walk (n : Int) (w0 : (Lit.int .i64 n).wf = true) (W : World) :
    Calls Try.prog 5 #[.int .i64 n] W fun e w' => e = .returned (.bool true) ∧ Below W.heap.size W w' := by
  have hb := bounds_i64 w0
  clear w0
  by_cases h0 : n < 0
  · have hc : clampN n = 0 := by unfold clampN; omega
    go_enter Try.func5, Try.ntmps5
    go_wp2_with fail
    refine (new_any n W).mono ?_
    rintro e w1 ⟨p, gn, gs, rfl, hd, hk⟩
    rw [hc] at hd
    have D1 := Lib.hid hd; have K1 := Lib.hid hk
    clear hd hk
    go_wp2_with fail
    refine (rnew_any n w1).mono ?_
    rintro e w2 ⟨q, vs, rfl, hr, hk⟩
    rw [hc] at hr
    have R2 := Lib.hid hr; have K2 := Lib.hid (K1.out.trans hk (by simp))
    have D2 := Lib.hid (D1.out.frame (Fr.ofKept hk 0 []) (by simp) (by simp) (by simp))
    clear hr hk
    go_wp2_with fail
    refine (read_bad D2.out (-1) (by omega)).mono ?_
    rintro e w0 ⟨rfl, rfl⟩
    go_wp2_with fail
    refine (rread_bad R2.out (-1) (by omega)).mono ?_
    rintro e w0 ⟨rfl, rfl⟩
    go_wp2_with fail
    refine (read_bad D2.out 0 (by omega)).mono ?_
    rintro e w0 ⟨rfl, rfl⟩
    go_wp2_with fail
    refine (kept_any w2).mono ?_
    rintro e w5 ⟨rfl, hk⟩
    have K5 := Lib.hid (K2.out.trans hk (by simp)); have K5a := Lib.hid hk
    have D5 := Lib.hid (D2.out.frame (Fr.ofKept hk 0 []) (by simp) (by simp) (by simp))
    clear hk
    go_wp2_with fail
    refine (size_any D5.out).mono ?_
    rintro e w0 ⟨rfl, rfl⟩
    go_wp2_with fail
    refine (alike_any _ _ [] [] w5 (Rd.nil _) (Rd.nil _) (by decide)).mono ?_
    rintro e w6 ⟨rfl, hk⟩
    have K6 := Lib.hid (K5.out.trans hk (by simp))
    have D6 := Lib.hid (D5.out.frame (Fr.ofKept hk 0 []) (by simp) (by simp) (by simp))
    clear hk
    rw [beq_self_eq_true]
    go_wp2_with fail
    refine (write_bad D6.out 0 none 0 0 (by omega)).mono ?_
    rintro e w0 ⟨rfl, rfl⟩
    go_wp2_with fail
    refine (write_bad D6.out (-1) none 0 0 (by omega)).mono ?_
    rintro e w0 ⟨rfl, rfl⟩
    go_wp2
    go_ret
    exact ⟨rfl, K6.out.below (Nat.le_refl _) (by simp)⟩
  · by_cases h1 : n = 0
    · subst h1
      have hc : clampN 0 = 0 := by unfold clampN; omega
      clear h0
      go_enter Try.func5, Try.ntmps5
      go_wp2_with fail
      refine (new_any 0 W).mono ?_
      rintro e w1 ⟨p, gn, gs, rfl, hd, hk⟩
      rw [hc] at hd
      have D1 := Lib.hid hd; have K1 := Lib.hid hk
      clear hd hk
      go_wp2_with fail
      refine (rnew_any 0 w1).mono ?_
      rintro e w2 ⟨q, vs, rfl, hr, hk⟩
      rw [hc] at hr
      have R2 := Lib.hid hr; have K2 := Lib.hid (K1.out.trans hk (by simp))
      have D2 := Lib.hid (D1.out.frame (Fr.ofKept hk 0 []) (by simp) (by simp) (by simp))
      clear hr hk
      go_wp2_with fail
      refine (read_bad D2.out (-1) (by omega)).mono ?_
      rintro e w0 ⟨rfl, rfl⟩
      go_wp2_with fail
      refine (rread_bad R2.out (-1) (by omega)).mono ?_
      rintro e w0 ⟨rfl, rfl⟩
      go_wp2_with fail
      refine (read_bad D2.out 0 (by omega)).mono ?_
      rintro e w0 ⟨rfl, rfl⟩
      go_wp2_with fail
      refine (kept_any w2).mono ?_
      rintro e w5 ⟨rfl, hk⟩
      have K5 := Lib.hid (K2.out.trans hk (by simp)); have K5a := Lib.hid hk
      have D5 := Lib.hid (D2.out.frame (Fr.ofKept hk 0 []) (by simp) (by simp) (by simp))
      clear hk
      go_wp2_with fail
      refine (size_any D5.out).mono ?_
      rintro e w0 ⟨rfl, rfl⟩
      go_wp2_with fail
      refine (alike_any _ _ [] [] w5 (Rd.nil _) (Rd.nil _) (by decide)).mono ?_
      rintro e w6 ⟨rfl, hk⟩
      have K6 := Lib.hid (K5.out.trans hk (by simp))
      have D6 := Lib.hid (D5.out.frame (Fr.ofKept hk 0 []) (by simp) (by simp) (by simp))
      clear hk
      rw [beq_self_eq_true]
      go_wp2_with fail
      refine (write_bad D6.out 0 none 0 0 (by omega)).mono ?_
      rintro e w0 ⟨rfl, rfl⟩
      go_wp2_with fail
      refine (write_bad D6.out (-1) none 0 0 (by omega)).mono ?_
      rintro e w0 ⟨rfl, rfl⟩
      go_wp2
      go_ret
      exact ⟨rfl, K6.out.below (Nat.le_refl _) (by simp)⟩
    · by_cases h2 : 4096 < n
      · have hc : clampN n = 4096 := by unfold clampN; omega
        go_enter Try.func5, Try.ntmps5
        go_wp2_with fail
        refine (new_any n W).mono ?_
        rintro e w1 ⟨p, gn, gs, rfl, hd, hk⟩
        rw [hc] at hd
        have D1 := Lib.hid hd; have K1 := Lib.hid hk
        clear hd hk
        go_wp2_with fail
        refine (rnew_any n w1).mono ?_
        rintro e w2 ⟨q, vs, rfl, hr, hk⟩
        rw [hc] at hr
        have R2 := Lib.hid hr; have K2 := Lib.hid (K1.out.trans hk (by simp))
        have D2 := Lib.hid (D1.out.frame (Fr.ofKept hk 0 []) (by simp) (by simp) (by simp))
        clear hr hk
        go_wp2_with fail
        skip
        refine (read_ok D2.out 4095 (by omega)).mono ?_
        rintro e w3 ⟨v3, rfl, ho, hk⟩
        have O3 := Lib.hid ho; have K3 := Lib.hid (K2.out.trans hk (by simp))
        obtain ⟨a3, n3, c3, hv3⟩ := Own.shape3 ho
        have D3 := Lib.hid (D2.out.frame (Fr.ofKept hk 0 []) (by simp) (by simp) (by simp))
        have R3 := Lib.hid (R2.out.frame (Fr.ofKept hk w1.heap.size []) (Nat.le_refl _) (by simp) (by simp) (by simp))
        clear ho hk
        subst hv3
        go_wp2_with fail
        skip
        refine (rread_ok R3.out (by simp) 4095 (by omega)).mono ?_
        rintro e w4 ⟨v4, rfl, ho, hk⟩
        have B4 := Lib.hid ho.rd; have O4 := Lib.hid (Own.kept O3.out hk (by simp)); have K4 := Lib.hid (K3.out.trans hk (by simp))
        obtain ⟨a4, n4, c4, hv4⟩ := ho.rd.shape3
        have D4 := Lib.hid (D3.out.frame (Fr.ofKept hk 0 []) (by simp) (by simp) (by simp))
        clear ho hk
        subst hv4
        go_wp2_with fail
        refine (read_bad D4.out 4096 (by omega)).mono ?_
        rintro e w0 ⟨rfl, rfl⟩
        go_wp2_with fail
        refine (kept_any w4).mono ?_
        rintro e w5 ⟨rfl, hk⟩
        have K5 := Lib.hid (K4.out.trans hk (by simp)); have K5a := Lib.hid hk
        have D5 := Lib.hid (D4.out.frame (Fr.ofKept hk 0 []) (by simp) (by simp) (by simp))
        clear hk
        go_wp2_with fail
        refine (size_any D5.out).mono ?_
        rintro e w0 ⟨rfl, rfl⟩
        go_wp2_with fail
        refine (alike_any _ _ _ _ w5 (O4.out.rd.kept K5a.out (by simp)) (B4.out.kept K5a.out (by simp)) (by rw [blkOf_length _ 4096 4095 D5.out.ln (by omega)]; decide)).mono ?_
        rintro e w6 ⟨rfl, hk⟩
        have K6 := Lib.hid (K5.out.trans hk (by simp))
        have D6 := Lib.hid (D5.out.frame (Fr.ofKept hk 0 []) (by simp) (by simp) (by simp))
        clear hk
        rw [laid_nil, beq_self_eq_true]
        go_wp2_with fail
        refine (write_bad D6.out 4096 none 0 0 (by omega)).mono ?_
        rintro e w0 ⟨rfl, rfl⟩
        go_wp2_with fail
        refine (write_bad D6.out (-1) none 0 0 (by omega)).mono ?_
        rintro e w0 ⟨rfl, rfl⟩
        go_wp2
        go_ret
        exact ⟨rfl, K6.out.below (Nat.le_refl _) (by simp)⟩
      · obtain ⟨c, rfl⟩ : ∃ c : Nat, n = c := ⟨n.toNat, by omega⟩
        have hc : clampN (c : Int) = c := by unfold clampN; omega
        have hc1 : 1 ≤ c := by omega
        have hc2 : c ≤ 4096 := by omega
        clear h0 h1
        go_enter Try.func5, Try.ntmps5
        go_wp2_with fail
        refine (new_any c W).mono ?_
        rintro e w1 ⟨p, gn, gs, rfl, hd, hk⟩
        rw [hc] at hd
        have D1 := Lib.hid hd; have K1 := Lib.hid hk
        clear hd hk
        go_wp2_with fail
        refine (rnew_any c w1).mono ?_
        rintro e w2 ⟨q, vs, rfl, hr, hk⟩
        rw [hc] at hr
        have R2 := Lib.hid hr; have K2 := Lib.hid (K1.out.trans hk (by simp))
        have D2 := Lib.hid (D1.out.frame (Fr.ofKept hk 0 []) (by simp) (by simp) (by simp))
        clear hr hk
        go_wp2_with fail
        rw [show ((c : Int) - 1) = ((c - 1 : Nat) : Int) from by omega]
        refine (read_ok D2.out (c - 1) (by omega)).mono ?_
        rintro e w3 ⟨v3, rfl, ho, hk⟩
        have O3 := Lib.hid ho; have K3 := Lib.hid (K2.out.trans hk (by simp))
        obtain ⟨a3, n3, c3, hv3⟩ := Own.shape3 ho
        have D3 := Lib.hid (D2.out.frame (Fr.ofKept hk 0 []) (by simp) (by simp) (by simp))
        have R3 := Lib.hid (R2.out.frame (Fr.ofKept hk w1.heap.size []) (Nat.le_refl _) (by simp) (by simp) (by simp))
        clear ho hk
        subst hv3
        go_wp2_with fail
        rw [show ((c : Int) - 1) = ((c - 1 : Nat) : Int) from by omega]
        refine (rread_ok R3.out (by simp) (c - 1) (by omega)).mono ?_
        rintro e w4 ⟨v4, rfl, ho, hk⟩
        have B4 := Lib.hid ho.rd; have O4 := Lib.hid (Own.kept O3.out hk (by simp)); have K4 := Lib.hid (K3.out.trans hk (by simp))
        obtain ⟨a4, n4, c4, hv4⟩ := ho.rd.shape3
        have D4 := Lib.hid (D3.out.frame (Fr.ofKept hk 0 []) (by simp) (by simp) (by simp))
        clear ho hk
        subst hv4
        go_wp2_with fail
        refine (read_bad D4.out c (by omega)).mono ?_
        rintro e w0 ⟨rfl, rfl⟩
        go_wp2_with fail
        refine (kept_any w4).mono ?_
        rintro e w5 ⟨rfl, hk⟩
        have K5 := Lib.hid (K4.out.trans hk (by simp)); have K5a := Lib.hid hk
        have D5 := Lib.hid (D4.out.frame (Fr.ofKept hk 0 []) (by simp) (by simp) (by simp))
        clear hk
        go_wp2_with fail
        refine (size_any D5.out).mono ?_
        rintro e w0 ⟨rfl, rfl⟩
        go_wp2_with fail
        refine (alike_any _ _ _ _ w5 (O4.out.rd.kept K5a.out (by simp)) (B4.out.kept K5a.out (by simp)) (by rw [blkOf_length _ c (c - 1) D5.out.ln (by omega)]; decide)).mono ?_
        rintro e w6 ⟨rfl, hk⟩
        have K6 := Lib.hid (K5.out.trans hk (by simp))
        have D6 := Lib.hid (D5.out.frame (Fr.ofKept hk 0 []) (by simp) (by simp) (by simp))
        clear hk
        rw [laid_nil, beq_self_eq_true]
        go_wp2_with fail
        refine (write_bad D6.out c none 0 0 (by omega)).mono ?_
        rintro e w0 ⟨rfl, rfl⟩
        go_wp2_with fail
        refine (write_bad D6.out (-1) none 0 0 (by omega)).mono ?_
        rintro e w0 ⟨rfl, rfl⟩
        go_wp2
        go_ret
        exact ⟨rfl, K6.out.below (Nat.le_refl _) (by simp)⟩

set_option maxRecDepth 100000 in
theorem lifted (os : Os) (started : os.Started) (H : Type) (enc : TypeId × Value → H) :
    ReturnsInHanded {} Try.checked os 5 .any (Rows.blockSizeSpec.pre6 enc Try.prog Try.f5 Rows.blockSizeRow.domain false) (Rows.blockSizeSpec.post enc Try.prog Try.f5 false true false false) := by
  refine returnsInHanded_of_change (C := Try.checked) own started (by kernel_rfl) Try.func5
    (ChangeSpec.witness6 (enc := enc) (C := Try.checked) false ⟨#[], #[.int .i64 0], []⟩ 8 (by kernel_rfl) (by kernel_rfl) (by kernel_rfl) (by kernel_rfl)) ?_
  intro W base args ds gs before hval0 hW hcnd _
  have hval : ∀ (j : Nat) t v, Try.f5.params[j]? = some t → args[j]? = some v → Value.okWide Try.prog W .any base t v := hval0
  have hW' := hW
  obtain ⟨p, q, hA0, hV, rfl, hfz, hnd⟩ := hW
  have hA : DataW.TrodAll enc Try.prog W 0 (fun _ => true) true Try.f5.params.toList args.toList ds p := hA0
  rw [Try.params5] at hA hval
  obtain ⟨v0, vs0, d0, ds0, p0, q0, hargs, rfl, rfl, h0, r0⟩ := trodAll_cons hA
  obtain ⟨rfl, rfl, rfl⟩ := trodAll_nil r0
  obtain rfl : args = #[v0] := by cases args; simp_all
  obtain ⟨rfl, rfl⟩ := trodVars_none hV
  obtain ⟨a0, rfl, rfl, rfl, w0⟩ := open_int Try.underlying3 (hval 0 3 v0 rfl rfl) h0
  clear hA0 hval0
  simp only [List.append_nil] at hW'
  refine (walk a0 w0 W).mono fun e W' ⟨he, bel⟩ => ?_
  subst he
  exact ⟨_, rfl, _, _, _, [], _, [], hW', trodAll_mk1 (shut_bool Try.underlying4 _), (trodAll_cons_mk (shut_int Try.underlying3 w0) trodAll_mk0), rfl, bel.frame _, fun h => by cases h⟩

theorem over : Rows.blockSizeRow.holds Try.pinned (OpenSpec.ofChange Rows.blockSizeSpec) :=
  OpenClaim.holds_of_wide 5 Try.f5 rfl rfl rfl rfl rfl rfl rfl ⟨rfl, rfl, rfl, rfl, rfl⟩ rfl rfl rfl rfl rfl (by kernel_rfl) Try.func5 (by kernel_rfl)
    (of_decide_eq_true (by kernel_rfl)) (by unfold Func.isWrapper; first | (rw [if_pos (by decide +kernel)]; kernel_rfl) | (rw [if_neg (by decide +kernel)]; exact ⟨rfl, rfl⟩))
    (fun os started H enc _ => lifted os started H enc)

theorem proved : Rows.BlockSizeSaid :=
  over
end Go.Proofs.Ytoamdpbnojedpaa.blockSize

namespace Go.Proofs.Ytoamdpbnojedpaa
theorem blockSize_holds : Rows.BlockSizeSaid := blockSize.proved
#print axioms blockSize_holds
end Go.Proofs.Ytoamdpbnojedpaa
