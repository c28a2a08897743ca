/-
  Proved: whatever the arguments are, carrierlaw07.HeapNil answers true and leaves its arguments as they were. No condition.
-/
import Derived.Test.YtpknnpdnhdcnjaaHr
import Derived.Deep.RegionHeld3
import Derived.ProofKit
import Derived.OpenShut
import Derived.ChangeOld
import Derived.Below
namespace Go.Proofs.Ytpknnpdnhdcnjaa.heapNil
open Go.ChangeShapes Go.WideShapes Go.ChangeAt Go.RowKit
set_option linter.unusedVariables false

theorem own : ownKnob Try.prog.godebug = none := by kernel_rfl
theorem laidOut : laidOutB Try.prog = true := by kernel_rfl

theorem nil_keep {w w' : World} {g : Nat} {x y z : Value} (hk : Kept w w' []) (h : (w.cell? ⟨g, 0, none⟩ = some x ∧ w.cell? ⟨g, 1, none⟩ = some y) ∧ w.cell? ⟨g, 2, none⟩ = some z) :
    (w'.cell? ⟨g, 0, none⟩ = some x ∧ w'.cell? ⟨g, 1, none⟩ = some y) ∧ w'.cell? ⟨g, 2, none⟩ = some z :=
  ⟨⟨hk.cell (p := ⟨g, 0, none⟩) (by simp) h.1.1, hk.cell (p := ⟨g, 1, none⟩) (by simp) h.1.2⟩, hk.cell (p := ⟨g, 2, none⟩) (by simp) h.2⟩

set_option maxHeartbeats 8000000 in
set_option maxRecDepth 100000 in
theorem walk (a0 a1 : Int) (w0 : (Lit.int .i64 a0).wf = true) (w1 : (Lit.int .i64 a1).wf = true) (W : World) :
    Calls Try.prog 6 #[.int .i64 a0, .int .i64 a1] W fun e w' => e = .returned (.bool true) ∧ Below W.heap.size W w' := by
  clear w0 w1
  obtain ⟨W1, hW1⟩ : ∃ W1, W1 = W.alloc (.cells #[.int .i64 0, .slice none 0 0, .int .i64 a1] 37) := ⟨_, rfl⟩
  have hk1 : Kept W W1 [] := by rw [hW1]; exact (Kept.refl W []).alloc _
  obtain ⟨gv, hgv⟩ : ∃ gv, gv = W.heap.size := ⟨_, rfl⟩
  have hb1 : W1.heap[gv]? = some (.cells #[.int .i64 0, .slice none 0 0, .int .i64 a1] 37 (0, 0)) := by rw [hW1, hgv]; exact heap_alloc_new W _
  have K1 := Lib.hid hk1; have B1 := Lib.hid hb1
  clear hk1 hb1
  go_enter Try.func6, Try.ntmps6
  go_wp2
  rw [← hW1, ← hgv]
  clear hW1 hgv
  go_loopw [5, 7, 8, 9, 10, 11] (fun hv t _ _ _ _ wr => ∃ k : Nat, t = .int .i64 k ∧ k ≤ 2 ∧ Nh wr hv ∧ Kept W1 wr []) (fun _ t _ _ _ _ _ => 2 - (intOf t).toNat)
  case atStart => exact ⟨0, rfl, by omega, .inl rfl, Kept.refl W1 []⟩
  case round =>
    obtain ⟨k, rfl, hk, hn, hkw⟩ := hrel
    have N := Lib.hid hn; have K := Lib.hid hkw
    obtain ⟨q, hq⟩ := hn.shape
    clear hn hkw
    subst hq
    by_cases hlt : k < 2
    · have x1 : (k : Int) < 2 := by omega
      obtain ⟨z0, z1, z2⟩ := three_at (K.out.heap (by simp) B1.out)
      have cg := Lib.hid (get_nil N.out 0 a1 a0 none 0 0)
      go_wp2_with fail
      refine cg.out.mono ?_
      rintro e w5 ⟨rfl, k5⟩
      clear z0 z1 z2
      obtain ⟨W5, hW5⟩ : ∃ W5, W5 = w5.alloc (.cells #[.int .i64 0, .string ⟨#[]⟩] 42) := ⟨_, rfl⟩
      have K5 := Lib.hid (show Kept wr W5 [] by rw [hW5]; exact k5.alloc _)
      have N5 := Lib.hid (N.out.keep K5.out)
      have b5 := K5.out.heap (by simp) (K.out.heap (by simp) B1.out)
      have z0 : (w5.alloc (.cells #[.int .i64 0, .string ⟨#[]⟩] 42)).cell? ⟨gv, 0, none⟩ = some (.int .i64 0) := by rw [← hW5]; exact (three_at b5).1
      have z1 : (w5.alloc (.cells #[.int .i64 0, .string ⟨#[]⟩] 42)).cell? ⟨gv, 1, none⟩ = some (.slice none 0 0) := by rw [← hW5]; exact (three_at b5).2.1
      have z2 : (w5.alloc (.cells #[.int .i64 0, .string ⟨#[]⟩] 42)).cell? ⟨gv, 2, none⟩ = some (.int .i64 a1) := by rw [← hW5]; exact (three_at b5).2.2
      have ct := Lib.hid (truncate_nil N5.out 0 a1 none 0 0)
      clear k5 b5
      go_wp2_with fail
      rw [← hW5]
      clear hW5
      refine ct.out.mono ?_
      rintro e w7 ⟨rfl, k7⟩
      have K7 := Lib.hid (K5.out.trans k7 (by simp))
      have N7 := Lib.hid (N5.out.keep k7)
      have b7 := K7.out.heap (by simp) (K.out.heap (by simp) B1.out)
      have y7 : (w7.cell? ⟨gv, 0, none⟩ = some (.int .i64 0) ∧ w7.cell? ⟨gv, 1, none⟩ = some (.slice none 0 0)) ∧ w7.cell? ⟨gv, 2, none⟩ = some (.int .i64 a1) := ⟨⟨(three_at b7).1, (three_at b7).2.1⟩, (three_at b7).2.2⟩
      have Y7 := Lib.hid y7
      clear z0 z1 z2 k7 b7 y7
      have HS : Hid (∀ V, Kept w7 V [] → Calls Try.prog 16 #[.pointer q, .agg #[.int .i64 0, .slice none 0 0, .int .i64 a1]] V fun e w' => e = .returned (.slice none 0 0) ∧ Kept w7 w' []) := Lib.hid (fun V hV => (scan_nil (N7.out.keep hV) 0 a1 none 0 0).mono (by rintro e w' ⟨rfl, k⟩; exact ⟨rfl, hV.trans k (by simp)⟩))
      have HL : Hid (∀ V, Kept w7 V [] → Calls Try.prog 24 #[.pointer q] V fun e w' => e = .returned (.int .i64 0) ∧ Kept w7 w' []) := Lib.hid (fun V hV => (len_nil (N7.out.keep hV)).mono (by rintro e w' ⟨rfl, k⟩; exact ⟨rfl, hV.trans k (by simp)⟩))
      have HV : Hid (∀ V, Kept w7 V [] → Calls Try.prog 25 #[.pointer q, .agg #[.int .i64 0, .slice none 0 0]] V fun e w' => e = .returned (.int .i64 0) ∧ Kept w7 w' []) := Lib.hid (fun V hV => (vacuum_nil (N7.out.keep hV) 0 none 0 0).mono (by rintro e w' ⟨rfl, k⟩; exact ⟨rfl, hV.trans k (by simp)⟩))
      have HI : Hid (∀ V, Kept w7 V [] → Calls Try.prog 14 #[.pointer q, .agg #[.int .i64 0, .slice none 0 0, .int .i64 a1], .agg #[.int .i64 0, .string ⟨#[]⟩]] V fun e w' => e = .returned (.int .i64 4) ∧ Kept w7 w' []) := Lib.hid (fun V hV => (insert_nil (N7.out.keep hV) 0 a1 0 ⟨#[]⟩ none 0 0).mono (by rintro e w' ⟨rfl, k⟩; exact ⟨rfl, hV.trans k (by simp)⟩))
      have HU : Hid (∀ V, Kept w7 V [] → Calls Try.prog 17 #[.pointer q, .agg #[.int .i64 0, .slice none 0 0, .int .i64 a1], .agg #[.int .i64 0, .string ⟨#[]⟩]] V fun e w' => e = .returned (.int .i64 4) ∧ Kept w7 w' []) := Lib.hid (fun V hV => (update_nil (N7.out.keep hV) 0 a1 0 ⟨#[]⟩ none 0 0).mono (by rintro e w' ⟨rfl, k⟩; exact ⟨rfl, hV.trans k (by simp)⟩))
      have HD : Hid (∀ V, Kept w7 V [] → Calls Try.prog 18 #[.pointer q, .agg #[.int .i64 0, .slice none 0 0, .int .i64 a1], .int .i64 a0] V fun e w' => e = .returned (.int .i64 4) ∧ Kept w7 w' []) := Lib.hid (fun V hV => (delete_nil (N7.out.keep hV) 0 a1 a0 none 0 0).mono (by rintro e w' ⟨rfl, k⟩; exact ⟨rfl, hV.trans k (by simp)⟩))
      have HR : Hid (∀ V, Kept w7 V [] → Calls Try.prog 23 #[.pointer q, .int .i64 a1, .slice none 0 0] V fun e w' => e = .returned (.int .i64 4) ∧ Kept w7 w' []) := Lib.hid (fun V hV => (redo_nil (N7.out.keep hV) a1 none 0 0).mono (by rintro e w' ⟨rfl, k⟩; exact ⟨rfl, hV.trans k (by simp)⟩))
      have k8 : Kept w7 w7.drew [] := (Kept.refl w7 []).drew
      have y2 := nil_keep k8 Y7.out
      go_wp2_with fail
      go_region_held3 (fun V => (V.cell? ⟨gv, 0, none⟩ = some (.int .i64 0) ∧ V.cell? ⟨gv, 1, none⟩ = some (.slice none 0 0)) ∧ V.cell? ⟨gv, 2, none⟩ = some (.int .i64 a1)) (exact y2)
          (first
            | (go_at_call 16; refine (HS.out _ ?_).mono ?_; exact k8; rintro e w8 ⟨rfl, k8⟩; have y2 := nil_keep k8 Y7.out)
            | (go_at_call 24; refine (HL.out _ ?_).mono ?_; exact k8; rintro e w8 ⟨rfl, k8⟩; have y2 := nil_keep k8 Y7.out)
            | (go_at_call 25; refine (HV.out _ ?_).mono ?_; exact k8; rintro e w8 ⟨rfl, k8⟩; have y2 := nil_keep k8 Y7.out)
            | (go_at_call 14; refine (HI.out _ ?_).mono ?_; exact k8; rintro e w8 ⟨rfl, k8⟩; have y2 := nil_keep k8 Y7.out)
            | (go_at_call 17; refine (HU.out _ ?_).mono ?_; exact k8; rintro e w8 ⟨rfl, k8⟩; have y2 := nil_keep k8 Y7.out)
            | (go_at_call 18; refine (HD.out _ ?_).mono ?_; exact k8; rintro e w8 ⟨rfl, k8⟩; have y2 := nil_keep k8 Y7.out)
            | (go_at_call 23; refine (HR.out _ ?_).mono ?_; exact k8; rintro e w8 ⟨rfl, k8⟩; have y2 := nil_keep k8 Y7.out))
      have K8 := Lib.hid (K.out.trans (K7.out.trans k8 (by simp)) (by simp))
      clear k8 y2
      go_wp2_with fail
      refine (hnew_nil _).mono ?_
      rintro e w9 ⟨hv, rfl, n9, k9⟩
      have N9 := Lib.hid n9; have K9 := Lib.hid (K8.out.trans k9 (by simp))
      clear n9 k9
      go_wp2
      go_roundw
      case rel => exact ⟨k + 1, by go_num, by omega, N9.out, K9.out⟩
      case measure => simp [intOf]; omega
    · have x1 : ¬ (k : Int) < 2 := by omega
      go_wp2_with fail
      refine (clash_any wr).mono ?_
      rintro e w9 ⟨rfl, k9⟩
      have K9 := Lib.hid ((K1.out.trans K.out (by simp)).trans k9 (by simp))
      clear k9
      go_wp2
      go_ret
      exact ⟨rfl, K9.out.below (Nat.le_refl _) (by simp)⟩

set_option maxRecDepth 100000 in
theorem lifted (os : Os) (started : os.Started) (H : Type) (enc : TypeId × Value → H) :
    ReturnsInHanded {} Try.checked os 6 .any (Rows.heapNilSpec.pre6 enc Try.prog Try.f6 Rows.heapNilRow.domain false) (Rows.heapNilSpec.post enc Try.prog Try.f6 false true false false) := by
  refine returnsInHanded_of_change (C := Try.checked) own started (by kernel_rfl) Try.func6
    (ChangeSpec.witness6 (enc := enc) (C := Try.checked) false ⟨#[], #[.int .i64 0, .int .i64 0], []⟩ 8 (by kernel_rfl) (by kernel_rfl) (by kernel_rfl) (by kernel_rfl)) ?_
  intro W base args ds gs before hval0 hW hcnd _
  have hval : ∀ (j : Nat) t v, Try.f6.params[j]? = some t → args[j]? = some v → Value.okWide Try.prog W .any base t v := hval0
  have hW' := hW
  obtain ⟨p, q, hA0, hV, rfl, hfz, hnd⟩ := hW
  have hA : DataW.TrodAll enc Try.prog W 0 (fun _ => true) true Try.f6.params.toList args.toList ds p := hA0
  rw [Try.params6] at hA hval
  obtain ⟨v0, vs0, d0, ds0, p0, q0, hargs, rfl, rfl, h0, r0⟩ := trodAll_cons hA
  obtain ⟨v1, vs1, d1, ds1, p1, q1, rfl, rfl, rfl, h1, r1⟩ := trodAll_cons r0
  obtain ⟨rfl, rfl, rfl⟩ := trodAll_nil r1
  obtain rfl : args = #[v0, v1] := by cases args; simp_all
  obtain ⟨rfl, rfl⟩ := trodVars_none hV
  obtain ⟨a0, rfl, rfl, rfl, w0⟩ := open_int Try.underlying2 (hval 0 2 v0 rfl rfl) h0
  obtain ⟨a1, rfl, rfl, rfl, w1⟩ := open_int Try.underlying2 (hval 1 2 v1 rfl rfl) h1
  clear hA0 hval0
  simp only [List.append_nil] at hW'
  refine (walk a0 a1 w0 w1 W).mono fun e W' ⟨he, bel⟩ => ?_
  subst he
  exact ⟨_, rfl, _, _, _, [], _, [], hW', trodAll_mk1 (shut_bool Try.underlying4 _), (trodAll_cons_mk (shut_int Try.underlying2 w0) (trodAll_cons_mk (shut_int Try.underlying2 w1) trodAll_mk0)), rfl, bel.frame _, fun h => by cases h⟩

theorem over : Rows.heapNilRow.holds Try.pinned (OpenSpec.ofChange Rows.heapNilSpec) :=
  OpenClaim.holds_of_wide 6 Try.f6 rfl rfl rfl rfl rfl rfl rfl ⟨rfl, rfl, rfl, rfl, rfl⟩ rfl rfl rfl rfl rfl (by kernel_rfl) Try.func6 (by kernel_rfl)
    (of_decide_eq_true (by kernel_rfl)) (by unfold Func.isWrapper; first | (rw [if_pos (by decide +kernel)]; kernel_rfl) | (rw [if_neg (by decide +kernel)]; exact ⟨rfl, rfl⟩))
    (fun os started H enc _ => lifted os started H enc)

theorem proved : Rows.HeapNilSaid :=
  over
end Go.Proofs.Ytpknnpdnhdcnjaa.heapNil

namespace Go.Proofs.Ytpknnpdnhdcnjaa
theorem heapNil_holds : Rows.HeapNilSaid := heapNil.proved
#print axioms heapNil_holds
end Go.Proofs.Ytpknnpdnhdcnjaa

