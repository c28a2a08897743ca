/-
  Proved: whatever the arguments are, carrierlaw14.RetryOrder answers true and leaves its arguments as they were. No condition.
-/
import Derived.Test.YtcnjgjgppbakdaaRtl
import Derived.Deep.DeepCutAuto
import Derived.Test.YtcnjgjgppbakdaaRows
import Derived.Test.YtcnjgjgppbakdaaChecked
import Derived.ProofKit
import Derived.OpenShut
import Derived.ChangeOld
import Derived.Below
namespace Go.Proofs.Ytcnjgjgppbakdaa.retryOrder
open Go.ChangeShapes Go.WideShapes Go.ChangeAt Go.RowKit
set_option linter.unusedVariables false

theorem own : ownKnob Try.prog.godebug = none := by kernel_rfl
theorem laidOut : laidOutB Try.prog = true := by kernel_rfl

set_option maxHeartbeats 8000000 in
set_option maxRecDepth 100000 in
theorem walk (a0 : Option Addr) (len cap : Nat) (f : Nat → ActD) (W : World) (w0 : IsActs W W.heap.size a0 len f ∧ len ≤ maxLen) :
    Calls Try.prog 8 #[.slice a0 len cap] W fun e w' => e = .returned (.bool true) ∧ Below W.heap.size W w' := by
  have HA := Lib.hid w0.1
  have hlm : len ≤ 9223372036854775807 := by have := w0.2; unfold maxLen at this; omega
  clear w0
  by_cases hg : 40 < len
  · have xg : (40 : Int) < (len : Int) := by omega
    go_enter Try.func8, Try.ntmps8
    go_wp2_with fail
    refine (seven_any W).mono ?_
    rintro e w1 ⟨rfl, k1⟩
    have K1 := Lib.hid k1; clear k1
    go_wp2_with fail
    refine (seven_any w1).mono ?_
    rintro e w2 ⟨rfl, k2⟩
    have K2 := Lib.hid (K1.out.trans k2 (by simp)); clear k2
    go_wp2
    go_ret
    exact ⟨rfl, K2.out.below (Nat.le_refl _) (by simp)⟩
  · have xg : ¬ (40 : Int) < (len : Int) := by omega
    go_enter Try.func8, Try.ntmps8
    go_wp2_with fail
    refine (seven_any W).mono ?_
    rintro e w1 ⟨rfl, k1⟩
    have K1 := Lib.hid k1; clear k1
    go_wp2_with fail
    refine (tq_new K1.out).mono ?_
    rintro e w2 ⟨h, rfl, c2⟩
    have C2 := Lib.hid c2; clear c2
    go_wp2
    go_loopw [4] (fun s4 wr => ∃ i : Nat, s4 = .int .i64 i ∧ i ≤ len ∧ Hid (∃ m, Tq W wr h m ∧ ∀ x ∈ m, x.a ≤ 3)) (fun s4 _ => len - (intOf s4).toNat)
    case atStart => exact ⟨0, rfl, Nat.zero_le _, Lib.hid ⟨[], C2.out, by simp⟩⟩
    case round =>
      obtain ⟨i, rfl, hi, CE⟩ := hrel
      obtain ⟨m, cm, cle⟩ := CE.out
      have C := Lib.hid cm; have CLE := Lib.hid cle
      clear cm CE cle
      by_cases hlt : i < len
      · have x1 : (i : Int) < (len : Int) := by omega
        obtain ⟨b, o, e0, -, hf⟩ := HA.out (show 0 < len by omega)
        subst e0
        obtain ⟨id, hid⟩ : ∃ id, id = (f i).id := ⟨_, rfl⟩
        obtain ⟨ow, how⟩ : ∃ ow, ow = (f i).ow := ⟨_, rfl⟩
        obtain ⟨at0, hat⟩ : ∃ at0, at0 = (f i).a := ⟨_, rfl⟩
        have i8 : id < 256 := by rw [hid]; exact (hf i hlt).i8
        have o8 : ow < 256 := by rw [how]; exact (hf i hlt).o8
        have wa := bounds_i64 (hf i hlt).wa
        rw [← hat] at wa
        obtain ⟨at1, hat1⟩ : ∃ at1, at1 = at0.tmod 4 := ⟨_, rfl⟩
        have xat : at0.tmod 4 = at1 := hat1.symm
        have AT3 := Lib.hid (show at1 ≤ 3 by have := Int.tmod_lt_of_pos at0 (show (0 : Int) < 4 by decide); omega)
        have CX := Lib.hid (fun V (hV : Kept W V []) => (show V.cell? ⟨b, o + i * 5 + 1, none⟩ = some (.int .u8 id) ∧ V.cell? ⟨b, o + i * 5 + 2, none⟩ = some (.int .u8 ow) ∧ V.cell? ⟨b, o + i * 5 + 3, none⟩ = some (.int .i64 at0) from by
          rw [hid, how, hat]
          have := (hf i hlt).kept hV (by simp)
          exact ⟨this.c1, this.c2, this.c3⟩))
        obtain ⟨idm, hidm⟩ : ∃ idm : Nat, (id : Int) % 9 = (idm : Int) := ⟨id % 9, by omega⟩
        have hidmt : (id : Int).tmod 9 = (idm : Int) := by rw [Int.tmod_eq_emod_of_nonneg (by omega)]; exact hidm
        have hidm9 : idm < 9 := by omega
        have m1 : IntKind.i64.wrap (idm : Int) = (idm : Int) := by rw [IntKind.wrap_i64]; omega
        clear hf hid how hat hat1
        go_upto_region 7 with fail
        refine wp_region_held_drew (S := fun Z => Kept W Z []) (by kernel_rfl) C.out.kept.drew (fun hHeld => ?_)
        refine wpAnyH_take (i := 0) (oi := _) (v := .pointer (some ⟨h, 0, none⟩)) rfl (by kernel_rfl) (by kernel_rfl) (by kernel_rfl) (fun _ _ _ h => h) (Or.inl ⟨by rfl, fun V hV => by go_simp⟩) hHeld ?_
        change wpAnyH _ _ _ _ _ _ _ (Act.put _ (some 25) _) _
        simp only [Act.put, List.setIfInBounds_toArray, List.set_cons_zero, List.set_cons_succ]
        refine wpAnyH_take (i := 1) (oi := _) (v := .slice (some ⟨b, o, none⟩) len cap) rfl (by kernel_rfl) (by kernel_rfl) (by kernel_rfl) (fun _ _ _ h => h) (Or.inl ⟨by rfl, fun V hV => by go_simp⟩) hHeld ?_
        change wpAnyH _ _ _ _ _ _ _ (Act.put _ (some 26) _) _
        simp only [Act.put, List.setIfInBounds_toArray, List.set_cons_zero, List.set_cons_succ]
        refine wpAnyH_take (i := 2) (oi := _) (v := .int .i64 i) rfl (by kernel_rfl) (by kernel_rfl) (by kernel_rfl) (fun _ _ _ h => h) (Or.inl ⟨by rfl, fun V hV => by go_simp⟩) hHeld ?_
        change wpAnyH _ _ _ _ _ _ _ (Act.put _ (some 27) _) _
        simp only [Act.put, List.setIfInBounds_toArray, List.set_cons_zero, List.set_cons_succ]
        refine wpAnyH_take (i := 3) (oi := _) (v := .pointer (some ⟨b, o + i * 5, none⟩)) rfl (by kernel_rfl) (by kernel_rfl) (by kernel_rfl) (fun _ _ _ h => h) (Or.inl ⟨by rfl, fun V hV => by go_simp⟩) hHeld ?_
        change wpAnyH _ _ _ _ _ _ _ (Act.put _ (some 28) _) _
        simp only [Act.put, List.setIfInBounds_toArray, List.set_cons_zero, List.set_cons_succ]
        refine wpAnyH_take (i := 4) (oi := _) (v := .pointer (some ⟨b, o + i * 5 + 1, none⟩)) rfl (by kernel_rfl) (by kernel_rfl) (by kernel_rfl) (fun _ _ _ h => h) (Or.inl ⟨by rfl, fun V hV => by go_simp⟩) hHeld ?_
        change wpAnyH _ _ _ _ _ _ _ (Act.put _ (some 29) _) _
        simp only [Act.put, List.setIfInBounds_toArray, List.set_cons_zero, List.set_cons_succ]
        refine wpAnyH_take (i := 5) (oi := _) (v := .int .u8 id) rfl (by kernel_rfl) (by kernel_rfl) (by kernel_rfl) (fun _ _ _ h => h) (Or.inl ⟨by rfl, fun V hV => by (obtain ⟨c1, c2, c3⟩ := CX.out V hV; clear hV; go_simp)⟩) hHeld ?_
        change wpAnyH _ _ _ _ _ _ _ (Act.put _ (some 30) _) _
        simp only [Act.put, List.setIfInBounds_toArray, List.set_cons_zero, List.set_cons_succ]
        refine wpAnyH_take (i := 6) (oi := _) (v := .int .u8 idm) rfl (by kernel_rfl) (by kernel_rfl) (by kernel_rfl) (fun _ _ _ h => h) (Or.inl ⟨by rfl, fun V hV => by go_simp⟩) hHeld ?_
        change wpAnyH _ _ _ _ _ _ _ (Act.put _ (some 31) _) _
        simp only [Act.put, List.setIfInBounds_toArray, List.set_cons_zero, List.set_cons_succ]
        refine wpAnyH_take (i := 7) (oi := _) (v := .int .i64 idm) rfl (by kernel_rfl) (by kernel_rfl) (by kernel_rfl) (fun _ _ _ h => h) (Or.inl ⟨by rfl, fun V hV => by go_simp⟩) hHeld ?_
        change wpAnyH _ _ _ _ _ _ _ (Act.put _ (some 32) _) _
        simp only [Act.put, List.setIfInBounds_toArray, List.set_cons_zero, List.set_cons_succ]
        refine wpAnyH_take (i := 8) (oi := _) (v := .agg #[.int .i64 idm, .int .i64 0, .string ⟨#[]⟩, .int .i64 0, .int .i64 0, .int .u8 0, .int .i64 0, .string ⟨#[]⟩]) rfl (by kernel_rfl) (by kernel_rfl) (by kernel_rfl) (fun _ _ _ h => h) (Or.inl ⟨by rfl, fun V hV => by go_simp⟩) hHeld ?_
        change wpAnyH _ _ _ _ _ _ _ (Act.put _ (some 33) _) _
        simp only [Act.put, List.setIfInBounds_toArray, List.set_cons_zero, List.set_cons_succ]
        refine wpAnyH_take (i := 9) (oi := _) (v := .slice (some ⟨b, o, none⟩) len cap) rfl (by kernel_rfl) (by kernel_rfl) (by kernel_rfl) (fun _ _ _ h => h) (Or.inl ⟨by rfl, fun V hV => by go_simp⟩) hHeld ?_
        change wpAnyH _ _ _ _ _ _ _ (Act.put _ (some 34) _) _
        simp only [Act.put, List.setIfInBounds_toArray, List.set_cons_zero, List.set_cons_succ]
        refine wpAnyH_take (i := 10) (oi := _) (v := .int .i64 i) rfl (by kernel_rfl) (by kernel_rfl) (by kernel_rfl) (fun _ _ _ h => h) (Or.inl ⟨by rfl, fun V hV => by go_simp⟩) hHeld ?_
        change wpAnyH _ _ _ _ _ _ _ (Act.put _ (some 35) _) _
        simp only [Act.put, List.setIfInBounds_toArray, List.set_cons_zero, List.set_cons_succ]
        refine wpAnyH_take (i := 11) (oi := _) (v := .pointer (some ⟨b, o + i * 5, none⟩)) rfl (by kernel_rfl) (by kernel_rfl) (by kernel_rfl) (fun _ _ _ h => h) (Or.inl ⟨by rfl, fun V hV => by go_simp⟩) hHeld ?_
        change wpAnyH _ _ _ _ _ _ _ (Act.put _ (some 36) _) _
        simp only [Act.put, List.setIfInBounds_toArray, List.set_cons_zero, List.set_cons_succ]
        refine wpAnyH_take (i := 12) (oi := _) (v := .pointer (some ⟨b, o + i * 5 + 2, none⟩)) rfl (by kernel_rfl) (by kernel_rfl) (by kernel_rfl) (fun _ _ _ h => h) (Or.inl ⟨by rfl, fun V hV => by go_simp⟩) hHeld ?_
        change wpAnyH _ _ _ _ _ _ _ (Act.put _ (some 37) _) _
        simp only [Act.put, List.setIfInBounds_toArray, List.set_cons_zero, List.set_cons_succ]
        refine wpAnyH_take (i := 13) (oi := _) (v := .int .u8 ow) rfl (by kernel_rfl) (by kernel_rfl) (by kernel_rfl) (fun _ _ _ h => h) (Or.inl ⟨by rfl, fun V hV => by (obtain ⟨c1, c2, c3⟩ := CX.out V hV; clear hV; go_simp)⟩) hHeld ?_
        change wpAnyH _ _ _ _ _ _ _ (Act.put _ (some 38) _) _
        simp only [Act.put, List.setIfInBounds_toArray, List.set_cons_zero, List.set_cons_succ]
        refine wpAnyH_take (i := 15) (oi := _) (v := .slice (some ⟨b, o, none⟩) len cap) rfl (by kernel_rfl) (by kernel_rfl) (by kernel_rfl) (fun _ _ _ h => h) (Or.inl ⟨by rfl, fun V hV => by go_simp⟩) hHeld ?_
        change wpAnyH _ _ _ _ _ _ _ (Act.put _ (some 40) _) _
        simp only [Act.put, List.setIfInBounds_toArray, List.set_cons_zero, List.set_cons_succ]
        refine wpAnyH_take (i := 16) (oi := _) (v := .int .i64 i) rfl (by kernel_rfl) (by kernel_rfl) (by kernel_rfl) (fun _ _ _ h => h) (Or.inl ⟨by rfl, fun V hV => by go_simp⟩) hHeld ?_
        change wpAnyH _ _ _ _ _ _ _ (Act.put _ (some 41) _) _
        simp only [Act.put, List.setIfInBounds_toArray, List.set_cons_zero, List.set_cons_succ]
        refine wpAnyH_take (i := 17) (oi := _) (v := .pointer (some ⟨b, o + i * 5, none⟩)) rfl (by kernel_rfl) (by kernel_rfl) (by kernel_rfl) (fun _ _ _ h => h) (Or.inl ⟨by rfl, fun V hV => by go_simp⟩) hHeld ?_
        change wpAnyH _ _ _ _ _ _ _ (Act.put _ (some 42) _) _
        simp only [Act.put, List.setIfInBounds_toArray, List.set_cons_zero, List.set_cons_succ]
        refine wpAnyH_take (i := 18) (oi := _) (v := .pointer (some ⟨b, o + i * 5 + 3, none⟩)) rfl (by kernel_rfl) (by kernel_rfl) (by kernel_rfl) (fun _ _ _ h => h) (Or.inl ⟨by rfl, fun V hV => by go_simp⟩) hHeld ?_
        change wpAnyH _ _ _ _ _ _ _ (Act.put _ (some 43) _) _
        simp only [Act.put, List.setIfInBounds_toArray, List.set_cons_zero, List.set_cons_succ]
        refine wpAnyH_take (i := 19) (oi := _) (v := .int .i64 at0) rfl (by kernel_rfl) (by kernel_rfl) (by kernel_rfl) (fun _ _ _ h => h) (Or.inl ⟨by rfl, fun V hV => by (obtain ⟨c1, c2, c3⟩ := CX.out V hV; clear hV; go_simp)⟩) hHeld ?_
        change wpAnyH _ _ _ _ _ _ _ (Act.put _ (some 44) _) _
        simp only [Act.put, List.setIfInBounds_toArray, List.set_cons_zero, List.set_cons_succ]
        refine wpAnyH_take (i := 20) (oi := _) (v := .int .i64 at1) rfl (by kernel_rfl) (by kernel_rfl) (by kernel_rfl) (fun _ _ _ h => h) (Or.inl ⟨by rfl, fun V hV => by go_simp⟩) hHeld ?_
        change wpAnyH _ _ _ _ _ _ _ (Act.put _ (some 45) _) _
        simp only [Act.put, List.setIfInBounds_toArray, List.set_cons_zero, List.set_cons_succ]
        refine wpAnyH_ready (rs := [14]) (by kernel_rfl) (by simp) ?_
        refine AllReadyH.cons (o := _) rfl (fun K hK => ?_) AllReadyH.nil
        go_simp
        go_at_call 12
        refine (owner_any ow o8 _).mono ?_
        rintro e w2 ⟨rfl, k2⟩
        have k2 := (Kept.refl wr []).drew.trans k2 (by simp)
        go_wp2_with fail
        refine hK.out _ _ (C.out.kept.trans k2 (by simp)) (fun hHeld => ?_)
        clear hK K
        refine wpAnyH_ready (rs := [21]) (by kernel_rfl) (by simp) ?_
        refine AllReadyH.cons (o := _) rfl (fun K hK => ?_) AllReadyH.nil
        go_simp
        go_at_call 11
        refine (tq_add (C.out.keep k2) (evI idm) (evI_tr _) (ownN ow) at1).mono ?_
        rintro e w3 ⟨rfl, c3⟩
        have C3 := Lib.hid (show ∃ m, Tq W w3 h m ∧ ∀ x ∈ m, x.a ≤ 3 from ⟨_, c3, adiL_all CLE.out AT3.out⟩)
        have k3 := c3.kept
        clear c3 k2
        go_wp2_with fail
        refine hK.out _ _ k3 (fun hHeld => ?_)
        clear hK K
        refine wpAnyH_done (by kernel_rfl) ?_ _
        clear hHeld k3
        go_wp2
        go_roundw
        case rel => exact ⟨i + 1, by go_num, by omega, C3⟩
        case measure => simp [intOf]; omega
      · have x1 : ¬ (i : Int) < (len : Int) := by omega
        obtain ⟨wo, hwo⟩ : ∃ wo, wo = wr := ⟨_, rfl⟩
        subst hwo
        obtain ⟨ok, V, a, k0⟩ := C.out
        have few := ok.few
        have DU3 := Lib.hid (show dueI m 3 = m by rw [dueI, List.filter_eq_self]; intro x hx; simpa using CLE.out x hx)
        have A := Lib.hid a; have OK := Lib.hid ok; have K0 := Lib.hid k0
        clear a ok k0
        go_wp2_with fail
        refine (tall_any A.out (by omega)).mono ?_
        rintro e w3 ⟨v3, rfl, o3, k3⟩
        obtain ⟨N, hN⟩ : ∃ N, N = m.length := ⟨_, rfl⟩
        have HN := Lib.hid hN
        obtain ⟨u3, q3, e3⟩ := o3.shape
        rw [← hN] at e3
        subst e3
        have hNl : N ≤ 16 := by omega
        have K3 := Lib.hid k3; have O3 := Lib.hid o3
        clear k3 o3 hN
        go_wp2
        go_loopw [6, 7, 8] (fun s6 _ _ wr => ∃ j : Nat, s6 = .int .i64 (j + 1 : Nat) ∧ j ≤ N ∧ Hid (Kept w3 wr [])) (fun s6 _ _ _ => N + 1 - (intOf s6).toNat)
        case atStart => exact ⟨0, rfl, Nat.zero_le _, Lib.hid (Kept.refl _ _)⟩
        case round =>
          obtain ⟨j, rfl, hj, HK⟩ := hrel
          by_cases hjl : j + 1 < N
          · have x2 : ((j + 1 : Nat) : Int) < (N : Int) := by omega
            have x2' : (j : Int) + 1 < (N : Int) := by omega
            obtain ⟨a, ha⟩ : ∃ r, m[j]? = some r := ⟨_, List.getElem?_eq_getElem (by rw [← HN.out]; omega)⟩
            obtain ⟨b, hb⟩ : ∃ r, m[j + 1]? = some r := ⟨_, List.getElem?_eq_getElem (by rw [← HN.out]; exact hjl)⟩
            have hord := ltI_iff.1 (rise_le OK.out.rise (Nat.lt_succ_self j) ha hb)
            obtain ⟨g, hg, _⟩ := O3.out.at ha
            subst hg
            have CA := Lib.hid (fun V (hV : Kept w3 V []) => (cellsO_r (O3.out.keep hV) ha).1)
            have CB := Lib.hid (fun V (hV : Kept w3 V []) => (cellsO_r (O3.out.keep hV) hb).1)
            obtain ⟨a0, ⟨a1, a2, a3, a4, a5, a6, a7, a8⟩⟩ := a
            obtain ⟨b0, ⟨b1, b2, b3, b4, b5, b6, b7, b8⟩⟩ := b
            simp only [ltN] at hord CA CB
            have HO := Lib.hid hord
            clear ha hb hord
            go_upto_region 12 with fail
            go_cut [7, 8] (fun s7 s8 wx => ∃ pa pb, s7 = .pointer (some ⟨pa, 0, none⟩) ∧ s8 = .pointer (some ⟨pb, 0, none⟩) ∧ RowKit.Hid (Kept w3 wx []) ∧ wx.heap[pa]? = some (.cells #[.int .i64 a0, .int .i64 a1, .int .i64 a2, .string a3, .int .i64 a4, .int .i64 a5, .int .u8 a6, .int .i64 a7, .string a8] rtE (0, 0)) ∧ wx.heap[pb]? = some (.cells #[.int .i64 b0, .int .i64 b1, .int .i64 b2, .string b3, .int .i64 b4, .int .i64 b5, .int .u8 b6, .int .i64 b7, .string b8] rtE (0, 0)))
            case first =>
              have mj : IntKind.i64.wrap (((j : Int) + 1) - 1) = (j : Int) := by rw [IntKind.wrap_i64]; omega
              have mj2 : (j : Int) + 1 - 1 = (j : Int) := by omega
              have mj3 : (j : Int) < (N : Int) := by omega
              have mj4 : ¬ (j : Int) + 1 < 0 := by omega
              have mj5 : IntKind.i64.wrap (j : Int) = (j : Int) := by rw [IntKind.wrap_i64]; omega
              refine wp_region_held_drew (S := fun V => Kept w3 V []) (by kernel_rfl) HK.out.drew (fun hHeld => ?_)
              refine wpAnyH_take (i := 0) (oi := _) (v := .slice (some ⟨g, 0, none⟩) N q3) rfl (by kernel_rfl) (by kernel_rfl) (by kernel_rfl) (fun _ _ _ h => h) (Or.inl ⟨by rfl, fun V hV => by go_simp⟩) hHeld ?_
              change wpAnyH _ _ _ _ _ _ _ (Act.put _ (some 55) _) _
              simp only [Act.put, List.setIfInBounds_toArray, List.set_cons_zero, List.set_cons_succ]
              refine wpAnyH_take (i := 1) (oi := _) (v := .int .i64 ((j : Int) + 1)) rfl (by kernel_rfl) (by kernel_rfl) (by kernel_rfl) (fun _ _ _ h => h) (Or.inl ⟨by rfl, fun V hV => by go_simp⟩) hHeld ?_
              change wpAnyH _ _ _ _ _ _ _ (Act.put _ (some 56) _) _
              simp only [Act.put, List.setIfInBounds_toArray, List.set_cons_zero, List.set_cons_succ]
              refine wpAnyH_take (i := 2) (oi := _) (v := .int .i64 j) rfl (by kernel_rfl) (by kernel_rfl) (by kernel_rfl) (fun _ _ _ h => h) (Or.inl ⟨by rfl, fun V hV => by go_simp⟩) hHeld ?_
              change wpAnyH _ _ _ _ _ _ _ (Act.put _ (some 57) _) _
              simp only [Act.put, List.setIfInBounds_toArray, List.set_cons_zero, List.set_cons_succ]
              refine wpAnyH_take (i := 3) (oi := _) (v := .pointer (some ⟨g, j * 9, none⟩)) rfl (by kernel_rfl) (by kernel_rfl) (by kernel_rfl) (fun _ _ _ h => h) (Or.inl ⟨by rfl, fun V hV => by go_simp⟩) hHeld ?_
              change wpAnyH _ _ _ _ _ _ _ (Act.put _ (some 58) _) _
              simp only [Act.put, List.setIfInBounds_toArray, List.set_cons_zero, List.set_cons_succ]
              refine wpAnyH_take (i := 4) (oi := _) (v := .agg #[.int .i64 a0, .int .i64 a1, .int .i64 a2, .string a3, .int .i64 a4, .int .i64 a5, .int .u8 a6, .int .i64 a7, .string a8]) rfl (by kernel_rfl) (by kernel_rfl) (by kernel_rfl) (fun _ _ _ h => h) (Or.inl ⟨by rfl, fun V hV => by (obtain ⟨q0, q1, q2, q3, q4, q5, q6, q7, q8⟩ := CA.out V hV; clear hV; go_simp)⟩) hHeld ?_
              change wpAnyH _ _ _ _ _ _ _ (Act.put _ (some 59) _) _
              simp only [Act.put, List.setIfInBounds_toArray, List.set_cons_zero, List.set_cons_succ]
              refine wpAnyH_take (i := 5) (oi := _) (v := .slice (some ⟨g, 0, none⟩) N q3) rfl (by kernel_rfl) (by kernel_rfl) (by kernel_rfl) (fun _ _ _ h => h) (Or.inl ⟨by rfl, fun V hV => by go_simp⟩) hHeld ?_
              change wpAnyH _ _ _ _ _ _ _ (Act.put _ (some 60) _) _
              simp only [Act.put, List.setIfInBounds_toArray, List.set_cons_zero, List.set_cons_succ]
              refine wpAnyH_take (i := 6) (oi := _) (v := .int .i64 ((j : Int) + 1)) rfl (by kernel_rfl) (by kernel_rfl) (by kernel_rfl) (fun _ _ _ h => h) (Or.inl ⟨by rfl, fun V hV => by go_simp⟩) hHeld ?_
              change wpAnyH _ _ _ _ _ _ _ (Act.put _ (some 61) _) _
              simp only [Act.put, List.setIfInBounds_toArray, List.set_cons_zero, List.set_cons_succ]
              refine wpAnyH_take (i := 7) (oi := _) (v := .pointer (some ⟨g, (j + 1) * 9, none⟩)) rfl (by kernel_rfl) (by kernel_rfl) (by kernel_rfl) (fun _ _ _ h => h) (Or.inl ⟨by rfl, fun V hV => by go_simp⟩) hHeld ?_
              change wpAnyH _ _ _ _ _ _ _ (Act.put _ (some 62) _) _
              simp only [Act.put, List.setIfInBounds_toArray, List.set_cons_zero, List.set_cons_succ]
              refine wpAnyH_take (i := 8) (oi := _) (v := .agg #[.int .i64 b0, .int .i64 b1, .int .i64 b2, .string b3, .int .i64 b4, .int .i64 b5, .int .u8 b6, .int .i64 b7, .string b8]) rfl (by kernel_rfl) (by kernel_rfl) (by kernel_rfl) (fun _ _ _ h => h) (Or.inl ⟨by rfl, fun V hV => by (obtain ⟨q0, q1, q2, q3, q4, q5, q6, q7, q8⟩ := CB.out V hV; clear hV; go_simp)⟩) hHeld ?_
              change wpAnyH _ _ _ _ _ _ _ (Act.put _ (some 63) _) _
              simp only [Act.put, List.setIfInBounds_toArray, List.set_cons_zero, List.set_cons_succ]
              refine wpAnyH_ready (rs := [9, 10]) (by kernel_rfl) (by simp) ?_
              refine AllReadyH.cons (o := _) rfl (fun K hK => ?wayA) (AllReadyH.cons (o := _) rfl (fun K hK => ?wayB) AllReadyH.nil)
              case wayA =>
                go_simp
                refine hK.out _ _ ((HK.out.alloc zI9).drew) (fun hHeld => ?_)
                clear hK K
                refine wpAnyH_ready (rs := [10]) (by kernel_rfl) (by simp) ?_
                refine AllReadyH.cons (o := _) rfl (fun K hK => ?_) AllReadyH.nil
                go_simp
                refine hK.out _ _ (((HK.out.alloc zI9).alloc zI9).drew) (fun hHeld => ?_)
                clear hK K
                obtain ⟨wA, hwA⟩ : ∃ wA, wA = ((wr.alloc zI9).alloc zI9).drew := ⟨_, rfl⟩
                have kA : Kept w3 wA [] := by rw [hwA]; exact ((HK.out.alloc zI9).alloc zI9).drew
                have g0 : wA.heap[wr.heap.size]? = some zI9 := by rw [hwA]; exact ((Kept.refl (wr.alloc zI9) []).alloc zI9).heap (by simp) (heap_alloc_new wr zI9)
                have g1 : wA.heap[wr.heap.size + 1]? = some zI9 := by rw [hwA]; have := heap_alloc_new (wr.alloc zI9) zI9; show ((wr.alloc zI9).alloc zI9).heap[wr.heap.size + 1]? = some zI9; simpa using this
                have hsz : w3.heap.size ≤ wr.heap.size := HK.out.size
                rw [← hwA]
                clear hwA
                obtain ⟨pa, hpa⟩ : ∃ p, p = wr.heap.size := ⟨_, rfl⟩
                obtain ⟨pb, hpb⟩ : ∃ p, p = wr.heap.size + 1 := ⟨_, rfl⟩
                rw [← hpa] at g0
                rw [← hpb] at g1
                try rw [← hpb]
                try rw [← hpa]
                have hne : pa ≠ pb := by omega
                have sa : w3.heap.size ≤ pa := by omega
                have sb : w3.heap.size ≤ pb := by omega
                clear hpa hpb
                refine wpAnyH_ready (rs := [11]) (by kernel_rfl) (by simp) ?_
                refine AllReadyH.cons (o := _) rfl (fun K hK => ?_) AllReadyH.nil
                obtain ⟨q0, q1, q2, q3, q4, q5, q6, q7, q8⟩ := it_cells g0
                obtain ⟨f0, f1, f2, f3, f4, f5, f6, f7, f8⟩ := it_frozen g0
                go_simp
                clear q0 q1 q2 q3 q4 q5 q6 q7 q8 f0 f1 f2 f3 f4 f5 f6 f7 f8
                refine hK.out _ (putAll wA pa 0 [.int .i64 a0, .int .i64 a1, .int .i64 a2, .string a3, .int .i64 a4, .int .i64 a5, .int .u8 a6, .int .i64 a7, .string a8]) (putAll_keep kA sa _) (fun hHeld => ?_)
                clear hK K
                have m0 := putAll_at g0 (us := [.int .i64 a0, .int .i64 a1, .int .i64 a2, .string a3, .int .i64 a4, .int .i64 a5, .int .u8 a6, .int .i64 a7, .string a8]) rfl
                have m1 := putAll_far hne.symm [.int .i64 a0, .int .i64 a1, .int .i64 a2, .string a3, .int .i64 a4, .int .i64 a5, .int .u8 a6, .int .i64 a7, .string a8] g1
                have kB := putAll_keep kA sa [.int .i64 a0, .int .i64 a1, .int .i64 a2, .string a3, .int .i64 a4, .int .i64 a5, .int .u8 a6, .int .i64 a7, .string a8]
                obtain ⟨w9, hw9⟩ : ∃ w9, w9 = putAll wA pa 0 [.int .i64 a0, .int .i64 a1, .int .i64 a2, .string a3, .int .i64 a4, .int .i64 a5, .int .u8 a6, .int .i64 a7, .string a8] := ⟨_, rfl⟩
                rw [← hw9] at m0 m1 kB ⊢
                clear hw9 g0 g1 kA
                refine wpAnyH_ready (rs := [12]) (by kernel_rfl) (by simp) ?_
                refine AllReadyH.cons (o := _) rfl (fun K hK => ?_) AllReadyH.nil
                obtain ⟨q0, q1, q2, q3, q4, q5, q6, q7, q8⟩ := it_cells m1
                obtain ⟨f0, f1, f2, f3, f4, f5, f6, f7, f8⟩ := it_frozen m1
                go_simp
                clear q0 q1 q2 q3 q4 q5 q6 q7 q8 f0 f1 f2 f3 f4 f5 f6 f7 f8
                refine hK.out _ (putAll w9 pb 0 [.int .i64 b0, .int .i64 b1, .int .i64 b2, .string b3, .int .i64 b4, .int .i64 b5, .int .u8 b6, .int .i64 b7, .string b8]) (putAll_keep kB sb _) (fun hHeld => ?_)
                clear hK K
                have n0 := putAll_far hne [.int .i64 b0, .int .i64 b1, .int .i64 b2, .string b3, .int .i64 b4, .int .i64 b5, .int .u8 b6, .int .i64 b7, .string b8] m0
                have n1 := putAll_at m1 (us := [.int .i64 b0, .int .i64 b1, .int .i64 b2, .string b3, .int .i64 b4, .int .i64 b5, .int .u8 b6, .int .i64 b7, .string b8]) rfl
                have kC := putAll_keep kB sb [.int .i64 b0, .int .i64 b1, .int .i64 b2, .string b3, .int .i64 b4, .int .i64 b5, .int .u8 b6, .int .i64 b7, .string b8]
                obtain ⟨wz, hwz⟩ : ∃ wy, wy = putAll w9 pb 0 [.int .i64 b0, .int .i64 b1, .int .i64 b2, .string b3, .int .i64 b4, .int .i64 b5, .int .u8 b6, .int .i64 b7, .string b8] := ⟨_, rfl⟩
                rw [← hwz] at n0 n1 kC ⊢
                clear hwz m0 m1 kB
                refine wpAnyH_done (by kernel_rfl) ?_ _
                go_wp2_with fail
                go_meet
                exact ⟨pa, pb, rfl, rfl, Lib.hid kC, n0, n1⟩
              case wayB =>
                go_simp
                refine hK.out _ _ ((HK.out.alloc zI9).drew) (fun hHeld => ?_)
                clear hK K
                refine wpAnyH_ready (rs := [9]) (by kernel_rfl) (by simp) ?_
                refine AllReadyH.cons (o := _) rfl (fun K hK => ?_) AllReadyH.nil
                go_simp
                refine hK.out _ _ (((HK.out.alloc zI9).alloc zI9).drew) (fun hHeld => ?_)
                clear hK K
                obtain ⟨wA, hwA⟩ : ∃ wA, wA = ((wr.alloc zI9).alloc zI9).drew := ⟨_, rfl⟩
                have kA : Kept w3 wA [] := by rw [hwA]; exact ((HK.out.alloc zI9).alloc zI9).drew
                have g0 : wA.heap[wr.heap.size]? = some zI9 := by rw [hwA]; exact ((Kept.refl (wr.alloc zI9) []).alloc zI9).heap (by simp) (heap_alloc_new wr zI9)
                have g1 : wA.heap[wr.heap.size + 1]? = some zI9 := by rw [hwA]; have := heap_alloc_new (wr.alloc zI9) zI9; show ((wr.alloc zI9).alloc zI9).heap[wr.heap.size + 1]? = some zI9; simpa using this
                have hsz : w3.heap.size ≤ wr.heap.size := HK.out.size
                rw [← hwA]
                clear hwA
                obtain ⟨pa, hpa⟩ : ∃ p, p = wr.heap.size + 1 := ⟨_, rfl⟩
                obtain ⟨pb, hpb⟩ : ∃ p, p = wr.heap.size := ⟨_, rfl⟩
                rw [← hpa] at g1
                rw [← hpb] at g0
                try rw [← hpa]
                try rw [← hpb]
                have hne : pa ≠ pb := by omega
                have sa : w3.heap.size ≤ pa := by omega
                have sb : w3.heap.size ≤ pb := by omega
                clear hpa hpb
                refine wpAnyH_ready (rs := [11]) (by kernel_rfl) (by simp) ?_
                refine AllReadyH.cons (o := _) rfl (fun K hK => ?_) AllReadyH.nil
                obtain ⟨q0, q1, q2, q3, q4, q5, q6, q7, q8⟩ := it_cells g1
                obtain ⟨f0, f1, f2, f3, f4, f5, f6, f7, f8⟩ := it_frozen g1
                go_simp
                clear q0 q1 q2 q3 q4 q5 q6 q7 q8 f0 f1 f2 f3 f4 f5 f6 f7 f8
                refine hK.out _ (putAll wA pa 0 [.int .i64 a0, .int .i64 a1, .int .i64 a2, .string a3, .int .i64 a4, .int .i64 a5, .int .u8 a6, .int .i64 a7, .string a8]) (putAll_keep kA sa _) (fun hHeld => ?_)
                clear hK K
                have m0 := putAll_at g1 (us := [.int .i64 a0, .int .i64 a1, .int .i64 a2, .string a3, .int .i64 a4, .int .i64 a5, .int .u8 a6, .int .i64 a7, .string a8]) rfl
                have m1 := putAll_far hne.symm [.int .i64 a0, .int .i64 a1, .int .i64 a2, .string a3, .int .i64 a4, .int .i64 a5, .int .u8 a6, .int .i64 a7, .string a8] g0
                have kB := putAll_keep kA sa [.int .i64 a0, .int .i64 a1, .int .i64 a2, .string a3, .int .i64 a4, .int .i64 a5, .int .u8 a6, .int .i64 a7, .string a8]
                obtain ⟨w9, hw9⟩ : ∃ w9, w9 = putAll wA pa 0 [.int .i64 a0, .int .i64 a1, .int .i64 a2, .string a3, .int .i64 a4, .int .i64 a5, .int .u8 a6, .int .i64 a7, .string a8] := ⟨_, rfl⟩
                rw [← hw9] at m0 m1 kB ⊢
                clear hw9 g0 g1 kA
                refine wpAnyH_ready (rs := [12]) (by kernel_rfl) (by simp) ?_
                refine AllReadyH.cons (o := _) rfl (fun K hK => ?_) AllReadyH.nil
                obtain ⟨q0, q1, q2, q3, q4, q5, q6, q7, q8⟩ := it_cells m1
                obtain ⟨f0, f1, f2, f3, f4, f5, f6, f7, f8⟩ := it_frozen m1
                go_simp
                clear q0 q1 q2 q3 q4 q5 q6 q7 q8 f0 f1 f2 f3 f4 f5 f6 f7 f8
                refine hK.out _ (putAll w9 pb 0 [.int .i64 b0, .int .i64 b1, .int .i64 b2, .string b3, .int .i64 b4, .int .i64 b5, .int .u8 b6, .int .i64 b7, .string b8]) (putAll_keep kB sb _) (fun hHeld => ?_)
                clear hK K
                have n0 := putAll_far hne [.int .i64 b0, .int .i64 b1, .int .i64 b2, .string b3, .int .i64 b4, .int .i64 b5, .int .u8 b6, .int .i64 b7, .string b8] m0
                have n1 := putAll_at m1 (us := [.int .i64 b0, .int .i64 b1, .int .i64 b2, .string b3, .int .i64 b4, .int .i64 b5, .int .u8 b6, .int .i64 b7, .string b8]) rfl
                have kC := putAll_keep kB sb [.int .i64 b0, .int .i64 b1, .int .i64 b2, .string b3, .int .i64 b4, .int .i64 b5, .int .u8 b6, .int .i64 b7, .string b8]
                obtain ⟨wz, hwz⟩ : ∃ wy, wy = putAll w9 pb 0 [.int .i64 b0, .int .i64 b1, .int .i64 b2, .string b3, .int .i64 b4, .int .i64 b5, .int .u8 b6, .int .i64 b7, .string b8] := ⟨_, rfl⟩
                rw [← hwz] at n0 n1 kC ⊢
                clear hwz m0 m1 kB
                refine wpAnyH_done (by kernel_rfl) ?_ _
                go_wp2_with fail
                go_meet
                exact ⟨pa, pb, rfl, rfl, Lib.hid kC, n0, n1⟩
            case rest =>
              obtain ⟨pa, pb, rfl, rfl, KX, ga, gb⟩ := hcut
              obtain ⟨A0, A1, -, A3, -⟩ := it_cells ga
              obtain ⟨B0, B1, -, B3, -⟩ := it_cells gb
              clear ga gb
              rcases HO.out with hl1 | ⟨rfl, hl2 | ⟨rfl, hl3⟩⟩
              · have y1 : decide (b0 < a0) = false := decide_eq_false (by omega)
                have y2 : (a0 == b0) = false := beq_eq_false_iff_ne.2 (by omega)
                have y3 : ¬ b0 < a0 := by omega
                go_wp2
                go_roundw
                case rel => exact ⟨j + 1, by go_num, by omega, KX⟩
                case measure => simp [intOf]; omega
              · have y1 : decide (b1 < a1) = false := decide_eq_false (by omega)
                have y2 : (a1 == b1) = false := beq_eq_false_iff_ne.2 (by omega)
                have y3 : ¬ b1 < a1 := by omega
                go_wp2
                go_roundw
                case rel => exact ⟨j + 1, by go_num, by omega, KX⟩
                case measure => simp [intOf]; omega
              · go_wp2
                go_roundw
                case rel => exact ⟨j + 1, by go_num, by omega, KX⟩
                case measure => simp [intOf]; omega
          · have x2 : ¬ ((j + 1 : Nat) : Int) < (N : Int) := by omega
            have x2' : ¬ (j : Int) + 1 < (N : Int) := by omega
            obtain ⟨wp, hwp⟩ : ∃ wp, wp = wr := ⟨_, rfl⟩
            subst hwp
            have K4 := Lib.hid (K3.out.trans HK.out (by simp))
            have O4 := Lib.hid (O3.out.keep HK.out)
            go_wp2
            go_loopw [9] (fun s9 wr => ∃ (j : Nat) (m3 : List It), s9 = .int .i64 j ∧ j ≤ N ∧ m3.length = N ∧ Hid (OwnK encIt wr wo.heap.size rtE (.slice u3 N q3) m3) ∧ Hid (Fo (fun b => u3.map Addr.block = some b) wp wr)) (fun s9 _ => N - (intOf s9).toNat)
            case atStart => exact ⟨0, m, rfl, Nat.zero_le _, HN.out.symm, O4, Lib.hid (Fo.refl _ _)⟩
            case round =>
              obtain ⟨j, m3, rfl, hj3, hm3, HO, HF⟩ := hrel
              have HM3 := Lib.hid hm3
              clear hm3
              by_cases hjl2 : j < N
              · have y2 : (j : Int) < (N : Int) := by omega
                obtain ⟨p, hp⟩ : ∃ p, m3[j]? = some p := ⟨_, List.getElem?_eq_getElem (by rw [HM3.out]; exact hjl2)⟩
                have o8 := HO.out
                obtain ⟨g, eg, -⟩ := o8.at hp
                subst eg
                obtain ⟨⟨p0, p1, p2, p3, p4, p5, p6, p7, p8⟩, ⟨f0, f1, f2, f3, f4, f5, f6, f7, f8⟩⟩ := cellsO_r o8 hp
                have o9 := o8.set1 (y := ⟨99, p.e⟩) hp (j := 0) (by decide) (u := .int .i64 99) rfl
                have O9 := Lib.hid o9
                have F9 := Lib.hid (HF.out.setCell (p := ⟨g, j * 9, none⟩) (.inl rfl) (.int .i64 99))
                clear o8 o9 hp p1 p2 p3 p4 p5 p6 p7 p8 f1 f2 f3 f4 f5 f6 f7 f8
                go_wp2
                go_roundw
                case rel => exact ⟨j + 1, m3.set j ⟨99, p.e⟩, by go_num, by omega, by rw [List.length_set]; exact HM3.out, O9, F9⟩
                case measure => simp [intOf]; omega
              · have y2 : ¬ (j : Int) < (N : Int) := by omega
                have F0 : Fo (fun b => u3.map Addr.block = some b) wo wr := (Fo.ofKept K4.out _).trans HF.out
                have hown := O3.out.lt
                have a9 := A.out.fo F0 (fun b hb hu => by have := (A.out.lt b hb).2; have := (hown b (by cases u3 with | none => cases hu | some x => exact hu)).1; omega)
                have K9 := Lib.hid (K0.out.foC F0 (fun b hu => by have := (hown b (by cases u3 with | none => cases hu | some x => exact hu)).1; have := A.out.size; omega))
                have DU := Lib.hid (tdue_any a9 OK.out 3)
                clear F0 hown a9
                go_wp2_with fail
                refine DU.out.mono ?_
                rintro e w10 ⟨v10, rfl, o10, k10⟩
                rw [DU3.out] at o10
                obtain ⟨u10, q10, e10⟩ := o10.shape
                rw [evs_length, ← HN.out] at e10
                subst e10
                have K10 := Lib.hid (K9.out.trans k10 (by simp))
                clear k10 o10
                go_wp2
                go_ret
                exact ⟨rfl, K10.out.below (Nat.le_refl _) (by simp)⟩

set_option maxRecDepth 100000 in
theorem lifted (os : Os) (started : os.Started) (H : Type) (enc : TypeId × Value → H) :
    ReturnsInHanded {} Try.checked os 8 .any (Rows.retryOrderSpec.pre6 enc Try.prog Try.f8 Rows.retryOrderRow.domain false) (Rows.retryOrderSpec.post enc Try.prog Try.f8 false true false false) := by
  refine returnsInHanded_of_change (C := Try.checked) own started (by kernel_rfl) Try.func8
    (ChangeSpec.witness6 (enc := enc) (C := Try.checked) false ⟨#[], #[.slice none 0 0], []⟩ 8 (by kernel_rfl) (by kernel_rfl) (by kernel_rfl) (by kernel_rfl)) ?_
  intro W base args ds gs before hval0 hW hcnd _
  have hval : ∀ (j : Nat) t v, Try.f8.params[j]? = some t → args[j]? = some v → Value.okWide Try.prog W .any base t v := hval0
  have hW' := hW
  obtain ⟨p, q, hA0, hV, rfl, hfz, hnd⟩ := hW
  have hA : DataW.TrodAll enc Try.prog W 0 (fun _ => true) true Try.f8.params.toList args.toList ds p := hA0
  rw [Try.params8] at hA hval
  obtain ⟨v0, vs0, d0, ds0, p0, q0, hargs, rfl, rfl, h0, r0⟩ := trodAll_cons hA
  obtain ⟨rfl, rfl, rfl⟩ := trodAll_nil r0
  obtain rfl : args = #[v0] := by cases args; simp_all
  obtain ⟨rfl, rfl⟩ := trodVars_none hV
  obtain ⟨a0, len0, cap0, rfl⟩ := okWide_slice Try.underlying22 (hval 0 22 v0 rfl rfl)
  have k0 := h0
  have lt0 : ∀ x ∈ p0, x.block < W.heap.size := by obtain ⟨m, hm⟩ := k0; exact DataW.trod_lt m _ _ _ hm
  obtain ⟨z0, w0⟩ : ∃ f, IsActs W W.heap.size a0 len0 f ∧ len0 ≤ maxLen := by
    obtain ⟨fuel, hf⟩ := h0
    exact acts_open (by simpa [Value.cells] using hf)
  clear hA0 hval0
  refine (walk a0 len0 cap0 z0 W w0).mono fun e W' ⟨he, bel⟩ => ?_
  subst he
  exact ⟨_, rfl, _, _, _, [], _, [], hW', trodAll_mk1 (shut_bool Try.underlying4 _), (trodAll_cons_mk (Below.trod laidOut (by kernel_rfl) (of_decide_eq_true (by kernel_rfl)) k0 bel lt0) trodAll_mk0), rfl, bel.frame _, fun h => by cases h⟩

theorem over : Rows.retryOrderRow.holds Try.pinned (OpenSpec.ofChange Rows.retryOrderSpec) :=
  OpenClaim.holds_of_wide 8 Try.f8 rfl rfl rfl rfl rfl rfl rfl ⟨rfl, rfl, rfl, rfl, rfl⟩ rfl rfl rfl rfl rfl (by kernel_rfl) Try.func8 (by kernel_rfl)
    (of_decide_eq_true (by kernel_rfl)) (by unfold Func.isWrapper; first | (rw [if_pos (by decide +kernel)]; kernel_rfl) | (rw [if_neg (by decide +kernel)]; exact ⟨rfl, rfl⟩))
    (fun os started H enc _ => lifted os started H enc)

theorem proved : Rows.RetryOrderSaid :=
  over
end Go.Proofs.Ytcnjgjgppbakdaa.retryOrder

namespace Go.Proofs.Ytcnjgjgppbakdaa
theorem retryOrder_holds : Rows.RetryOrderSaid := retryOrder.proved
#print axioms retryOrder_holds
end Go.Proofs.Ytcnjgjgppbakdaa

