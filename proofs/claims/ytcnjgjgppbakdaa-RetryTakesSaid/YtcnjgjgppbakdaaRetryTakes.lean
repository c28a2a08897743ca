/-
  Proved: whatever the arguments are, carrierlaw14.RetryTakes answers true and leaves its arguments as they were. No condition.
-/
import Derived.Test.YtcnjgjgppbakdaaRtl
import Derived.Test.YtcnjgjgppbakdaaRows
import Derived.Test.YtcnjgjgppbakdaaChecked
import Derived.ProofKit
import Derived.OpenShut
import Derived.ChangeOld
import Derived.Below
namespace Go.Proofs.Ytcnjgjgppbakdaa.retryTakes
open Go.ChangeShapes Go.WideShapes Go.ChangeAt Go.RowKit
set_option linter.unusedVariables false

theorem own : ownKnob Try.prog.godebug = none := by kernel_rfl
theorem laidOut : laidOutB Try.prog = true := by kernel_rfl

set_option maxHeartbeats 8000000 in
set_option maxRecDepth 100000 in
theorem walk (a0 : Option Addr) (len cap : Nat) (f : Nat → ActD) (a1 : Int) (W : World) (w0 : IsActs W W.heap.size a0 len f ∧ len ≤ maxLen) (w1 : (Lit.int .i64 a1).wf = true) :
    Calls Try.prog 5 #[.slice a0 len cap, .int .i64 a1] W fun e w' => e = .returned (.bool true) ∧ Below W.heap.size W w' := by
  have HA := Lib.hid w0.1
  have hlm : len ≤ 9223372036854775807 := by have := w0.2; unfold maxLen at this; omega
  obtain ⟨K, hK0⟩ : ∃ K, a1.tmod 22 = K := ⟨_, rfl⟩
  clear w0 w1
  by_cases hg : 40 < len
  · have xg : (40 : Int) < (len : Int) := by omega
    go_enter Try.func5, Try.ntmps5
    go_wp2_with fail
    refine (seven_any W).mono ?_
    rintro e w1 ⟨rfl, k1⟩
    have K1 := Lib.hid k1; clear k1
    go_wp2_with fail
    refine (seven_any w1).mono ?_
    rintro e w2 ⟨rfl, k2⟩
    have K2 := Lib.hid (K1.out.trans k2 (by simp)); clear k2
    go_wp2
    go_ret
    exact ⟨rfl, K2.out.below (Nat.le_refl _) (by simp)⟩
  · have xg : ¬ (40 : Int) < (len : Int) := by omega
    go_enter Try.func5, Try.ntmps5
    go_wp2_with fail
    refine (seven_any W).mono ?_
    rintro e w1 ⟨rfl, k1⟩
    have K1 := Lib.hid k1; clear k1
    go_wp2_with fail
    refine (tq_new K1.out).mono ?_
    rintro e w2 ⟨h, rfl, c2⟩
    have C2 := Lib.hid c2; clear c2
    go_wp2
    go_loopw [6] (fun s6 wr => ∃ i : Nat, s6 = .int .i64 i ∧ i ≤ len ∧ Hid (∃ m, Tq W wr h m)) (fun s6 _ => len - (intOf s6).toNat)
    case atStart => exact ⟨0, rfl, Nat.zero_le _, Lib.hid ⟨[], C2.out⟩⟩
    case round =>
      obtain ⟨i, rfl, hi, CE⟩ := hrel
      obtain ⟨m, cm⟩ := CE.out
      have C := Lib.hid cm
      clear cm CE
      by_cases hlt : i < len
      · have x1 : (i : Int) < (len : Int) := by omega
        obtain ⟨b, o, e0, -, hf⟩ := HA.out (show 0 < len by omega)
        subst e0
        obtain ⟨id, hid⟩ : ∃ id, id = (f i).id := ⟨_, rfl⟩
        obtain ⟨ow, how⟩ : ∃ ow, ow = (f i).ow := ⟨_, rfl⟩
        obtain ⟨at0, hat⟩ : ∃ at0, at0 = (f i).a := ⟨_, rfl⟩
        have i8 : id < 256 := by rw [hid]; exact (hf i hlt).i8
        have o8 : ow < 256 := by rw [how]; exact (hf i hlt).o8
        have wa := bounds_i64 (hf i hlt).wa
        rw [← hat] at wa
        obtain ⟨at1, hat1⟩ : ∃ at1, at1 = at0.tmod 20 := ⟨_, rfl⟩
        have xat : at0.tmod 20 = at1 := hat1.symm
        have CX := Lib.hid (fun V (hV : Kept W V []) => (show V.cell? ⟨b, o + i * 5 + 1, none⟩ = some (.int .u8 id) ∧ V.cell? ⟨b, o + i * 5 + 2, none⟩ = some (.int .u8 ow) ∧ V.cell? ⟨b, o + i * 5 + 3, none⟩ = some (.int .i64 at0) from by
          rw [hid, how, hat]
          have := (hf i hlt).kept hV (by simp)
          exact ⟨this.c1, this.c2, this.c3⟩))
        have m1 : IntKind.i64.wrap (id : Int) = (id : Int) := by rw [IntKind.wrap_i64]; omega
        clear hf hid how hat hat1
        go_upto_region 7 with fail
        refine wp_region_held_drew (S := fun Z => Kept W Z []) (by kernel_rfl) C.out.kept.drew (fun hHeld => ?_)
        refine wpAnyH_take (i := 0) (oi := _) (v := .pointer (some ⟨h, 0, none⟩)) rfl (by kernel_rfl) (by kernel_rfl) (by kernel_rfl) (fun _ _ _ h => h) (Or.inl ⟨by rfl, fun V hV => by go_simp⟩) hHeld ?_
        change wpAnyH _ _ _ _ _ _ _ (Act.put _ (some 28) _) _
        simp only [Act.put, List.setIfInBounds_toArray, List.set_cons_zero, List.set_cons_succ]
        refine wpAnyH_take (i := 1) (oi := _) (v := .slice (some ⟨b, o, none⟩) len cap) rfl (by kernel_rfl) (by kernel_rfl) (by kernel_rfl) (fun _ _ _ h => h) (Or.inl ⟨by rfl, fun V hV => by go_simp⟩) hHeld ?_
        change wpAnyH _ _ _ _ _ _ _ (Act.put _ (some 29) _) _
        simp only [Act.put, List.setIfInBounds_toArray, List.set_cons_zero, List.set_cons_succ]
        refine wpAnyH_take (i := 2) (oi := _) (v := .int .i64 i) rfl (by kernel_rfl) (by kernel_rfl) (by kernel_rfl) (fun _ _ _ h => h) (Or.inl ⟨by rfl, fun V hV => by go_simp⟩) hHeld ?_
        change wpAnyH _ _ _ _ _ _ _ (Act.put _ (some 30) _) _
        simp only [Act.put, List.setIfInBounds_toArray, List.set_cons_zero, List.set_cons_succ]
        refine wpAnyH_take (i := 3) (oi := _) (v := .pointer (some ⟨b, o + i * 5, none⟩)) rfl (by kernel_rfl) (by kernel_rfl) (by kernel_rfl) (fun _ _ _ h => h) (Or.inl ⟨by rfl, fun V hV => by go_simp⟩) hHeld ?_
        change wpAnyH _ _ _ _ _ _ _ (Act.put _ (some 31) _) _
        simp only [Act.put, List.setIfInBounds_toArray, List.set_cons_zero, List.set_cons_succ]
        refine wpAnyH_take (i := 4) (oi := _) (v := .pointer (some ⟨b, o + i * 5 + 1, none⟩)) rfl (by kernel_rfl) (by kernel_rfl) (by kernel_rfl) (fun _ _ _ h => h) (Or.inl ⟨by rfl, fun V hV => by go_simp⟩) hHeld ?_
        change wpAnyH _ _ _ _ _ _ _ (Act.put _ (some 32) _) _
        simp only [Act.put, List.setIfInBounds_toArray, List.set_cons_zero, List.set_cons_succ]
        refine wpAnyH_take (i := 5) (oi := _) (v := .int .u8 id) rfl (by kernel_rfl) (by kernel_rfl) (by kernel_rfl) (fun _ _ _ h => h) (Or.inl ⟨by rfl, fun V hV => by (obtain ⟨c1, c2, c3⟩ := CX.out V hV; clear hV; go_simp)⟩) hHeld ?_
        change wpAnyH _ _ _ _ _ _ _ (Act.put _ (some 33) _) _
        simp only [Act.put, List.setIfInBounds_toArray, List.set_cons_zero, List.set_cons_succ]
        refine wpAnyH_take (i := 6) (oi := _) (v := .int .i64 id) rfl (by kernel_rfl) (by kernel_rfl) (by kernel_rfl) (fun _ _ _ h => h) (Or.inl ⟨by rfl, fun V hV => by go_simp⟩) hHeld ?_
        change wpAnyH _ _ _ _ _ _ _ (Act.put _ (some 34) _) _
        simp only [Act.put, List.setIfInBounds_toArray, List.set_cons_zero, List.set_cons_succ]
        refine wpAnyH_take (i := 7) (oi := _) (v := .agg #[.int .i64 id, .int .i64 0, .string ⟨#[]⟩, .int .i64 0, .int .i64 0, .int .u8 0, .int .i64 0, .string ⟨#[]⟩]) rfl (by kernel_rfl) (by kernel_rfl) (by kernel_rfl) (fun _ _ _ h => h) (Or.inl ⟨by rfl, fun V hV => by go_simp⟩) hHeld ?_
        change wpAnyH _ _ _ _ _ _ _ (Act.put _ (some 35) _) _
        simp only [Act.put, List.setIfInBounds_toArray, List.set_cons_zero, List.set_cons_succ]
        refine wpAnyH_take (i := 8) (oi := _) (v := .slice (some ⟨b, o, none⟩) len cap) rfl (by kernel_rfl) (by kernel_rfl) (by kernel_rfl) (fun _ _ _ h => h) (Or.inl ⟨by rfl, fun V hV => by go_simp⟩) hHeld ?_
        change wpAnyH _ _ _ _ _ _ _ (Act.put _ (some 36) _) _
        simp only [Act.put, List.setIfInBounds_toArray, List.set_cons_zero, List.set_cons_succ]
        refine wpAnyH_take (i := 9) (oi := _) (v := .int .i64 i) rfl (by kernel_rfl) (by kernel_rfl) (by kernel_rfl) (fun _ _ _ h => h) (Or.inl ⟨by rfl, fun V hV => by go_simp⟩) hHeld ?_
        change wpAnyH _ _ _ _ _ _ _ (Act.put _ (some 37) _) _
        simp only [Act.put, List.setIfInBounds_toArray, List.set_cons_zero, List.set_cons_succ]
        refine wpAnyH_take (i := 10) (oi := _) (v := .pointer (some ⟨b, o + i * 5, none⟩)) rfl (by kernel_rfl) (by kernel_rfl) (by kernel_rfl) (fun _ _ _ h => h) (Or.inl ⟨by rfl, fun V hV => by go_simp⟩) hHeld ?_
        change wpAnyH _ _ _ _ _ _ _ (Act.put _ (some 38) _) _
        simp only [Act.put, List.setIfInBounds_toArray, List.set_cons_zero, List.set_cons_succ]
        refine wpAnyH_take (i := 11) (oi := _) (v := .pointer (some ⟨b, o + i * 5 + 2, none⟩)) rfl (by kernel_rfl) (by kernel_rfl) (by kernel_rfl) (fun _ _ _ h => h) (Or.inl ⟨by rfl, fun V hV => by go_simp⟩) hHeld ?_
        change wpAnyH _ _ _ _ _ _ _ (Act.put _ (some 39) _) _
        simp only [Act.put, List.setIfInBounds_toArray, List.set_cons_zero, List.set_cons_succ]
        refine wpAnyH_take (i := 12) (oi := _) (v := .int .u8 ow) rfl (by kernel_rfl) (by kernel_rfl) (by kernel_rfl) (fun _ _ _ h => h) (Or.inl ⟨by rfl, fun V hV => by (obtain ⟨c1, c2, c3⟩ := CX.out V hV; clear hV; go_simp)⟩) hHeld ?_
        change wpAnyH _ _ _ _ _ _ _ (Act.put _ (some 40) _) _
        simp only [Act.put, List.setIfInBounds_toArray, List.set_cons_zero, List.set_cons_succ]
        refine wpAnyH_take (i := 14) (oi := _) (v := .slice (some ⟨b, o, none⟩) len cap) rfl (by kernel_rfl) (by kernel_rfl) (by kernel_rfl) (fun _ _ _ h => h) (Or.inl ⟨by rfl, fun V hV => by go_simp⟩) hHeld ?_
        change wpAnyH _ _ _ _ _ _ _ (Act.put _ (some 42) _) _
        simp only [Act.put, List.setIfInBounds_toArray, List.set_cons_zero, List.set_cons_succ]
        refine wpAnyH_take (i := 15) (oi := _) (v := .int .i64 i) rfl (by kernel_rfl) (by kernel_rfl) (by kernel_rfl) (fun _ _ _ h => h) (Or.inl ⟨by rfl, fun V hV => by go_simp⟩) hHeld ?_
        change wpAnyH _ _ _ _ _ _ _ (Act.put _ (some 43) _) _
        simp only [Act.put, List.setIfInBounds_toArray, List.set_cons_zero, List.set_cons_succ]
        refine wpAnyH_take (i := 16) (oi := _) (v := .pointer (some ⟨b, o + i * 5, none⟩)) rfl (by kernel_rfl) (by kernel_rfl) (by kernel_rfl) (fun _ _ _ h => h) (Or.inl ⟨by rfl, fun V hV => by go_simp⟩) hHeld ?_
        change wpAnyH _ _ _ _ _ _ _ (Act.put _ (some 44) _) _
        simp only [Act.put, List.setIfInBounds_toArray, List.set_cons_zero, List.set_cons_succ]
        refine wpAnyH_take (i := 17) (oi := _) (v := .pointer (some ⟨b, o + i * 5 + 3, none⟩)) rfl (by kernel_rfl) (by kernel_rfl) (by kernel_rfl) (fun _ _ _ h => h) (Or.inl ⟨by rfl, fun V hV => by go_simp⟩) hHeld ?_
        change wpAnyH _ _ _ _ _ _ _ (Act.put _ (some 45) _) _
        simp only [Act.put, List.setIfInBounds_toArray, List.set_cons_zero, List.set_cons_succ]
        refine wpAnyH_take (i := 18) (oi := _) (v := .int .i64 at0) rfl (by kernel_rfl) (by kernel_rfl) (by kernel_rfl) (fun _ _ _ h => h) (Or.inl ⟨by rfl, fun V hV => by (obtain ⟨c1, c2, c3⟩ := CX.out V hV; clear hV; go_simp)⟩) hHeld ?_
        change wpAnyH _ _ _ _ _ _ _ (Act.put _ (some 46) _) _
        simp only [Act.put, List.setIfInBounds_toArray, List.set_cons_zero, List.set_cons_succ]
        refine wpAnyH_take (i := 19) (oi := _) (v := .int .i64 at1) rfl (by kernel_rfl) (by kernel_rfl) (by kernel_rfl) (fun _ _ _ h => h) (Or.inl ⟨by rfl, fun V hV => by go_simp⟩) hHeld ?_
        change wpAnyH _ _ _ _ _ _ _ (Act.put _ (some 47) _) _
        simp only [Act.put, List.setIfInBounds_toArray, List.set_cons_zero, List.set_cons_succ]
        refine wpAnyH_ready (rs := [13]) (by kernel_rfl) (by simp) ?_
        refine AllReadyH.cons (o := _) rfl (fun K hK => ?_) AllReadyH.nil
        go_simp
        go_at_call 12
        refine (owner_any ow o8 _).mono ?_
        rintro e w2 ⟨rfl, k2⟩
        have k2 := (Kept.refl wr []).drew.trans k2 (by simp)
        go_wp2_with fail
        refine hK.out _ _ (C.out.kept.trans k2 (by simp)) (fun hHeld => ?_)
        clear hK K
        refine wpAnyH_ready (rs := [20]) (by kernel_rfl) (by simp) ?_
        refine AllReadyH.cons (o := _) rfl (fun K hK => ?_) AllReadyH.nil
        go_simp
        go_at_call 11
        refine (tq_add (C.out.keep k2) (evI id) (evI_tr _) (ownN ow) at1).mono ?_
        rintro e w3 ⟨rfl, c3⟩
        have C3 := Lib.hid (show ∃ m, Tq W w3 h m from ⟨_, c3⟩)
        have k3 := c3.kept
        clear c3 k2
        go_wp2_with fail
        refine hK.out _ _ k3 (fun hHeld => ?_)
        clear hK K
        refine wpAnyH_done (by kernel_rfl) ?_ _
        clear hHeld k3
        go_wp2
        go_roundw
        case rel => exact ⟨i + 1, by go_num, by omega, C3⟩
        case measure => simp [intOf]; omega
      · have x1 : ¬ (i : Int) < (len : Int) := by omega
        obtain ⟨wo, hwo⟩ : ∃ wo, wo = wr := ⟨_, rfl⟩
        subst hwo
        obtain ⟨ok, V, a, k0⟩ := C.out
        have few := ok.few
        have A := Lib.hid a; have OK := Lib.hid ok; have K0 := Lib.hid k0
        clear a ok k0
        go_wp2_with fail
        refine (tall_any A.out (by omega)).mono ?_
        rintro e w3 ⟨v3, rfl, o3, k3⟩
        obtain ⟨u3, q3, e3⟩ := o3.shape
        subst e3
        have K3 := Lib.hid k3
        clear k3 o3
        go_wp2_with fail
        refine (tdue_any (A.out.keep K3.out) OK.out K).mono ?_
        rintro e w4 ⟨v4, rfl, o4, k4⟩
        obtain ⟨p, hp⟩ : ∃ p, p = (evs (dueI m K)).length := ⟨_, rfl⟩
        obtain ⟨q, hq⟩ : ∃ q, q = (lftI m K).length := ⟨_, rfl⟩
        have hpq0 := due_lft_len m K
        rw [← hp, ← hq] at hpq0
        have HP := Lib.hid hp; have HQ := Lib.hid hq
        obtain ⟨u4, q4, e4⟩ := o4.shape
        rw [← hp] at e4
        subst e4
        have K4 := Lib.hid (K3.out.trans k4 (by simp))
        have O4 := Lib.hid o4
        have hdis := fun k (hk1 : (Value.slice u4 p q4).ownBlock = some k) (hk2 : lfoot h V k) => (show False by have := (o4.lt k hk1).1; have := (A.out.lt k hk2).2; have := K3.out.size; omega)
        have DIS := Lib.hid hdis
        clear k4 o4 hp hq hdis
        go_wp2_with fail
        refine (ttake_any (A.out.keep K4.out) OK.out K).mono ?_
        rintro e w5 ⟨v5, rfl, o5, V', a5, s5⟩
        obtain ⟨u5, q5, e5⟩ := o5.shape
        rw [← HP.out] at e5
        subst e5
        have o45 := O4.out.fo s5.1 (fun k hk1 hk2 => DIS.out k hk1 hk2)
        have K5 := Lib.hid ((K0.out.trans K4.out (by simp)).foC s5.1 (fun k hk => (A.out.lt k hk).1))
        have A5 := Lib.hid a5; have O5 := Lib.hid o5; have O45 := Lib.hid o45
        clear a5 s5 o5 o45
        go_wp2_with fail
        refine (tall_any A5.out (by rw [← HQ.out]; omega)).mono ?_
        rintro e w6 ⟨v6, rfl, o6, k6⟩
        obtain ⟨u6, q6, e6⟩ := o6.shape
        rw [← HQ.out] at e6
        subst e6
        have O6 := Lib.hid o6; have K6 := Lib.hid k6
        clear o6 k6
        go_wp2
        go_loopw [12] (fun s12 wr => ∃ i : Nat, s12 = .int .i64 i ∧ i ≤ q ∧ Hid (Kept w6 wr [])) (fun s12 _ => q - (intOf s12).toNat)
        case atStart => exact ⟨0, rfl, Nat.zero_le _, Lib.hid (Kept.refl _ _)⟩
        case round =>
          obtain ⟨i, rfl, hi2, KR⟩ := hrel
          by_cases hlt2 : i < q
          · have y1 : (i : Int) < (q : Int) := by omega
            obtain ⟨x, hx⟩ : ∃ x, (lftI m K)[i]? = some x := ⟨_, List.getElem?_eq_getElem (by rw [← HQ.out]; exact hlt2)⟩
            have o7 := O6.out.keep KR.out
            obtain ⟨g, eg, -⟩ := o7.at hx
            subst eg
            obtain ⟨⟨c0, c1, c2, c3, c4, c5, c6, c7, c8⟩, -⟩ := cellsO_r o7 hx
            obtain ⟨ax, hax⟩ : ∃ ax, ax = x.a := ⟨_, rfl⟩
            have hab : decide (ax ≤ K) = false := by rw [decide_eq_false_iff_not, hax]; exact lft_above (List.mem_of_getElem? hx)
            rw [← hax] at c0
            clear c1 c2 c3 c4 c5 c6 c7 c8
            have KN0 := Lib.hid hx
            rcases Nat.eq_zero_or_pos i with rfl | hp1
            · clear hx hax o7
              rw [Nat.zero_mul] at c0
              go_wp2_with fail
              go_quiet (fail)
              have KN := Lib.hid (KR.out.drewN nq)
              clear c0
              generalize wr.drewN nq = wn at KN ⊢
              go_wp2
              go_roundw
              case rel => exact ⟨0 + 1, by go_num, by omega, KN⟩
              case measure => simp [intOf]; omega
            · obtain ⟨j, rfl⟩ : ∃ j, i = j + 1 := ⟨i - 1, by omega⟩
              obtain ⟨y, hy⟩ : ∃ y, (lftI m K)[j]? = some y := ⟨_, List.getElem?_eq_getElem (by rw [← HQ.out]; omega)⟩
              obtain ⟨⟨d0, d1, d2, d3, d4, d5, d6, d7, d8⟩, -⟩ := cellsO_r o7 hy
              obtain ⟨ay, hay⟩ : ∃ ay, ay = y.a := ⟨_, rfl⟩
              have hxy : ay ≤ ax := by rw [hax, hay]; exact ltI_at (rise_le (OK.out.lft K).rise (by omega) hy hx)
              have hxy2 : decide (ax < ay) = false := by rw [decide_eq_false_iff_not]; omega
              have hj0 : decide ((0 : Int) < (j : Int) + 1) = true := by rw [decide_eq_true_eq]; omega
              have y2 : (j : Int) < (q : Int) := by omega
              rw [← hay] at d0
              clear d1 d2 d3 d4 d5 d6 d7 d8 hx hy hax hay o7 hxy hp1
              go_wp2_with fail
              go_quiet (fail)
              have KN := Lib.hid (KR.out.drewN nq)
              clear c0 d0
              generalize wr.drewN nq = wn at KN ⊢
              go_wp2
              go_roundw
              case rel => exact ⟨j + 1 + 1, by go_num, by omega, KN⟩
              case measure => simp [intOf]; omega
          · have y1 : ¬ (i : Int) < (q : Int) := by omega
            have kr := K6.out.trans KR.out (by simp)
            have RA := Lib.hid (O45.out.rd.keep kr); have RB := Lib.hid (O5.out.rd.keep kr)
            have K8 := Lib.hid kr
            have hpl : p < 1000000 := by omega
            clear kr
            go_wp2_with fail
            refine (same_any RA.out RB.out (by rw [← HP.out]; exact hpl)).mono ?_
            rintro e w9 ⟨rfl, k9⟩
            have K9 := Lib.hid (K8.out.trans k9 (by simp))
            have hpq : (p : Int) + (q : Int) = (m.length : Int) := by omega
            clear k9
            go_wp2_with fail
            refine (tdue_any (A5.out.keep K9.out) (OK.out.lft K) K).mono ?_
            rintro e w10 ⟨v10, rfl, o10, k10⟩
            rw [due_lft_none] at o10
            obtain ⟨u10, q10, e10⟩ := o10.shape
            rw [show (evs []).length = 0 from rfl] at e10
            subst e10
            have K10 := Lib.hid ((K5.out.trans K9.out (by simp)).trans k10 (by simp))
            clear k10 o10
            go_wp2
            go_ret
            exact ⟨rfl, K10.out.below (Nat.le_refl _) (by simp)⟩

set_option maxRecDepth 100000 in
theorem lifted (os : Os) (started : os.Started) (H : Type) (enc : TypeId × Value → H) :
    ReturnsInHanded {} Try.checked os 5 .any (Rows.retryTakesSpec.pre6 enc Try.prog Try.f5 Rows.retryTakesRow.domain false) (Rows.retryTakesSpec.post enc Try.prog Try.f5 false true false false) := by
  refine returnsInHanded_of_change (C := Try.checked) own started (by kernel_rfl) Try.func5
    (ChangeSpec.witness6 (enc := enc) (C := Try.checked) false ⟨#[], #[.slice none 0 0, .int .i64 0], []⟩ 8 (by kernel_rfl) (by kernel_rfl) (by kernel_rfl) (by kernel_rfl)) ?_
  intro W base args ds gs before hval0 hW hcnd _
  have hval : ∀ (j : Nat) t v, Try.f5.params[j]? = some t → args[j]? = some v → Value.okWide Try.prog W .any base t v := hval0
  have hW' := hW
  obtain ⟨p, q, hA0, hV, rfl, hfz, hnd⟩ := hW
  have hA : DataW.TrodAll enc Try.prog W 0 (fun _ => true) true Try.f5.params.toList args.toList ds p := hA0
  rw [Try.params5] at hA hval
  obtain ⟨v0, vs0, d0, ds0, p0, q0, hargs, rfl, rfl, h0, r0⟩ := trodAll_cons hA
  obtain ⟨v1, vs1, d1, ds1, p1, q1, rfl, rfl, rfl, h1, r1⟩ := trodAll_cons r0
  obtain ⟨rfl, rfl, rfl⟩ := trodAll_nil r1
  obtain rfl : args = #[v0, v1] := by cases args; simp_all
  obtain ⟨rfl, rfl⟩ := trodVars_none hV
  obtain ⟨a0, len0, cap0, rfl⟩ := okWide_slice Try.underlying22 (hval 0 22 v0 rfl rfl)
  have k0 := h0
  have lt0 : ∀ x ∈ p0, x.block < W.heap.size := by obtain ⟨m, hm⟩ := k0; exact DataW.trod_lt m _ _ _ hm
  obtain ⟨z0, w0⟩ : ∃ f, IsActs W W.heap.size a0 len0 f ∧ len0 ≤ maxLen := by
    obtain ⟨fuel, hf⟩ := h0
    exact acts_open (by simpa [Value.cells] using hf)
  obtain ⟨a1, rfl, rfl, rfl, w1⟩ := open_int Try.underlying2 (hval 1 2 v1 rfl rfl) h1
  clear hA0 hval0
  refine (walk a0 len0 cap0 z0 a1 W w0 w1).mono fun e W' ⟨he, bel⟩ => ?_
  subst he
  exact ⟨_, rfl, _, _, _, [], _, [], hW', trodAll_mk1 (shut_bool Try.underlying4 _), (trodAll_cons_mk (Below.trod laidOut (by kernel_rfl) (of_decide_eq_true (by kernel_rfl)) k0 bel lt0) (trodAll_cons_mk (shut_int Try.underlying2 w1) trodAll_mk0)), rfl, bel.frame _, fun h => by cases h⟩

theorem over : Rows.retryTakesRow.holds Try.pinned (OpenSpec.ofChange Rows.retryTakesSpec) :=
  OpenClaim.holds_of_wide 5 Try.f5 rfl rfl rfl rfl rfl rfl rfl ⟨rfl, rfl, rfl, rfl, rfl⟩ rfl rfl rfl rfl rfl (by kernel_rfl) Try.func5 (by kernel_rfl)
    (of_decide_eq_true (by kernel_rfl)) (by unfold Func.isWrapper; first | (rw [if_pos (by decide +kernel)]; kernel_rfl) | (rw [if_neg (by decide +kernel)]; exact ⟨rfl, rfl⟩))
    (fun os started H enc _ => lifted os started H enc)

theorem proved : Rows.RetryTakesSaid :=
  over
end Go.Proofs.Ytcnjgjgppbakdaa.retryTakes

namespace Go.Proofs.Ytcnjgjgppbakdaa
theorem retryTakes_holds : Rows.RetryTakesSaid := retryTakes.proved
#print axioms retryTakes_holds
end Go.Proofs.Ytcnjgjgppbakdaa

