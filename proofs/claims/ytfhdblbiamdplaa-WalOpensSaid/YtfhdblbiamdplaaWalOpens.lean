/-
  Proved: whatever the arguments are, carrierlaw04.WalOpens answers true and leaves its arguments as they were. No condition.
-/
import Derived.Test.YtfhdblbiamdplaaWw
import Derived.ProofKit
import Derived.OpenShut
import Derived.ChangeOld
import Derived.Below
namespace Go.Proofs.Ytfhdblbiamdplaa.walOpens
open Go.ChangeShapes Go.WideShapes Go.ChangeAt Go.RowKit
set_option linter.unusedVariables false

theorem own : ownKnob Try.prog.godebug = none := by kernel_rfl
theorem laidOut : laidOutB Try.prog = true := by kernel_rfl

set_option maxHeartbeats 8000000 in
set_option maxRecDepth 100000 in
theorem walk (a0 : Option Addr) (len0 cap0 : Nat) (L : List (List UInt8)) (a1 : Option Addr) (len1 cap1 : Nat) (z1 : List Int) (a2 : Int) (W : World) (w0 : RbR W W.heap.size (.slice a0 len0 cap0) L) (w1 : IsRow .u8 W a1 len1 cap1 z1) (w2 : (Lit.int .u8 a2).wf = true) :
    Calls Try.prog 4 #[.slice a0 len0 cap0, .slice a1 len1 cap1, .int .u8 a2] W fun e w' => e = .returned (.bool true) ∧ Below W.heap.size W w' := by
  obtain ⟨P, rfl, hrd⟩ := isRow_rd w1
  have HP := Lib.hid hrd
  have HL := Lib.hid w0
  obtain ⟨_, _, hv, hm, hrows⟩ := w0
  simp only [Value.slice.injEq] at hv
  obtain ⟨rfl, rfl, rfl⟩ := hv
  have HR := Lib.hid hrows
  have b2 := bounds_u8 w2
  obtain ⟨n2, rfl⟩ : ∃ n2 : Nat, a2 = (n2 : Int) := ⟨a2.toNat, by omega⟩
  obtain ⟨d, hd⟩ : ∃ d : Nat, (n2 : Int) % 4 = (d : Int) := ⟨n2 % 4, by omega⟩
  have hd4 : d < 4 := by omega
  clear w1 w2 hrd hrows b2 hm
  go_enter Try.func4, Try.ntmps4
  go_wp2_with fail
  refine (fresh_any W).mono ?_
  rintro e w1 ⟨rfl, hk⟩
  have K1 := Lib.hid hk
  clear hk
  go_wp2_with fail
  refine (few_any _ L w1 W.heap.size (HL.out.keep K1.out)).mono ?_
  rintro e wf ⟨r, rfl, hr, rfl⟩
  cases r with
  | false =>
    go_wp2_with fail
    refine (fresh_any _).mono ?_
    rintro e w2 ⟨rfl, hk⟩
    have K2 := Lib.hid (K1.out.trans hk (by simp))
    clear hk
    go_wp2
    go_ret
    exact ⟨rfl, K2.out.below (Nat.le_refl _) (by simp)⟩
  | true =>
    obtain ⟨hL12, hL100⟩ := hr rfl
    have HF := Lib.hid (And.intro hL12 hL100)
    clear hr hL100
    by_cases h100 : (100 : Int) < (P.length : Int)
    · skip
      go_wp2_with fail
      refine (fresh_any _).mono ?_
      rintro e w2 ⟨rfl, hk⟩
      have K2 := Lib.hid (K1.out.trans hk (by simp))
      clear hk
      go_wp2
      go_ret
      exact ⟨rfl, K2.out.below (Nat.le_refl _) (by simp)⟩
    go_wp2
    go_loopw [7, 8] (fun s7 t wr => ∃ (k : Nat) (Q : List UInt8), t = .int .i64 k ∧ k ≤ L.length ∧ Q.length ≤ 106 * k ∧ Rd wr s7 Q ∧ Kept w1 wr []) (fun _ t _ => L.length - (intOf t).toNat)
    case atStart => exact ⟨0, [], rfl, Nat.zero_le _, Nat.le_refl _, Rd.nil _, Kept.refl _ _⟩
    case round =>
      obtain ⟨k, Q, rfl, hk, hQ, hrd, hkp⟩ := hrel
      have RQ := Lib.hid hrd; have K := Lib.hid hkp
      obtain ⟨qa, qc, hqv, _⟩ := hrd
      subst hqv
      clear hkp
      by_cases hlt : k < L.length
      · obtain ⟨b, o, rfl, hx⟩ := HR.out (by omega)
        obtain ⟨u, hu, hrb⟩ := hx k hlt
        have hx100 := HF.out.2 _ (List.getElem_mem hlt)
        have hc := (K1.out.trans K.out (by simp)).cell (p := ⟨b, o + k, none⟩) (by simp) hu
        have hrb' : Rd wr u L[k] := hrb.rd.kept (K1.out.trans K.out (by simp)) (by simp)
        obtain ⟨x, hxe⟩ : ∃ x, x = L[k] := ⟨_, rfl⟩
        rw [← hxe] at hx100 hrb'
        have RX := Lib.hid hrb'
        obtain ⟨ua, uc, huv, _⟩ := hrb'
        subst huv
        have x1 : (k : Int) < (L.length : Int) := by omega
        clear hx hu hrb hxe
        by_cases h0 : (0 : Int) < (x.length : Int)
        · go_wp2_with fail
          refine (rframe_any _ x wr RX.out (by omega)).mono ?_
          rintro e w3 ⟨v3, rfl, ho, hk3⟩
          have O3 := Lib.hid ho; have K3 := Lib.hid hk3
          clear ho hk3
          go_wp2_with fail
          refine (join_any _ _ Q (frameB x) w3 (RQ.out.kept K3.out (by simp)) O3.out.rd (by have := HF.out.1; omega) (by rw [frameB_length]; omega)).mono ?_
          rintro e w4 ⟨v4, rfl, ho, hk4⟩
          have O4 := Lib.hid ho; have K4 := Lib.hid (K.out.trans (K3.out.trans hk4 (by simp)) (by simp))
          clear ho hk4
          go_wp2
          go_roundw
          case rel => exact ⟨k + 1, Q ++ frameB x, by go_num, by omega, by rw [List.length_append, frameB_length]; omega, O4.out.rd, K4.out⟩
          case measure => simp [intOf]; omega
        · go_wp2
          go_roundw
          case rel => exact ⟨k + 1, Q, by go_num, by omega, by omega, RQ.out, K.out⟩
          case measure => simp [intOf]; omega
      · obtain rfl : k = L.length := by omega
        have x1 : ¬ (L.length : Int) < (L.length : Int) := by omega
        have hQb : Q.length ≤ 1272 := by have := HF.out.1; omega
        clear hQ
        go_wp2_with fail
        refine (join_any _ _ Q P wr RQ.out (HP.out.kept (K1.out.trans K.out (by simp)) (by simp)) (by omega) (by omega)).mono ?_
        rintro e w3 ⟨v3, rfl, ho, hk3⟩
        obtain ⟨q3, hq3⟩ : ∃ q3, q3 = Q ++ P := ⟨_, rfl⟩
        rw [← hq3] at ho
        have hq3l : q3.length ≤ 1400 := by rw [hq3, List.length_append]; omega
        have O3 := Lib.hid ho.rd; have K3 := Lib.hid (K.out.trans hk3 (by simp))
        obtain ⟨a3, c3, hv3⟩ := ho.shape
        subst hv3
        obtain ⟨y, hy⟩ : ∃ y : Nat, y = q3.length / 32 := ⟨_, rfl⟩
        have e1 : (q3.length : Int) / 32 = (y : Int) := by omega
        obtain ⟨N, hN⟩ : ∃ N : Nat, N = y + d + 1 := ⟨_, rfl⟩
        have e2 : (y : Int) + (d : Int) + 1 = (N : Int) := by omega
        have hN1 : N ≤ 4000 := by omega
        have hN2 : q3.length ≤ 32 * N := by omega
        have HNN := Lib.hid (And.intro hN1 hN2)
        clear ho hk3 hq3 hy hN hN1 hN2 RQ K
        go_wp2_with fail
        refine (lawlaid_any w3 N _ q3 O3.out HNN.out.1 HNN.out.2).mono ?_
        rintro e w4 ⟨p, gn, gs, q, vs4, X, rfl, hd4', hr4, hk4⟩
        have D4 := Lib.hid hd4'; have R4 := Lib.hid hr4; have K4 := Lib.hid hk4
        have hz4 := hk4.size
        clear hd4' hr4 hk4 e1 e2
        go_wp2_with fail
        refine (open_any D4.out rfl (by decide) hz4).mono ?_
        rintro e w5 ⟨lg, vr5, rfl, O5⟩
        have HO5 := Lib.hid O5
        obtain ⟨_, _, _, _, _, _, _, hf, _⟩ := O5
        have R5 := Lib.hid (R4.out.frame hf (Nat.le_refl _) (by decide) (by decide) (by decide)); have K5 := Lib.hid (kept_fr K4.out hf)
        clear hf
        go_wp2_with fail
        refine (ropen_any R5.out X rfl (by decide) K5.out.size).mono ?_
        rintro e w6 ⟨rl, vr6, rfl, O6⟩
        obtain ⟨⟨safe6, v6, vs6, vw6, hp6⟩, hra, hrb⟩ := wp_opened K4.out R5.out HO5.out O6
        have P6 := Lib.hid hp6; have RA := Lib.hid hra; have RB := Lib.hid hrb
        have hXl : X.length ≤ 200000 := by have := R5.out.n12; have := R5.out.ls; omega
        clear O6 hp6 hra hrb R4 R5 HO5 K4 K5 D4
        go_wp2_with fail
        refine (bytes_any P6.out.D).mono ?_
        rintro e w7 ⟨v7, rfl, hrd7, hk7⟩
        have P7 := Lib.hid (P6.out.keep hk7)
        have A7 := Lib.hid hrd7
        obtain ⟨a7, c7, hv7, _⟩ := hrd7
        have hcl : (clr X).length = 32 * N := P7.out.D.ln
        obtain ⟨s, hs⟩ : ∃ s, s = szs (scan X) := ⟨_, rfl⟩
        have hsl : s ≤ 32 * N := by rw [hs]; exact P7.out.hs
        have hRA7 := Lib.hid (RA.out.frame (Fr.ofKept hk7 0 []) (Nat.le_refl _) (by simp) (by simp)); have hRB7 := Lib.hid (RB.out.frame (Fr.ofKept hk7 0 []) (Nat.le_refl _) (by simp) (by simp))
        obtain ⟨z, hz⟩ : ∃ z, z = (clr X).length := ⟨_, rfl⟩
        rw [← hz] at hv7
        subst hv7
        have HZ := Lib.hid (And.intro hz hcl)
        have HS := Lib.hid hs
        have hG := P7.out.G
        rw [← hs] at hG
        have hH := P7.out.H
        rw [← hs] at hH
        have G7 := Lib.hid hG; have H7 := Lib.hid hH
        clear hk7 hcl hz hs RA RB hG hH
        go_wp2_with fail
        refine (lsize_any G7.out).mono ?_
        rintro e w8 ⟨rfl, rfl⟩
        have hzb : s ≤ z := by have := HZ.out.1.trans HZ.out.2; omega
        have hzb2 : z ≤ 200000 := by have := HZ.out.1.trans HZ.out.2; have := HNN.out.1; omega
        clear hsl
        go_wp2
        go_loop [18] (fun t => ∃ i : Nat, t = .int .i64 i ∧ s ≤ i ∧ i ≤ z) (fun t => z - (intOf t).toNat)
        case atStart => exact ⟨s, rfl, Nat.le_refl _, by omega⟩
        case round =>
          obtain ⟨i, rfl, hi1, hi2⟩ := hrel
          by_cases hiz : i < z
          · obtain ⟨ab, ao, ha7, hcell⟩ : ∃ ab ao, a7 = some ⟨ab, ao, none⟩ ∧ w7.cell? ⟨ab, ao + i, none⟩ = some (.int .u8 0) := by
              obtain ⟨_, _, e, _, _, hh⟩ := A7.out
              simp only [Value.slice.injEq] at e
              obtain ⟨rfl, _, _⟩ := e
              have hlen := HZ.out.1
              obtain ⟨ab, ao, e, hcell⟩ := hh (by rintro h0; rw [h0] at hlen; simp at hlen; omega)
              refine ⟨ab, ao, e, ?_⟩
              rw [hcell i (by omega), clr_behind X i (by rw [← HS.out]; exact hi1)]
              rfl
            subst ha7
            have x2 : (i : Int) < (z : Int) := by omega
            go_wp2
            go_round
            case rel => exact ⟨i + 1, by go_num, by omega, by omega⟩
            case measure => simp [intOf]; omega
          · obtain rfl : i = z := by omega
            have x2 : ¬ (i : Int) < (i : Int) := by omega
            have HC : Hid (∀ V, Kept w7 V [] → Calls Try.prog 25 #[vr5, vr6] V fun e w' => e = .returned (.bool true) ∧ Kept V w' []) := Lib.hid (fun V hV => same_any _ _ (scan X) (hRA7.out.frame (Fr.ofKept hV 0 []) (Nat.le_refl _) (by simp) (by simp)) (hRB7.out.frame (Fr.ofKept hV 0 []) (Nat.le_refl _) (by simp) (by simp)) (by have := (szs_len (scan X)).1; have := szs_scan X.length X (Nat.le_refl _); omega) (fun x hx => by have := (szs_len (scan X)).2 x hx; have := szs_scan X.length X (Nat.le_refl _); omega))
            have HA : Hid (∀ V, Kept w7 V [] → Calls Try.prog 28 #[.pointer (some ⟨q, 0, none⟩)] V fun e w' => ∃ u, e = .returned u ∧ Rd w' u (clr X) ∧ Kept V w' []) := Lib.hid (fun V hV => (rall_any (P7.out.keep hV).R (by decide)).mono (by
              rintro e w' ⟨u, rfl, ho, hk⟩
              rw [← P7.out.N] at ho
              exact ⟨u, rfl, ho.rd, hk⟩))
            have HE : Hid (∀ V ub, Kept w7 V [] → Rd V ub (clr X) → Calls Try.prog 26 #[.slice a7 i c7, ub] V fun e w' => e = .returned (.bool true) ∧ Kept V w' []) := Lib.hid (fun V ub hV hb => (alike_any _ ub (clr X) (clr X) V (A7.out.kept hV (by simp)) hb (by rw [← HZ.out.1]; omega)).mono (by
              rintro e w' ⟨rfl, hk⟩
              exact ⟨by simp, hk⟩))
            have HW : Hid (∀ V, Kept w7 V [] → Calls Try.prog 29 #[.pointer (some ⟨p, 0, none⟩)] V fun e w' => e = .returned (.int .i64 0) ∧ V = w') := Lib.hid (fun V hV => waiting_any (P7.out.keep hV).D)
            have HZ2 : Hid (∀ V, Kept w7 V [] → Calls Try.prog 30 #[.pointer (some ⟨lg, 0, none⟩)] V fun e w' => e = .returned (.int .i64 s) ∧ V = w') := Lib.hid (fun V hV => lsize_any (G7.out.frame (Fr.ofKept hV 0 []) (by simp)))
            have HY : Hid (∀ V, Kept w7 V [] → V.cell? ⟨rl, 1, none⟩ = some (.int .i64 s)) := Lib.hid (fun V hV => (H7.out.frame (Fr.ofKept hV 0 []) (by simp)).cell.2)
            have k8 := (Kept.refl w7 []).drew
            have y2 := HY.out _ k8
            go_wp2_with fail
            go_region_held3 (fun V => V.cell? ⟨rl, 1, none⟩ = some (.int .i64 s)) (exact y2)
              (first
                | (go_at_call 25; refine (HC.out _ ?_).mono ?_; assumption; rintro e w8 ⟨rfl, kv⟩; have k8 := k8.trans kv (by simp); have y2 := HY.out _ k8)
                | (go_at_call 28; refine (HA.out _ ?_).mono ?_; assumption; rintro e w9 ⟨ub, rfl, rB, kv⟩; have k8 := k8.trans kv (by simp); have y2 := HY.out _ k8)
                | (go_at_call 26; refine (HE.out _ _ ?_ rB).mono ?_; assumption; rintro e w8 ⟨rfl, kv⟩; have k8 := k8.trans kv (by simp); have y2 := HY.out _ k8)
                | (go_at_call 29; refine (HW.out _ ?_).mono ?_; assumption; rintro e w8 ⟨rfl, rfl⟩)
                | (go_at_call 30; refine (HZ2.out _ ?_).mono ?_; assumption; rintro e w8 ⟨rfl, rfl⟩))
            go_wp2
            go_ret
            exact ⟨rfl, (K1.out.trans (K3.out.trans (P7.out.K.trans k8 (by simp)) (by simp)) (by simp)).below (Nat.le_refl _) (by simp)⟩

set_option maxRecDepth 100000 in
theorem lifted (os : Os) (started : os.Started) (H : Type) (enc : TypeId × Value → H) :
    ReturnsInHanded {} Try.checked os 4 .any (Rows.walOpensSpec.pre6 enc Try.prog Try.f4 Rows.walOpensRow.domain false) (Rows.walOpensSpec.post enc Try.prog Try.f4 false true false false) := by
  refine returnsInHanded_of_change (C := Try.checked) own started (by kernel_rfl) Try.func4
    (ChangeSpec.witness6 (enc := enc) (C := Try.checked) false ⟨#[], #[.slice none 0 0, .slice none 0 0, .int .u8 0], []⟩ 8 (by kernel_rfl) (by kernel_rfl) (by kernel_rfl) (by kernel_rfl)) ?_
  intro W base args ds gs before hval0 hW hcnd _
  have hval : ∀ (j : Nat) t v, Try.f4.params[j]? = some t → args[j]? = some v → Value.okWide Try.prog W .any base t v := hval0
  have hW' := hW
  obtain ⟨p, q, hA0, hV, rfl, hfz, hnd⟩ := hW
  have hA : DataW.TrodAll enc Try.prog W 0 (fun _ => true) true Try.f4.params.toList args.toList ds p := hA0
  rw [Try.params4] at hA hval
  obtain ⟨v0, vs0, d0, ds0, p0, q0, hargs, rfl, rfl, h0, r0⟩ := trodAll_cons hA
  obtain ⟨v1, vs1, d1, ds1, p1, q1, rfl, rfl, rfl, h1, r1⟩ := trodAll_cons r0
  obtain ⟨v2, vs2, d2, ds2, p2, q2, rfl, rfl, rfl, h2, r2⟩ := trodAll_cons r1
  obtain ⟨rfl, rfl, rfl⟩ := trodAll_nil r2
  obtain rfl : args = #[v0, v1, v2] := by cases args; simp_all
  obtain ⟨rfl, rfl⟩ := trodVars_none hV
  obtain ⟨a0, len0, cap0, rfl⟩ := okWide_slice Try.underlying29 (hval 0 29 v0 rfl rfl)
  have k0 := h0
  have lt0 : ∀ x ∈ p0, x.block < W.heap.size := by obtain ⟨m, hm⟩ := k0; exact DataW.trod_lt m _ _ _ hm
  obtain ⟨z0, w0⟩ : ∃ l, RbR W W.heap.size (.slice a0 len0 cap0) l := by
    obtain ⟨fuel, hf⟩ := h0
    exact rows_open (by simpa [Value.cells] using hf)
  obtain ⟨a1, len1, cap1, rfl⟩ := okWide_slice Try.underlying36 (hval 1 36 v1 rfl rfl)
  have k1 := h1
  have lt1 : ∀ x ∈ p1, x.block < W.heap.size := by obtain ⟨m, hm⟩ := k1; exact DataW.trod_lt m _ _ _ hm
  obtain ⟨z1, w1⟩ : ∃ zs, IsRow .u8 W a1 len1 cap1 zs := by
    obtain ⟨fuel, hf⟩ := h1
    rcases open_ints Try.underlying36 Try.underlying5 (by kernel_rfl) hf with ⟨hcs, _⟩ | ⟨x, l, c, zs, hcs, _, hl, hm, hz, _, hcell, hwz⟩
    · simp [Value.cells] at hcs
      obtain ⟨rfl, rfl, rfl⟩ := hcs
      exact ⟨[], .inl ⟨rfl, rfl, rfl, rfl⟩⟩
    · simp [Value.cells] at hcs
      obtain ⟨rfl, rfl, rfl⟩ := hcs
      exact ⟨zs, .inr ⟨_, rfl, hl, hm, by simpa using hz, hcell, hwz⟩⟩
  obtain ⟨a2, rfl, rfl, rfl, w2⟩ := open_int Try.underlying5 (hval 2 5 v2 rfl rfl) h2
  clear hA0 hval0
  refine (walk a0 len0 cap0 z0 a1 len1 cap1 z1 a2 W w0 w1 w2).mono fun e W' ⟨he, bel⟩ => ?_
  subst he
  exact ⟨_, rfl, _, _, _, [], _, [], hW', trodAll_mk1 (shut_bool Try.underlying4 _), (trodAll_cons_mk (Below.trod laidOut (by kernel_rfl) (of_decide_eq_true (by kernel_rfl)) k0 bel lt0) (trodAll_cons_mk (Below.trod laidOut (by kernel_rfl) (of_decide_eq_true (by kernel_rfl)) k1 bel lt1) (trodAll_cons_mk (shut_int Try.underlying5 w2) trodAll_mk0))), rfl, bel.frame _, fun h => by cases h⟩

theorem over : Rows.walOpensRow.holds Try.pinned (OpenSpec.ofChange Rows.walOpensSpec) :=
  OpenClaim.holds_of_wide 4 Try.f4 rfl rfl rfl rfl rfl rfl rfl ⟨rfl, rfl, rfl, rfl, rfl⟩ rfl rfl rfl rfl rfl (by kernel_rfl) Try.func4 (by kernel_rfl)
    (of_decide_eq_true (by kernel_rfl)) (by unfold Func.isWrapper; first | (rw [if_pos (by decide +kernel)]; kernel_rfl) | (rw [if_neg (by decide +kernel)]; exact ⟨rfl, rfl⟩))
    (fun os started H enc _ => lifted os started H enc)

theorem proved : Rows.WalOpensSaid :=
  over
end Go.Proofs.Ytfhdblbiamdplaa.walOpens

namespace Go.Proofs.Ytfhdblbiamdplaa
theorem walOpens_holds : Rows.WalOpensSaid := walOpens.proved
#print axioms walOpens_holds
end Go.Proofs.Ytfhdblbiamdplaa

