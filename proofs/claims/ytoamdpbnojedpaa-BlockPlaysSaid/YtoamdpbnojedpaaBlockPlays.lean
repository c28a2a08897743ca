/-
  Proved: whatever the arguments are, carrierlaw03.BlockPlays answers true and leaves its arguments as they were. No condition.
-/
import Derived.Test.YtoamdpbnojedpaaSteps2
import Derived.Test.YtoamdpbnojedpaaRefCrash
import Derived.Deep.DeepCutAuto
namespace Go.Proofs.Ytoamdpbnojedpaa.blockPlays
open Go.ChangeShapes Go.WideShapes Go.ChangeAt Go.RowKit
set_option linter.unusedVariables false

theorem own : ownKnob Try.prog.godebug = none := by kernel_rfl
theorem laidOut : laidOutB Try.prog = true := by kernel_rfl

theorem _root_.Go.Proofs.Try.size32 : (Try.prog.info? 32).map (·.size) = some 5 := by kernel_rfl

section
variable {w : World} {g : Nat} {t : TypeId} {fz : Nat × Nat} {c0 c1 c2 c3 c4 : Value} (h : w.heap[g]? = some (.cells [c0, c1, c2, c3, c4].toArray t fz))
include h
theorem act_c0 : w.cell? ⟨g, 0, none⟩ = some c0 := by simpa using cell_of_row w g 0 _ _ _ h
theorem act_c1 : w.cell? ⟨g, 1, none⟩ = some c1 := by simpa using cell_of_row w g 1 _ _ _ h
theorem act_c2 : w.cell? ⟨g, 2, none⟩ = some c2 := by simpa using cell_of_row w g 2 _ _ _ h
theorem act_c3 : w.cell? ⟨g, 3, none⟩ = some c3 := by simpa using cell_of_row w g 3 _ _ _ h
theorem act_c4 : w.cell? ⟨g, 4, none⟩ = some c4 := by simpa using cell_of_row w g 4 _ _ _ h
end

theorem wrap_small {c : Nat} (h : c < 6) : IntKind.i64.wrap (c : Int) = (c : Int) := by
  have h1 : c = 0 ∨ c = 1 ∨ c = 2 ∨ c = 3 ∨ c = 4 ∨ c = 5 := by omega
  rcases h1 with rfl | rfl | rfl | rfl | rfl | rfl <;> rfl

/-- The cells of an act. -/
def acell (x : ActD) : List Value := [.int .u8 x.d, .int .i64 x.i, x.pv, x.lv, .int .i64 x.t]

theorem five_one (d I T : Int) (pa la : Option Addr) (n1 c1 n2 c2 : Nat) : ∀ u ∈ [Value.int .u8 d, .int .i64 I, .slice pa n1 c1, .slice la n2 c2, .int .i64 T], u.oneCell' = true := by
  intro u hu
  simp at hu
  rcases hu with rfl | rfl | rfl | rfl | rfl <;> rfl

set_option maxHeartbeats 40000000 in
set_option maxRecDepth 100000 in
theorem walk (n : Int) (a1 : Option Addr) (len1 cap1 : Nat) (f1 : Nat → ActD) (W : World) (w0 : (Lit.int .i64 n).wf = true) (w1 : IsActs W W.heap.size a1 len1 f1 ∧ len1 ≤ maxLen) :
    Calls Try.prog 3 #[.int .i64 n, .slice a1 len1 cap1] W fun e w' => e = .returned (.bool true) ∧ Below W.heap.size W w' := by
  have Hf1 := Lib.hid w1.1
  have hm1 := w1.2
  have hn64 := bounds_i64 w0
  clear w0 w1
  obtain ⟨kk, hkk⟩ : ∃ kk : Int, n.tmod 6 = kk := ⟨_, rfl⟩
  have hkb : -6 < kk ∧ kk < 6 := by rw [← hkk]; exact tmod_bd n 6 (by decide)
  obtain ⟨c, hc⟩ : ∃ c, c = clampN kk := ⟨_, rfl⟩
  have hc6 : c < 6 := by rw [hc]; unfold clampN; omega
  have Hc := Lib.hid hc
  clear hc
  go_enter Try.func3, Try.ntmps3
  go_wp2_with fail
  refine (kept_any W).mono ?_
  rintro e w1 ⟨rfl, hk⟩
  have K1 := Lib.hid hk; have hz1 := hk.size; clear hk
  go_wp2_with fail
  refine (small_any a1 len1 cap1 f1 w1 W.heap.size (Hf1.out.frame K1.out) hm1).mono ?_
  rintro e w0 ⟨r1, rfl, hr1, rfl⟩
  cases r1 with
  | false =>
    go_wp2_with fail
    refine (kept_any w1).mono ?_
    rintro e wx ⟨rfl, hk⟩
    have KX := Lib.hid (K1.out.trans hk (by simp)); clear hk
    go_wp2
    go_ret
    exact ⟨rfl, KX.out.below (Nat.le_refl _) (by simp)⟩
  | true =>
    have h61 := hr1 rfl
    clear hr1 hm1
    go_wp2_with fail
    refine (new_any kk w1).mono ?_
    rintro e w2 ⟨p, gn, gs, rfl, hd, hk⟩
    rw [← Hc.out] at hd
    have D2 := Lib.hid hd; have K2 := Lib.hid (K1.out.trans hk (by simp)); have hz2 := hk.size
    clear hd hk
    go_wp2_with fail
    refine (rnew_any kk w2).mono ?_
    rintro e w3 ⟨q, vs3, rfl, hr, hk⟩
    rw [← Hc.out] at hr
    have R3 := Lib.hid (Rf.lower hr hz2); have K3 := Lib.hid (K2.out.trans hk (by simp)); have hz3 := hk.size
    have D3 := Lib.hid (D2.out.frame (Fr.ofKept hk 0 []) (by simp) (by simp) (by simp))
    clear hr hk hkk
    go_wp2
    go_loopw [8] (fun t wr => ∃ (i : Nat) (v vs vw : Value) (now safe : List UInt8) (ws : List Wt), t = .int .i64 i ∧ i ≤ len1 ∧ ws.length ≤ i ∧ Dv wr w1.heap.size p gn gs v c now safe ws ∧ Rf wr w1.heap.size q vs vw c safe (pairs ws) ∧ now = laid safe (pairs ws) ∧ Kept W wr []) (fun t _ => len1 - (intOf t).toNat)
    case atStart => exact ⟨0, _, _, _, _, _, [], rfl, Nat.zero_le _, Nat.le_refl _, D3.out, R3.out, rfl, K3.out⟩
    case round =>
      obtain ⟨i, v, vs, vw, now, safe, ws, rfl, hi, hwi, hd, hr, hnow, hk⟩ := hrel
      have D := Lib.hid hd; have R := Lib.hid hr; have Hnow := Lib.hid hnow; have K := Lib.hid hk
      have hzb : w1.heap.size ≤ wr.heap.size := Nat.le_trans hd.bp (by have := heap_lt hd.hp; omega)
      clear hd hr hnow hk
      by_cases hlt : i < len1
      · obtain ⟨b, o, rfl, hx⟩ := Hf1.out (by omega)
        have X := hx i hlt
        generalize f1 i = x at X
        obtain ⟨d, I, pv, P, lv, Ls, T⟩ := x
        have Y := X.frame K.out
        obtain ⟨pa, pc, hpv, _⟩ := Y.rp
        obtain ⟨la, lc, hlv, _⟩ := Y.rl
        simp only at hpv hlv
        subst hpv
        subst hlv
        have rp := Lib.hid ((Y.rp).mono hz1); have rl := Lib.hid (RbB.mono Y.rl hz1)
        have y0 := Y.c0; have y1 := Y.c1; have y2 := Y.c2; have y3 := Y.c3; have y4 := Y.c4
        have hd8 := Y.d8; have hI64 := Y.i64; have hT64 := Y.t64
        simp only at y0 y1 y2 y3 y4 hd8 hI64 hT64
        clear hx X Y
        have hwsb : ws.length ≤ 1000000 := by omega
        have Hpl := Lib.hid (show (pairs ws).length = ws.length by simp [pairs])
        have hAx : ∃ A : Int, ((20 : Int) ≤ (d : Int) ∧ I.tmod 6 = A) ∨ (¬ (20 : Int) ≤ (d : Int) ∧ A = I) := by
          by_cases h : (20 : Int) ≤ (d : Int)
          · exact ⟨_, .inl ⟨h, rfl⟩⟩
          · exact ⟨_, .inr ⟨h, rfl⟩⟩
        obtain ⟨A, hAx⟩ := hAx
        have HAx := Lib.hid hAx
        clear hAx
        go_upto_if 48 with (refine wpList_store_new wr rfl 32 (.tmp 9) (.tmp 43) rfl _ 32 [.int .u8 d, .int .i64 I, .slice pa P.length pc, .slice la Ls.length lc, .int .i64 T] rfl rfl Try.size32 rfl (five_one _ _ _ _ _ _ _ _ _) ?_; intro w4 hb4 hk4 hz4; have z0 := act_c0 hb4.out; have z1 := act_c1 hb4.out; have z2 := act_c2 hb4.out; have z3 := act_c3 hb4.out; have z4 := act_c4 hb4.out; have D4 := Lib.hid (D.out.frame (Fr.ofKept hk4.out 0 []) (by simp) (by simp) (by simp)); have R4 := Lib.hid (R.out.frame (Fr.ofKept hk4.out w1.heap.size []) (Nat.le_refl _) (by simp) (by simp) (by simp)); have K4 := Lib.hid (K.out.trans hk4.out (by simp)); have rp4 := Lib.hid (rp.out.frame (Fr.ofKept hk4.out w1.heap.size []) (Nat.le_refl _) (by simp)); have rl4 := Lib.hid (rl.out.frame (Fr.ofKept hk4.out w1.heap.size []) (Nat.le_refl _) (by simp)))
        go_cut [10] (fun s10 wx => s10 = .int .i64 A ∧ w4 = wx)
        case first =>
          obtain ⟨hd20, hA⟩ | ⟨hd20, hA⟩ := HAx.out
          · go_wp2_with fail
            go_meet
            exact ⟨rfl, rfl⟩
          · subst hA
            go_wp2_with fail
            go_meet
            exact ⟨rfl, rfl⟩
        case rest =>
          obtain ⟨rfl, rfl⟩ := hcut
          obtain ⟨t, ht⟩ : ∃ t : Nat, (d : Int) % 8 = t := ⟨d % 8, by omega⟩
          rcases (show t ≤ 4 ∨ t = 5 ∨ t = 6 ∨ t = 7 by omega) with ht4 | ht4 | ht4 | ht4
          · go_upto_region 21 with fail
            all_goals
              have hz4b : w1.heap.size ≤ w4.heap.size := by omega
              have Z1 := Lib.hid z2
              go_region_held3 (fun W' => W'.cell? ⟨wr.heap.size, 2, none⟩ = some (.slice pa P.length pc))
                (first | exact Z1.out | exact Z2 | exact Z3)
                (first
                  | (go_at_call 14; refine (write_step D4.out.drew A _ P (rp4.out.frame (Fr.refl w1.heap.size [] w4).drew (Nat.le_refl _) (by simp)) hwsb hz4b).mono ?_; rintro e w5 ⟨rfl, v5, hd, hf⟩; have D5 := Lib.hid hd; have K5 := Lib.hid (K4.out.drew.later hf hz1); have R5 := Lib.hid ((R4.out.frame (Fr.refl w1.heap.size [] w4).drew (Nat.le_refl _) (by simp) (by simp) (by simp)).frame hf (Nat.le_refl _) (by decide) (by decide) (by decide)); have rp5 := Lib.hid ((rp4.out.frame (Fr.refl w1.heap.size [] w4).drew (Nat.le_refl _) (by simp)).frame hf (Nat.le_refl _) (by decide)); have hb5 := Lib.hid (hf.heap (show w4.drew.heap[wr.heap.size]? = _ from hb4.out) (by decide)); have Z2 := act_c2 hb5.out; have hz5b : w1.heap.size ≤ w5.heap.size := Nat.le_trans hz4b hf.size; clear hd hf)
                  | (go_at_call 15; refine (rput_step R5.out A _ P rp5.out.rd (by rw [Hpl.out]; exact hwsb) hz5b).mono ?_; rintro e wT ⟨rfl, v6, hr, hf⟩; rw [← pairs_wsW] at hr; have R6 := Lib.hid hr; have KT := Lib.hid (K5.out.later hf hz1); have D6 := Lib.hid (D5.out.frame hf (by decide) (by decide) (by decide)); have hbT := Lib.hid (hf.heap hb5.out (by decide)); have Z3 := act_c2 hbT.out; have hzT : w1.heap.size ≤ wT.heap.size := Nat.le_trans hz5b hf.size; clear hr hf))
              have N6 := Lib.hid (nowW_laid c A P now safe ws Hnow.out)
              have L6 : (wsW c A P ws).length ≤ i + 1 := Nat.le_trans (wsW_length c A P ws) (by omega)
              obtain ⟨vT, vsT, vwT, nowT, safeT, wsT, DT, RT, HnT, LT⟩ : ∃ (vT vsT vwT : Value) (nowT safeT : List UInt8) (wsT : List Wt), Hid (Dv wT w1.heap.size p gn gs vT c nowT safeT wsT) ∧ Hid (Rf wT w1.heap.size q vsT vwT c safeT (pairs wsT)) ∧ Hid (nowT = laid safeT (pairs wsT)) ∧ wsT.length ≤ i + 1 := ⟨_, _, _, _, _, _, D6, R6, N6, L6⟩
              clear N6 L6 D6 R6 z0 z1 z2 z3 z4 Z1
              go_wp2_with fail
              refine (read_step DT.out A).mono ?_
              rintro e x1 ⟨aa1, n1, c1, rfl, hb1, hk⟩
              have P1 := Lib.hid hb1; have KA := Lib.hid (KT.out.trans hk (by simp))
              have DA := Lib.hid (DT.out.frame (Fr.ofKept hk 0 []) (by simp) (by simp) (by simp))
              have RA := Lib.hid (RT.out.frame (Fr.ofKept hk w1.heap.size []) (Nat.le_refl _) (by simp) (by simp) (by simp))
              clear hb1 hk
              go_wp2_with fail
              refine (rread_step RA.out (by simp only [pairs, List.length_map]; omega) A).mono ?_
              rintro e x2 ⟨aa2, n2, c2, rfl, hb2, hk⟩
              rw [← HnT.out] at hb2
              have P2 := Lib.hid hb2; have KB := Lib.hid (KA.out.trans hk (by simp))
              have P1 := Lib.hid (P1.out.frame (Fr.ofKept hk w1.heap.size []) (Nat.le_refl _) (by simp))
              have DB := Lib.hid (DA.out.frame (Fr.ofKept hk 0 []) (by simp) (by simp) (by simp))
              have RB := Lib.hid (RA.out.frame (Fr.ofKept hk w1.heap.size []) (Nat.le_refl _) (by simp) (by simp) (by simp))
              clear hb2 hk DT RT DA RA KT KA
              obtain ⟨aw, cw, hvw⟩ : ∃ aw cw, vwT = .slice aw wsT.length cw := by
                obtain ⟨xs, h1, _⟩ := RB.out.hw
                obtain ⟨a, c, h2⟩ := ownsRow_shape h1
                rw [pairs, List.length_map] at h2
                exact ⟨a, c, h2⟩
              obtain ⟨sa, cs, hvs⟩ : ∃ sa cs, vsT = .slice sa (32 * c) cs := by
                obtain ⟨a, c, h2⟩ := RB.out.hs.shape
                rw [RB.out.ls] at h2
                exact ⟨a, c, h2⟩
              subst hvw
              subst hvs
              have S1 := Lib.hid (And.intro RB.out.cell1 RB.out.cell0)
              have hq := quo_len (n := c)
              have hwn := wrap_len DB.out.n12
              have hwk := wrap_small hc6
              go_wp2
              go_region_held3 (fun W' => W'.cell? ⟨q, 1, none⟩ = some (.slice aw wsT.length cw) ∧ W'.cell? ⟨q, 0, none⟩ = some (.slice sa (32 * c) cs))
                (first | exact S1.out | exact S2.out)
                (first
                  | (go_at_call 22; refine (alike_any _ _ _ _ _ (P1.out.frame (Fr.refl w1.heap.size [] x2).drew (Nat.le_refl _) (by simp)).rd (P2.out.frame (Fr.refl w1.heap.size [] x2).drew (Nat.le_refl _) (by simp)).rd (Nat.le_trans (reL_small c A nowT) (by decide))).mono ?_; rintro e x3 ⟨rfl, hk⟩; rw [beq_self_eq_true]; have KC := Lib.hid (KB.out.drew.trans hk (by simp)); have DC := Lib.hid (DB.out.drew.frame (Fr.ofKept hk 0 []) (by simp) (by simp) (by simp)); have RC := Lib.hid ((RB.out.frame (Fr.refl w1.heap.size [] x2).drew (Nat.le_refl _) (by simp) (by simp) (by simp)).frame (Fr.ofKept hk w1.heap.size []) (Nat.le_refl _) (by simp) (by simp) (by simp)); have S2 := Lib.hid (And.intro RC.out.cell1 RC.out.cell0); clear hk)
                  | (go_at_call 23; refine (waiting_any DC.out).mono ?_; rintro e x4 ⟨rfl, rfl⟩)
                  | (go_at_call 24; refine (size_any DC.out).mono ?_; rintro e x4 ⟨rfl, rfl⟩))
              clear hq hwn hwk S1 ht y0 y1 y2 y3 y4
              go_wp2
              go_roundw
              case rel => first | exact ⟨i + 1, _, _, _, _, _, _, by go_num, by omega, LT, DC.out, RC.out, HnT.out, KC.out⟩ | ((repeat apply Exists.intro); exact ⟨⟨i + 1, _, _, _, _, _, _, by go_num, by omega, LT, DC.out, RC.out, HnT.out, KC.out⟩, rfl⟩)
              case measure => simp [intOf]; omega
          · obtain rfl : t = 5 := ht4
            go_wp2_with fail
            have hz4b : w1.heap.size ≤ w4.heap.size := by omega
            refine (sync_any D4.out hwsb).mono ?_
            rintro e w5 ⟨rfl, hd, hf⟩
            rw [sync_safe c safe now ws D4.out.ls D4.out.hw Hnow.out] at hd
            have D5 := Lib.hid hd; have K5 := Lib.hid (K4.out.later hf hz1)
            have R5 := Lib.hid (R4.out.frame hf (Nat.le_refl _) (by decide) (by decide) (by decide))
            have hz5b : w1.heap.size ≤ w5.heap.size := Nat.le_trans hz4b hf.size
            clear hd hf
            go_wp2_with fail
            refine (rsync_any R5.out (by rw [Hpl.out]; exact hwsb) hz5b).mono ?_
            rintro e wT ⟨rfl, vs6, hr, hf⟩
            rw [← Hnow.out] at hr
            have R6 := Lib.hid hr; have KT := Lib.hid (K5.out.later hf hz1)
            have D6 := Lib.hid (D5.out.frame hf (by decide) (by decide) (by decide))
            have hzT : w1.heap.size ≤ wT.heap.size := Nat.le_trans hz5b hf.size
            clear hr hf
            obtain ⟨vT, vsT, vwT, nowT, safeT, wsT, DT, RT, HnT, LT⟩ : ∃ (vT vsT vwT : Value) (nowT safeT : List UInt8) (wsT : List Wt), Hid (Dv wT w1.heap.size p gn gs vT c nowT safeT wsT) ∧ Hid (Rf wT w1.heap.size q vsT vwT c safeT (pairs wsT)) ∧ Hid (nowT = laid safeT (pairs wsT)) ∧ wsT.length ≤ i + 1 := ⟨_, _, _, _, _, [], D6, R6, Lib.hid rfl, Nat.zero_le _⟩
            clear D6 R6 z0 z1 z2 z3 z4
            go_wp2_with fail
            refine (read_step DT.out A).mono ?_
            rintro e x1 ⟨aa1, n1, c1, rfl, hb1, hk⟩
            have P1 := Lib.hid hb1; have KA := Lib.hid (KT.out.trans hk (by simp))
            have DA := Lib.hid (DT.out.frame (Fr.ofKept hk 0 []) (by simp) (by simp) (by simp))
            have RA := Lib.hid (RT.out.frame (Fr.ofKept hk w1.heap.size []) (Nat.le_refl _) (by simp) (by simp) (by simp))
            clear hb1 hk
            go_wp2_with fail
            refine (rread_step RA.out (by simp only [pairs, List.length_map]; omega) A).mono ?_
            rintro e x2 ⟨aa2, n2, c2, rfl, hb2, hk⟩
            rw [← HnT.out] at hb2
            have P2 := Lib.hid hb2; have KB := Lib.hid (KA.out.trans hk (by simp))
            have P1 := Lib.hid (P1.out.frame (Fr.ofKept hk w1.heap.size []) (Nat.le_refl _) (by simp))
            have DB := Lib.hid (DA.out.frame (Fr.ofKept hk 0 []) (by simp) (by simp) (by simp))
            have RB := Lib.hid (RA.out.frame (Fr.ofKept hk w1.heap.size []) (Nat.le_refl _) (by simp) (by simp) (by simp))
            clear hb2 hk DT RT DA RA KT KA
            obtain ⟨aw, cw, hvw⟩ : ∃ aw cw, vwT = .slice aw wsT.length cw := by
              obtain ⟨xs, h1, _⟩ := RB.out.hw
              obtain ⟨a, c, h2⟩ := ownsRow_shape h1
              rw [pairs, List.length_map] at h2
              exact ⟨a, c, h2⟩
            obtain ⟨sa, cs, hvs⟩ : ∃ sa cs, vsT = .slice sa (32 * c) cs := by
              obtain ⟨a, c, h2⟩ := RB.out.hs.shape
              rw [RB.out.ls] at h2
              exact ⟨a, c, h2⟩
            subst hvw
            subst hvs
            have S1 := Lib.hid (And.intro RB.out.cell1 RB.out.cell0)
            have hq := quo_len (n := c)
            have hwn := wrap_len DB.out.n12
            have hwk := wrap_small hc6
            go_wp2
            go_region_held3 (fun W' => W'.cell? ⟨q, 1, none⟩ = some (.slice aw wsT.length cw) ∧ W'.cell? ⟨q, 0, none⟩ = some (.slice sa (32 * c) cs))
              (first | exact S1.out | exact S2.out)
              (first
                | (go_at_call 22; refine (alike_any _ _ _ _ _ (P1.out.frame (Fr.refl w1.heap.size [] x2).drew (Nat.le_refl _) (by simp)).rd (P2.out.frame (Fr.refl w1.heap.size [] x2).drew (Nat.le_refl _) (by simp)).rd (Nat.le_trans (reL_small c A nowT) (by decide))).mono ?_; rintro e x3 ⟨rfl, hk⟩; rw [beq_self_eq_true]; have KC := Lib.hid (KB.out.drew.trans hk (by simp)); have DC := Lib.hid (DB.out.drew.frame (Fr.ofKept hk 0 []) (by simp) (by simp) (by simp)); have RC := Lib.hid ((RB.out.frame (Fr.refl w1.heap.size [] x2).drew (Nat.le_refl _) (by simp) (by simp) (by simp)).frame (Fr.ofKept hk w1.heap.size []) (Nat.le_refl _) (by simp) (by simp) (by simp)); have S2 := Lib.hid (And.intro RC.out.cell1 RC.out.cell0); clear hk)
                | (go_at_call 23; refine (waiting_any DC.out).mono ?_; rintro e x4 ⟨rfl, rfl⟩)
                | (go_at_call 24; refine (size_any DC.out).mono ?_; rintro e x4 ⟨rfl, rfl⟩))
            clear hq hwn hwk S1 ht y0 y1 y2 y3 y4
            go_wp2
            go_roundw
            case rel => first | exact ⟨i + 1, _, _, _, _, _, _, by go_num, by omega, LT, DC.out, RC.out, HnT.out, KC.out⟩ | ((repeat apply Exists.intro); exact ⟨⟨i + 1, _, _, _, _, _, _, by go_num, by omega, LT, DC.out, RC.out, HnT.out, KC.out⟩, rfl⟩)
            case measure => simp [intOf]; omega
          · obtain rfl : t = 6 := ht4
            go_wp2_with fail
            have hz4b : w1.heap.size ≤ w4.heap.size := by omega
            refine (crash_any D4.out hwsb _ Ls rl4.out T).mono ?_
            rintro e w5 ⟨rfl, hd, hf⟩
            rw [safeTo_all, crash_now c safe now ws Ls T D4.out.ls D4.out.hw Hnow.out] at hd
            have D5 := Lib.hid hd; have K5 := Lib.hid (K4.out.later hf hz1)
            have R5 := Lib.hid (R4.out.frame hf (Nat.le_refl _) (by decide) (by decide) (by decide))
            have rl5 := Lib.hid (rl4.out.frame hf (Nat.le_refl _) (by decide))
            have hb5 := hf.heap hb4.out (by decide)
            have hz5b : w1.heap.size ≤ w5.heap.size := Nat.le_trans hz4b hf.size
            clear z0 z1 z2 z3 z4
            have z3 := act_c3 hb5
            have z4 := act_c4 hb5
            clear hd hf hb5
            go_wp2_with fail
            refine (rcrash_any R5.out (by rw [Hpl.out]; exact hwsb) hz5b _ Ls rl5.out T).mono ?_
            rintro e wT ⟨rfl, vs6, hr, hf⟩
            rw [Hpl.out] at hr
            have R6 := Lib.hid hr; have KT := Lib.hid (K5.out.later hf hz1)
            have D6 := Lib.hid (D5.out.frame hf (by decide) (by decide) (by decide))
            have hzT : w1.heap.size ≤ wT.heap.size := Nat.le_trans hz5b hf.size
            clear hr hf
            obtain ⟨vT, vsT, vwT, nowT, safeT, wsT, DT, RT, HnT, LT⟩ : ∃ (vT vsT vwT : Value) (nowT safeT : List UInt8) (wsT : List Wt), Hid (Dv wT w1.heap.size p gn gs vT c nowT safeT wsT) ∧ Hid (Rf wT w1.heap.size q vsT vwT c safeT (pairs wsT)) ∧ Hid (nowT = laid safeT (pairs wsT)) ∧ wsT.length ≤ i + 1 := ⟨_, _, _, _, _, [], D6, R6, Lib.hid rfl, Nat.zero_le _⟩
            clear D6 R6 z3 z4
            go_wp2_with fail
            refine (read_step DT.out A).mono ?_
            rintro e x1 ⟨aa1, n1, c1, rfl, hb1, hk⟩
            have P1 := Lib.hid hb1; have KA := Lib.hid (KT.out.trans hk (by simp))
            have DA := Lib.hid (DT.out.frame (Fr.ofKept hk 0 []) (by simp) (by simp) (by simp))
            have RA := Lib.hid (RT.out.frame (Fr.ofKept hk w1.heap.size []) (Nat.le_refl _) (by simp) (by simp) (by simp))
            clear hb1 hk
            go_wp2_with fail
            refine (rread_step RA.out (by simp only [pairs, List.length_map]; omega) A).mono ?_
            rintro e x2 ⟨aa2, n2, c2, rfl, hb2, hk⟩
            rw [← HnT.out] at hb2
            have P2 := Lib.hid hb2; have KB := Lib.hid (KA.out.trans hk (by simp))
            have P1 := Lib.hid (P1.out.frame (Fr.ofKept hk w1.heap.size []) (Nat.le_refl _) (by simp))
            have DB := Lib.hid (DA.out.frame (Fr.ofKept hk 0 []) (by simp) (by simp) (by simp))
            have RB := Lib.hid (RA.out.frame (Fr.ofKept hk w1.heap.size []) (Nat.le_refl _) (by simp) (by simp) (by simp))
            clear hb2 hk DT RT DA RA KT KA
            obtain ⟨aw, cw, hvw⟩ : ∃ aw cw, vwT = .slice aw wsT.length cw := by
              obtain ⟨xs, h1, _⟩ := RB.out.hw
              obtain ⟨a, c, h2⟩ := ownsRow_shape h1
              rw [pairs, List.length_map] at h2
              exact ⟨a, c, h2⟩
            obtain ⟨sa, cs, hvs⟩ : ∃ sa cs, vsT = .slice sa (32 * c) cs := by
              obtain ⟨a, c, h2⟩ := RB.out.hs.shape
              rw [RB.out.ls] at h2
              exact ⟨a, c, h2⟩
            subst hvw
            subst hvs
            have S1 := Lib.hid (And.intro RB.out.cell1 RB.out.cell0)
            have hq := quo_len (n := c)
            have hwn := wrap_len DB.out.n12
            have hwk := wrap_small hc6
            go_wp2
            go_region_held3 (fun W' => W'.cell? ⟨q, 1, none⟩ = some (.slice aw wsT.length cw) ∧ W'.cell? ⟨q, 0, none⟩ = some (.slice sa (32 * c) cs))
              (first | exact S1.out | exact S2.out)
              (first
                | (go_at_call 22; refine (alike_any _ _ _ _ _ (P1.out.frame (Fr.refl w1.heap.size [] x2).drew (Nat.le_refl _) (by simp)).rd (P2.out.frame (Fr.refl w1.heap.size [] x2).drew (Nat.le_refl _) (by simp)).rd (Nat.le_trans (reL_small c A nowT) (by decide))).mono ?_; rintro e x3 ⟨rfl, hk⟩; rw [beq_self_eq_true]; have KC := Lib.hid (KB.out.drew.trans hk (by simp)); have DC := Lib.hid (DB.out.drew.frame (Fr.ofKept hk 0 []) (by simp) (by simp) (by simp)); have RC := Lib.hid ((RB.out.frame (Fr.refl w1.heap.size [] x2).drew (Nat.le_refl _) (by simp) (by simp) (by simp)).frame (Fr.ofKept hk w1.heap.size []) (Nat.le_refl _) (by simp) (by simp) (by simp)); have S2 := Lib.hid (And.intro RC.out.cell1 RC.out.cell0); clear hk)
                | (go_at_call 23; refine (waiting_any DC.out).mono ?_; rintro e x4 ⟨rfl, rfl⟩)
                | (go_at_call 24; refine (size_any DC.out).mono ?_; rintro e x4 ⟨rfl, rfl⟩))
            clear hq hwn hwk S1 ht y0 y1 y2 y3 y4
            go_wp2
            go_roundw
            case rel => first | exact ⟨i + 1, _, _, _, _, _, _, by go_num, by omega, LT, DC.out, RC.out, HnT.out, KC.out⟩ | ((repeat apply Exists.intro); exact ⟨⟨i + 1, _, _, _, _, _, _, by go_num, by omega, LT, DC.out, RC.out, HnT.out, KC.out⟩, rfl⟩)
            case measure => simp [intOf]; omega
          · obtain rfl : t = 7 := ht4
            go_wp2_with fail
            have hz4b : w1.heap.size ≤ w4.heap.size := by omega
            refine (crash_any D4.out hwsb _ Ls rl4.out T).mono ?_
            rintro e w5 ⟨rfl, hd, hf⟩
            rw [safeTo_all, crash_now c safe now ws Ls T D4.out.ls D4.out.hw Hnow.out] at hd
            have D5 := Lib.hid hd; have K5 := Lib.hid (K4.out.later hf hz1)
            have R5 := Lib.hid (R4.out.frame hf (Nat.le_refl _) (by decide) (by decide) (by decide))
            have rl5 := Lib.hid (rl4.out.frame hf (Nat.le_refl _) (by decide))
            have hb5 := hf.heap hb4.out (by decide)
            have hz5b : w1.heap.size ≤ w5.heap.size := Nat.le_trans hz4b hf.size
            clear z0 z1 z2 z3 z4
            have z3 := act_c3 hb5
            have z4 := act_c4 hb5
            clear hd hf hb5
            go_wp2_with fail
            refine (rcrash_any R5.out (by rw [Hpl.out]; exact hwsb) hz5b _ Ls rl5.out T).mono ?_
            rintro e wT ⟨rfl, vs6, hr, hf⟩
            rw [Hpl.out] at hr
            have R6 := Lib.hid hr; have KT := Lib.hid (K5.out.later hf hz1)
            have D6 := Lib.hid (D5.out.frame hf (by decide) (by decide) (by decide))
            have hzT : w1.heap.size ≤ wT.heap.size := Nat.le_trans hz5b hf.size
            clear hr hf
            obtain ⟨vT, vsT, vwT, nowT, safeT, wsT, DT, RT, HnT, LT⟩ : ∃ (vT vsT vwT : Value) (nowT safeT : List UInt8) (wsT : List Wt), Hid (Dv wT w1.heap.size p gn gs vT c nowT safeT wsT) ∧ Hid (Rf wT w1.heap.size q vsT vwT c safeT (pairs wsT)) ∧ Hid (nowT = laid safeT (pairs wsT)) ∧ wsT.length ≤ i + 1 := ⟨_, _, _, _, _, [], D6, R6, Lib.hid rfl, Nat.zero_le _⟩
            clear D6 R6 z3 z4
            go_wp2_with fail
            refine (read_step DT.out A).mono ?_
            rintro e x1 ⟨aa1, n1, c1, rfl, hb1, hk⟩
            have P1 := Lib.hid hb1; have KA := Lib.hid (KT.out.trans hk (by simp))
            have DA := Lib.hid (DT.out.frame (Fr.ofKept hk 0 []) (by simp) (by simp) (by simp))
            have RA := Lib.hid (RT.out.frame (Fr.ofKept hk w1.heap.size []) (Nat.le_refl _) (by simp) (by simp) (by simp))
            clear hb1 hk
            go_wp2_with fail
            refine (rread_step RA.out (by simp only [pairs, List.length_map]; omega) A).mono ?_
            rintro e x2 ⟨aa2, n2, c2, rfl, hb2, hk⟩
            rw [← HnT.out] at hb2
            have P2 := Lib.hid hb2; have KB := Lib.hid (KA.out.trans hk (by simp))
            have P1 := Lib.hid (P1.out.frame (Fr.ofKept hk w1.heap.size []) (Nat.le_refl _) (by simp))
            have DB := Lib.hid (DA.out.frame (Fr.ofKept hk 0 []) (by simp) (by simp) (by simp))
            have RB := Lib.hid (RA.out.frame (Fr.ofKept hk w1.heap.size []) (Nat.le_refl _) (by simp) (by simp) (by simp))
            clear hb2 hk DT RT DA RA KT KA
            obtain ⟨aw, cw, hvw⟩ : ∃ aw cw, vwT = .slice aw wsT.length cw := by
              obtain ⟨xs, h1, _⟩ := RB.out.hw
              obtain ⟨a, c, h2⟩ := ownsRow_shape h1
              rw [pairs, List.length_map] at h2
              exact ⟨a, c, h2⟩
            obtain ⟨sa, cs, hvs⟩ : ∃ sa cs, vsT = .slice sa (32 * c) cs := by
              obtain ⟨a, c, h2⟩ := RB.out.hs.shape
              rw [RB.out.ls] at h2
              exact ⟨a, c, h2⟩
            subst hvw
            subst hvs
            have S1 := Lib.hid (And.intro RB.out.cell1 RB.out.cell0)
            have hq := quo_len (n := c)
            have hwn := wrap_len DB.out.n12
            have hwk := wrap_small hc6
            go_wp2
            go_region_held3 (fun W' => W'.cell? ⟨q, 1, none⟩ = some (.slice aw wsT.length cw) ∧ W'.cell? ⟨q, 0, none⟩ = some (.slice sa (32 * c) cs))
              (first | exact S1.out | exact S2.out)
              (first
                | (go_at_call 22; refine (alike_any _ _ _ _ _ (P1.out.frame (Fr.refl w1.heap.size [] x2).drew (Nat.le_refl _) (by simp)).rd (P2.out.frame (Fr.refl w1.heap.size [] x2).drew (Nat.le_refl _) (by simp)).rd (Nat.le_trans (reL_small c A nowT) (by decide))).mono ?_; rintro e x3 ⟨rfl, hk⟩; rw [beq_self_eq_true]; have KC := Lib.hid (KB.out.drew.trans hk (by simp)); have DC := Lib.hid (DB.out.drew.frame (Fr.ofKept hk 0 []) (by simp) (by simp) (by simp)); have RC := Lib.hid ((RB.out.frame (Fr.refl w1.heap.size [] x2).drew (Nat.le_refl _) (by simp) (by simp) (by simp)).frame (Fr.ofKept hk w1.heap.size []) (Nat.le_refl _) (by simp) (by simp) (by simp)); have S2 := Lib.hid (And.intro RC.out.cell1 RC.out.cell0); clear hk)
                | (go_at_call 23; refine (waiting_any DC.out).mono ?_; rintro e x4 ⟨rfl, rfl⟩)
                | (go_at_call 24; refine (size_any DC.out).mono ?_; rintro e x4 ⟨rfl, rfl⟩))
            clear hq hwn hwk S1 ht y0 y1 y2 y3 y4
            go_wp2
            go_roundw
            case rel => first | exact ⟨i + 1, _, _, _, _, _, _, by go_num, by omega, LT, DC.out, RC.out, HnT.out, KC.out⟩ | ((repeat apply Exists.intro); exact ⟨⟨i + 1, _, _, _, _, _, _, by go_num, by omega, LT, DC.out, RC.out, HnT.out, KC.out⟩, rfl⟩)
            case measure => simp [intOf]; omega
      · have hin : ¬ (i : Int) < (len1 : Int) := by omega
        have hwsb : ws.length ≤ 1000000 := by omega
        have hlen := laid_length c (pairs ws) safe R.out.ls R.out.ok
        have Hlen := Lib.hid hlen
        clear hlen hlt
        go_wp2_with fail
        refine (rall_any R.out (by simp only [pairs, List.length_map]; exact hwsb)).mono ?_
        rintro e w5 ⟨v5, rfl, ho, hk⟩
        obtain ⟨a5, c5, hv5⟩ := ho.shape
        rw [Hlen.out] at hv5
        subst hv5
        have P5 := Lib.hid (ho.rb w1.heap.size); have K5 := Lib.hid (K.out.trans hk (by simp))
        have D5 := Lib.hid (D.out.frame (Fr.ofKept hk 0 []) (by simp) (by simp) (by simp))
        have hc5 : 32 * c ≤ c5 := by
          obtain ⟨_, c', e1, h2, _⟩ := ho.rd
          simp only [Value.slice.injEq] at e1
          rw [Hlen.out] at h2
          omega
        have HA5 : Hid (0 < c → ∃ g, a5 = some ⟨g, 0, none⟩) := Lib.hid (fun h => own_addr ho (by omega))
        clear ho hk
        go_wp2
        go_loopw [17] (fun t wr2 => ∃ (j : Nat), t = .int .i64 j ∧ j ≤ c ∧ Dv wr2 w1.heap.size p gn gs v c now safe ws ∧ Rb wr2 w1.heap.size 5 (.slice a5 (32 * c) c5) (laid safe (pairs ws)) ∧ Kept W wr2 []) (fun t _ => c - (intOf t).toNat)
        case atStart => exact ⟨0, rfl, Nat.zero_le _, D5.out, P5.out, K5.out⟩
        case round =>
          obtain ⟨j, rfl, hj, hd, hp5, hk⟩ := hrel
          rename_i wr0
          have DL := Lib.hid hd; have PL := Lib.hid hp5; have KL := Lib.hid hk
          clear hd hp5 hk
          go_wp2_with fail
          refine (size_any DL.out).mono ?_
          rintro e x0 ⟨rfl, rfl⟩
          by_cases hjc : j < c
          · have hjci : (j : Int) < (c : Int) := by omega
            have hc6' := hc6
            obtain ⟨g, hg⟩ := HA5.out (by omega)
            subst hg
            go_wp2_with fail
            refine (read_ok DL.out j hjc).mono ?_
            rintro e x1 ⟨u1, rfl, ho, hk⟩
            rw [Hnow.out] at ho
            obtain ⟨aa1, n1, c1, hu1⟩ := Own.shape3 ho
            have P1 := Lib.hid (ho.rb w1.heap.size); have KA := Lib.hid (KL.out.trans hk (by simp))
            have DA := Lib.hid (DL.out.frame (Fr.ofKept hk 0 []) (by simp) (by simp) (by simp))
            have P2 := Lib.hid (PL.out.frame (Fr.ofKept hk w1.heap.size []) (Nat.le_refl _) (by simp))
            clear ho hk
            subst hu1
            have P3 := Lib.hid (P2.out.sub (32 * j) 32 (c5 - 32 * j) (by rw [Hlen.out]; omega) (by omega) (by decide))
            rw [Nat.zero_add] at P3
            have hbl : (blkOf (laid safe (pairs ws)) j).length ≤ 9223372036854775807 := by simp [blkOf]; omega
            have y1 : (0 : Int) ≤ 32 * (j : Int) := by omega
            have y2 : 32 * (j : Int) + 32 ≤ (c5 : Int) := by omega
            have y3 : (32 * (j : Int)).toNat = 32 * j := by omega
            have y4 : (32 * (j : Int) + 32).toNat = 32 * j + 32 := by omega
            go_wp2_with fail
            refine (alike_any _ _ (blkOf (laid safe (pairs ws)) j) (blkOf (laid safe (pairs ws)) j) x1 P1.out.rd P3.out.rd hbl).mono ?_
            rintro e x2 ⟨rfl, hk⟩
            rw [beq_self_eq_true]
            have KB := Lib.hid (KA.out.trans hk (by simp))
            have DB := Lib.hid (DA.out.frame (Fr.ofKept hk 0 []) (by simp) (by simp) (by simp))
            have P4 := Lib.hid (P2.out.frame (Fr.ofKept hk w1.heap.size []) (Nat.le_refl _) (by simp))
            clear hk hbl y1 y2 y3 y4
            go_wp2
            go_roundw
            case rel => exact ⟨j + 1, by go_num, by omega, DB.out, P4.out, KB.out⟩
            case measure => simp [intOf]; omega
          · have hjn : ¬ (j : Int) < (c : Int) := by omega
            go_wp2
            go_ret
            exact ⟨rfl, KL.out.below (Nat.le_refl _) (by simp)⟩

set_option maxRecDepth 100000 in
theorem lifted (os : Os) (started : os.Started) (H : Type) (enc : TypeId × Value → H) :
    ReturnsInHanded {} Try.checked os 3 .any (Rows.blockPlaysSpec.pre6 enc Try.prog Try.f3 Rows.blockPlaysRow.domain false) (Rows.blockPlaysSpec.post enc Try.prog Try.f3 false true false false) := by
  refine returnsInHanded_of_change (C := Try.checked) own started (by kernel_rfl) Try.func3
    (ChangeSpec.witness6 (enc := enc) (C := Try.checked) false ⟨#[], #[.int .i64 0, .slice none 0 0], []⟩ 8 (by kernel_rfl) (by kernel_rfl) (by kernel_rfl) (by kernel_rfl)) ?_
  intro W base args ds gs before hval0 hW hcnd _
  have hval : ∀ (j : Nat) t v, Try.f3.params[j]? = some t → args[j]? = some v → Value.okWide Try.prog W .any base t v := hval0
  have hW' := hW
  obtain ⟨p, q, hA0, hV, rfl, hfz, hnd⟩ := hW
  have hA : DataW.TrodAll enc Try.prog W 0 (fun _ => true) true Try.f3.params.toList args.toList ds p := hA0
  rw [Try.params3] at hA hval
  obtain ⟨v0, vs0, d0, ds0, p0, q0, hargs, rfl, rfl, h0, r0⟩ := trodAll_cons hA
  obtain ⟨v1, vs1, d1, ds1, p1, q1, rfl, rfl, rfl, h1, r1⟩ := trodAll_cons r0
  obtain ⟨rfl, rfl, rfl⟩ := trodAll_nil r1
  obtain rfl : args = #[v0, v1] := by cases args; simp_all
  obtain ⟨rfl, rfl⟩ := trodVars_none hV
  obtain ⟨a0, rfl, rfl, rfl, w0⟩ := open_int Try.underlying3 (hval 0 3 v0 rfl rfl) h0
  obtain ⟨a1, len1, cap1, rfl⟩ := okWide_slice Try.underlying22 (hval 1 22 v1 rfl rfl)
  have k1 := h1
  have lt1 : ∀ x ∈ p1, x.block < W.heap.size := by obtain ⟨m, hm⟩ := k1; exact DataW.trod_lt m _ _ _ hm
  obtain ⟨z1, w1⟩ : ∃ f, IsActs W W.heap.size a1 len1 f ∧ len1 ≤ maxLen := by
    obtain ⟨fuel, hf⟩ := h1
    exact acts_open (by simpa [Value.cells] using hf)
  clear hA0 hval0
  refine (walk a0 a1 len1 cap1 z1 W w0 w1).mono fun e W' ⟨he, bel⟩ => ?_
  subst he
  exact ⟨_, rfl, _, _, _, [], _, [], hW', trodAll_mk1 (shut_bool Try.underlying4 _), (trodAll_cons_mk (shut_int Try.underlying3 w0) (trodAll_cons_mk (Below.trod laidOut (by kernel_rfl) (of_decide_eq_true (by kernel_rfl)) k1 bel lt1) trodAll_mk0)), rfl, bel.frame _, fun h => by cases h⟩

theorem over : Rows.blockPlaysRow.holds Try.pinned (OpenSpec.ofChange Rows.blockPlaysSpec) :=
  OpenClaim.holds_of_wide 3 Try.f3 rfl rfl rfl rfl rfl rfl rfl ⟨rfl, rfl, rfl, rfl, rfl⟩ rfl rfl rfl rfl rfl (by kernel_rfl) Try.func3 (by kernel_rfl)
    (of_decide_eq_true (by kernel_rfl)) (by unfold Func.isWrapper; first | (rw [if_pos (by decide +kernel)]; kernel_rfl) | (rw [if_neg (by decide +kernel)]; exact ⟨rfl, rfl⟩))
    (fun os started H enc _ => lifted os started H enc)

theorem proved : Rows.BlockPlaysSaid :=
  over
end Go.Proofs.Ytoamdpbnojedpaa.blockPlays

namespace Go.Proofs.Ytoamdpbnojedpaa
theorem blockPlays_holds : Rows.BlockPlaysSaid := blockPlays.proved
#print axioms blockPlays_holds
end Go.Proofs.Ytoamdpbnojedpaa
