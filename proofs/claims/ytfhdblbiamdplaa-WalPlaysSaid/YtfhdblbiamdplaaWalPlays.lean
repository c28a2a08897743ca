/-
  Proved: whatever the arguments are, carrierlaw04.WalPlays answers true and leaves its arguments as they were. No condition.
-/
import Derived.Test.YtfhdblbiamdplaaWu
import Derived.ProofKit
import Derived.OpenShut
import Derived.ChangeOld
import Derived.Below
import Derived.Deep.DeepCutAuto
import Derived.Deep.CutBlock
namespace Go.Proofs.Ytfhdblbiamdplaa.walPlays
open Go.ChangeShapes Go.WideShapes Go.ChangeAt Go.RowKit
set_option linter.unusedVariables false

theorem own : ownKnob Try.prog.godebug = none := by kernel_rfl
theorem laidOut : laidOutB Try.prog = true := by kernel_rfl

theorem act_cells {w : World} {g : Nat} {a b c d : Value} {t : TypeId} (h : w.heap[g]? = some (.cells #[a, b, c, d] t (0, 0))) : w.cell? ⟨g, 0, none⟩ = some a ∧ w.cell? ⟨g, 1, none⟩ = some b ∧ w.cell? ⟨g, 2, none⟩ = some c ∧ w.cell? ⟨g, 3, none⟩ = some d :=
  ⟨by rw [cell_of_row w g 0 _ _ _ h]; rfl, by rw [cell_of_row w g 1 _ _ _ h]; rfl, by rw [cell_of_row w g 2 _ _ _ h]; rfl, by rw [cell_of_row w g 3 _ _ _ h]; rfl⟩

theorem clamp_id' {c : Nat} (h : c ≤ 4096) : clampN (c : Int) = c := by unfold clampN; omega

/-- What the switch leaves. -/
def SwPost (w1 : World) (p gn gs q n m : Nat) (s8 s11 s15 : Value) (wx : World) : Prop :=
  s15 = .bool true ∧ ∃ (lg rl : Nat) (now safe : List UInt8) (ws : List Wt) (v vs vw : Value) (s : Nat), s8 = .pointer (some ⟨lg, 0, none⟩) ∧ s11 = .pointer (some ⟨rl, 0, none⟩) ∧ Wp w1 wx p gn gs q n lg rl now safe ws v vs vw s m

theorem wp_append {w1 wx w2 w3 : World} {p gn gs q n lg rl s m : Nat} {now safe l : List UInt8} {ws : List Wt} {v vs vw : Value} (h : Wp w1 wx p gn gs q n lg rl now safe ws v vs vw s m)
    (h1 : App wx w1.heap.size p gn gs n lg s now safe l ws w2) (h2 : RApp w2 w1.heap.size q n rl s vs now safe l (pairs ws) w3) (hn : n ≤ 12) :
    ∃ (now' safe' : List UInt8) (ws' : List Wt) (v' vs' vw' : Value) (s' : Nat), Value.pointer (some ⟨lg, 0, none⟩) = .pointer (some ⟨lg, 0, none⟩) ∧ Value.pointer (some ⟨rl, 0, none⟩) = .pointer (some ⟨rl, 0, none⟩) ∧ Wp w1 w3 p gn gs q n lg rl now' safe' ws' v' vs' vw' s' (m + 12) := by
  obtain ⟨now', ws', v', vw', s', h3⟩ := h.append h1 h2
  exact ⟨now', safe, ws', v', vs, vw', s', rfl, rfl, { h3 with hm := by have := h3.hm; omega }⟩

set_option maxHeartbeats 8000000 in
set_option maxRecDepth 100000 in
theorem walk (a0 : Int) (a1 : Option Addr) (len1 cap1 : Nat) (f1 : Nat → ActD) (W : World) (w0 : (Lit.int .u8 a0).wf = true) (w1 : IsActs W W.heap.size a1 len1 f1 ∧ len1 ≤ maxLen) :
    Calls Try.prog 3 #[.int .u8 a0, .slice a1 len1 cap1] W fun e w' => e = .returned (.bool true) ∧ Below W.heap.size W w' := by
  have Hf := Lib.hid w1.1
  have b0 := bounds_u8 w0
  obtain ⟨n0, rfl⟩ : ∃ n0 : Nat, a0 = (n0 : Int) := ⟨a0.toNat, by omega⟩
  obtain ⟨n, hn⟩ : ∃ n : Nat, (n0 : Int) % 12 = (n : Int) := ⟨n0 % 12, by omega⟩
  have n11 : n ≤ 12 := by omega
  clear w0 w1 b0
  by_cases h40 : (40 : Int) < (len1 : Int)
  · go_enter Try.func3, Try.ntmps3
    go_wp2_with fail
    refine (fresh_any W).mono ?_
    rintro e w1 ⟨rfl, hk⟩
    have K1 := Lib.hid hk
    clear hk
    go_wp2_with fail
    refine (fresh_any w1).mono ?_
    rintro e w2 ⟨rfl, hk⟩
    have K2 := Lib.hid (K1.out.trans hk (by simp))
    clear hk
    go_wp2
    go_ret
    exact ⟨rfl, K2.out.below (Nat.le_refl _) (by simp)⟩
  go_enter Try.func3, Try.ntmps3
  go_wp2_with fail
  refine (fresh_any W).mono ?_
  rintro e w1 ⟨rfl, hk⟩
  have K1 := Lib.hid hk
  have hz1 := hk.size
  clear hk
  go_wp2_with fail
  refine (new_any (n : Int) w1).mono ?_
  rintro e w2 ⟨p, gn, gs, rfl, hd, hk⟩
  rw [clamp_id' (by omega)] at hd
  have D2 := Lib.hid hd; have K2 := Lib.hid hk
  have hz2 := hk.size
  clear hd hk
  go_wp2_with fail
  refine (rnew_any (n : Int) w2).mono ?_
  rintro e w3 ⟨q, vs3, rfl, hr, hk⟩
  rw [clamp_id' (by omega)] at hr
  have R3 := Lib.hid (rf_lower hr hz2); have K3 := Lib.hid (K2.out.trans hk (by simp))
  have D3 := Lib.hid (D2.out.frame (Fr.ofKept hk 0 []) (by simp) (by simp) (by simp))
  clear hr hk
  go_wp2_with fail
  refine (open_any D3.out rfl (by decide) K3.out.size).mono ?_
  rintro e w4 ⟨lg, vr4, rfl, O4⟩
  have HO4 := Lib.hid O4
  obtain ⟨_, _, _, _, _, _, _, hf, _⟩ := O4
  have R4 := Lib.hid (R3.out.frame hf (Nat.le_refl _) (by decide) (by decide) (by decide)); have K4 := Lib.hid (kept_fr K3.out hf)
  clear hf
  go_wp2_with fail
  refine (ropen_any R4.out (noughts n) rfl (by decide) K4.out.size).mono ?_
  rintro e w5 ⟨rl, vr5, rfl, O5⟩
  obtain ⟨⟨now5, safe5, v5, vs5, vw5, hp5⟩, _, _⟩ := Wp.opened K3.out R4.out HO4.out O5
  have P5 := Lib.hid hp5
  clear O5 hp5 D2 K2 D3 R3 K3 HO4 R4 K4
  go_wp2
  go_loopw [8, 11, 13] (fun s8 s11 t wr => ∃ (i lg rl : Nat) (now safe : List UInt8) (ws : List Wt) (v vs vw : Value) (s : Nat), s8 = .pointer (some ⟨lg, 0, none⟩) ∧ s11 = .pointer (some ⟨rl, 0, none⟩) ∧ t = .int .i64 i ∧ i ≤ len1 ∧ Wp w1 wr p gn gs q n lg rl now safe ws v vs vw s (12 * i)) (fun _ _ t _ => len1 - (intOf t).toNat)
  case atStart => exact ⟨0, lg, rl, now5, safe5, [], v5, vs5, vw5, _, rfl, rfl, rfl, Nat.zero_le _, P5.out⟩
  case round =>
    obtain ⟨i, lg, rl, now, safe, ws, v, vs, vw, s, rfl, rfl, rfl, hi, hp⟩ := hrel
    clear P5
    have P0 := Lib.hid hp
    clear hp
    by_cases hlt : i < len1
    · obtain ⟨ab, ao, rfl, hx⟩ := Hf.out (by omega)
      have X := hx i hlt
      generalize f1 i = x at X
      obtain ⟨d, pv, P, lv, Ls, T⟩ := x
      have Y := X.frame (K1.out.trans P0.out.K (by simp))
      obtain ⟨pa, pc, hpv, -⟩ := Y.rp
      obtain ⟨la, lc, hlv, -⟩ := Y.rl
      simp only at hpv hlv
      subst hpv
      subst hlv
      have rpW : Hid (Rd W (.slice pa P.length pc) P) := Lib.hid X.rp.rd
      have rlW : Hid (∀ V : World, Kept W V [] → RbB V w1.heap.size 4 (.slice la Ls.length lc) Ls) := Lib.hid (fun _ hV => RbB.mono (X.rl.frame (Fr.ofKept hV W.heap.size []) (Nat.le_refl _) (by simp)) hz1)
      have y0 := Y.c0; have y1 := Y.c1; have y2 := Y.c2; have y3 := Y.c3
      have hd8 := Y.d8
      have hT64 := Y.t64
      simp only at y0 y1 y2 y3 hd8 hT64
      clear hx X Y
      have x1 : (i : Int) < (len1 : Int) := by omega
      by_cases hbig : (100 : Int) < (P.length : Int) ∨ (20 : Int) < (Ls.length : Int)
      · have hor : (100 : Int) < (P.length : Int) ∨ (¬ (100 : Int) < (P.length : Int) ∧ (20 : Int) < (Ls.length : Int)) := by omega
        clear hbig
        rcases hor with h1 | ⟨h1, h2⟩
        all_goals
          go_wp2
          go_ret
          exact ⟨rfl, ((K1.out.trans P0.out.K (by simp)).alloc _).below (Nat.le_refl _) (by simp)⟩
      have h100 : ¬ (100 : Int) < (P.length : Int) := by omega
      have h20 : ¬ (20 : Int) < (Ls.length : Int) := by omega
      obtain ⟨t, ht8, ht⟩ : ∃ t : Nat, t < 8 ∧ (d : Int) % 8 = t := ⟨d % 8, by omega, by omega⟩
      clear hbig
      go_upto_block 2 with fail
      obtain ⟨w4, hw4⟩ : ∃ w4, w4 = wr.alloc (.cells #[.int .u8 d, .slice pa P.length pc, .slice la Ls.length lc, .int .i64 T] 39) := ⟨_, rfl⟩
      have B5 := Lib.hid (show w4.heap[wr.heap.size]? = some (.cells #[.int .u8 d, .slice pa P.length pc, .slice la Ls.length lc, .int .i64 T] 39 (0, 0)) by rw [hw4]; exact heap_alloc_new wr _)
      have P5 := Lib.hid (P0.out.keep (show Kept wr w4 [] by rw [hw4]; exact (Kept.refl wr []).alloc _))
      rw [← hw4]
      obtain ⟨g4, hg4⟩ : ∃ g4, g4 = wr.heap.size := ⟨_, rfl⟩
      rw [← hg4] at B5 ⊢
      clear hw4 hg4 y0 y1 y2 y3 P0
      obtain ⟨y0, y1, y2, y3⟩ := act_cells B5.out
      have hwsb : ws.length ≤ 900000 := by have := P5.out.hm; omega
      go_cut [8, 11, 15, 16, 17, 18, 19, 20, 71] (fun s8 s11 s15 _ _ _ _ _ _ wx => SwPost w1 p gn gs q n (12 * i + 12) s8 s11 s15 wx)
      case first =>
        rcases (show t = 0 ∨ t = 1 ∨ t = 2 ∨ t = 3 ∨ t = 4 ∨ 5 ≤ t by omega) with rfl | rfl | rfl | rfl | rfl | h5
        · go_upto_region 28 with fail
          go_region_held3 (fun V => V.cell? ⟨g4, 1, none⟩ = some (.slice pa P.length pc)) (first | exact y1 | exact Z6 | exact Z7)
            (first
              | (go_at_call 19; refine (append_all (P5.out.keep (Kept.refl _ []).drew).D (P5.out.keep (Kept.refl _ []).drew).G P5.out.hs _ P (rpW.out.kept (K1.out.trans (P5.out.keep (Kept.refl _ []).drew).K (by simp)) (by simp)) hwsb P5.out.size P5.out.bl).mono ?_; rintro e w6 ⟨rfl, A1⟩; obtain ⟨_, _, _, _, _, _, hf⟩ := id A1; have HA1 := Lib.hid A1; have R6 := Lib.hid ((P5.out.keep (Kept.refl _ []).drew).R.frame hf (Nat.le_refl _) (by decide) (by decide) (by decide)); have H6 := Lib.hid ((P5.out.keep (Kept.refl _ []).drew).H.frame hf (by decide)); have K6 := Lib.hid (kept_fr (P5.out.keep (Kept.refl _ []).drew).K hf); have hz6 := hf.heap B5.out (by decide); have B6 := Lib.hid hz6; have Z6 := (act_cells hz6).2.1; clear hf hz6 A1)
              | (go_at_call 20; refine (rappend_all R6.out H6.out now P5.out.N P5.out.hs _ P (rpW.out.kept (K1.out.trans K6.out (by simp)) (by simp)) (by simpa [pairs] using hwsb) K6.out.size P5.out.br).mono ?_; rintro e w7 ⟨rfl, A2⟩; have HA2 := Lib.hid A2; obtain ⟨_, _, _, hf⟩ := A2; have Z7 := (act_cells (hf.heap B6.out (by decide))).2.1; clear hf))
          go_wp2_with fail
          go_meet
          exact ⟨rfl, lg, rl, wp_append (P5.out.keep (Kept.refl _ []).drew) HA1.out HA2.out n11⟩
        · go_upto_region 28 with fail
          go_region_held3 (fun V => V.cell? ⟨g4, 1, none⟩ = some (.slice pa P.length pc)) (first | exact y1 | exact Z6 | exact Z7)
            (first
              | (go_at_call 19; refine (append_all (P5.out.keep (Kept.refl _ []).drew).D (P5.out.keep (Kept.refl _ []).drew).G P5.out.hs _ P (rpW.out.kept (K1.out.trans (P5.out.keep (Kept.refl _ []).drew).K (by simp)) (by simp)) hwsb P5.out.size P5.out.bl).mono ?_; rintro e w6 ⟨rfl, A1⟩; obtain ⟨_, _, _, _, _, _, hf⟩ := id A1; have HA1 := Lib.hid A1; have R6 := Lib.hid ((P5.out.keep (Kept.refl _ []).drew).R.frame hf (Nat.le_refl _) (by decide) (by decide) (by decide)); have H6 := Lib.hid ((P5.out.keep (Kept.refl _ []).drew).H.frame hf (by decide)); have K6 := Lib.hid (kept_fr (P5.out.keep (Kept.refl _ []).drew).K hf); have hz6 := hf.heap B5.out (by decide); have B6 := Lib.hid hz6; have Z6 := (act_cells hz6).2.1; clear hf hz6 A1)
              | (go_at_call 20; refine (rappend_all R6.out H6.out now P5.out.N P5.out.hs _ P (rpW.out.kept (K1.out.trans K6.out (by simp)) (by simp)) (by simpa [pairs] using hwsb) K6.out.size P5.out.br).mono ?_; rintro e w7 ⟨rfl, A2⟩; have HA2 := Lib.hid A2; obtain ⟨_, _, _, hf⟩ := A2; have Z7 := (act_cells (hf.heap B6.out (by decide))).2.1; clear hf))
          go_wp2_with fail
          go_meet
          exact ⟨rfl, lg, rl, wp_append (P5.out.keep (Kept.refl _ []).drew) HA1.out HA2.out n11⟩
        · go_upto_region 28 with fail
          go_region_held3 (fun V => V.cell? ⟨g4, 1, none⟩ = some (.slice pa P.length pc)) (first | exact y1 | exact Z6 | exact Z7)
            (first
              | (go_at_call 19; refine (append_all (P5.out.keep (Kept.refl _ []).drew).D (P5.out.keep (Kept.refl _ []).drew).G P5.out.hs _ P (rpW.out.kept (K1.out.trans (P5.out.keep (Kept.refl _ []).drew).K (by simp)) (by simp)) hwsb P5.out.size P5.out.bl).mono ?_; rintro e w6 ⟨rfl, A1⟩; obtain ⟨_, _, _, _, _, _, hf⟩ := id A1; have HA1 := Lib.hid A1; have R6 := Lib.hid ((P5.out.keep (Kept.refl _ []).drew).R.frame hf (Nat.le_refl _) (by decide) (by decide) (by decide)); have H6 := Lib.hid ((P5.out.keep (Kept.refl _ []).drew).H.frame hf (by decide)); have K6 := Lib.hid (kept_fr (P5.out.keep (Kept.refl _ []).drew).K hf); have hz6 := hf.heap B5.out (by decide); have B6 := Lib.hid hz6; have Z6 := (act_cells hz6).2.1; clear hf hz6 A1)
              | (go_at_call 20; refine (rappend_all R6.out H6.out now P5.out.N P5.out.hs _ P (rpW.out.kept (K1.out.trans K6.out (by simp)) (by simp)) (by simpa [pairs] using hwsb) K6.out.size P5.out.br).mono ?_; rintro e w7 ⟨rfl, A2⟩; have HA2 := Lib.hid A2; obtain ⟨_, _, _, hf⟩ := A2; have Z7 := (act_cells (hf.heap B6.out (by decide))).2.1; clear hf))
          go_wp2_with fail
          go_meet
          exact ⟨rfl, lg, rl, wp_append (P5.out.keep (Kept.refl _ []).drew) HA1.out HA2.out n11⟩
        · go_upto_region 28 with fail
          go_region_held3 (fun V => V.cell? ⟨g4, 1, none⟩ = some (.slice pa P.length pc)) (first | exact y1 | exact Z6 | exact Z7)
            (first
              | (go_at_call 19; refine (append_all (P5.out.keep (Kept.refl _ []).drew).D (P5.out.keep (Kept.refl _ []).drew).G P5.out.hs _ P (rpW.out.kept (K1.out.trans (P5.out.keep (Kept.refl _ []).drew).K (by simp)) (by simp)) hwsb P5.out.size P5.out.bl).mono ?_; rintro e w6 ⟨rfl, A1⟩; obtain ⟨_, _, _, _, _, _, hf⟩ := id A1; have HA1 := Lib.hid A1; have R6 := Lib.hid ((P5.out.keep (Kept.refl _ []).drew).R.frame hf (Nat.le_refl _) (by decide) (by decide) (by decide)); have H6 := Lib.hid ((P5.out.keep (Kept.refl _ []).drew).H.frame hf (by decide)); have K6 := Lib.hid (kept_fr (P5.out.keep (Kept.refl _ []).drew).K hf); have hz6 := hf.heap B5.out (by decide); have B6 := Lib.hid hz6; have Z6 := (act_cells hz6).2.1; clear hf hz6 A1)
              | (go_at_call 20; refine (rappend_all R6.out H6.out now P5.out.N P5.out.hs _ P (rpW.out.kept (K1.out.trans K6.out (by simp)) (by simp)) (by simpa [pairs] using hwsb) K6.out.size P5.out.br).mono ?_; rintro e w7 ⟨rfl, A2⟩; have HA2 := Lib.hid A2; obtain ⟨_, _, _, hf⟩ := A2; have Z7 := (act_cells (hf.heap B6.out (by decide))).2.1; clear hf))
          go_wp2_with fail
          go_meet
          exact ⟨rfl, lg, rl, wp_append (P5.out.keep (Kept.refl _ []).drew) HA1.out HA2.out n11⟩
        · go_wp2_with fail
          refine (lsync_any P5.out.D P5.out.G (by omega)).mono ?_
          rintro e w6 ⟨rfl, hd, hf⟩
          have R6 := Lib.hid (P5.out.R.frame hf (Nat.le_refl _) (by decide) (by decide) (by decide)); have K6 := Lib.hid (kept_fr P5.out.K hf); have D6 := Lib.hid hd; have F6 := Lib.hid hf
          clear hd hf
          go_wp2_with fail
          refine (rsync_any R6.out (by simp only [pairs, List.length_map]; omega) K6.out.size).mono ?_
          rintro e w7 ⟨rfl, vs7, hr, hf⟩
          have Q7 := Lib.hid (P5.out.sync D6.out F6.out hr hf)
          clear hr hf
          go_wp2_with fail
          go_meet
          exact ⟨rfl, lg, rl, now, now, [], _, _, _, s, rfl, rfl, { Q7.out with hm := Nat.zero_le _ }⟩
        · have e0 : ((t : Int) == 0) = false := by rw [beq_eq_false_iff_ne]; omega
          have e1 : ((t : Int) == 1) = false := by rw [beq_eq_false_iff_ne]; omega
          have e2 : ((t : Int) == 2) = false := by rw [beq_eq_false_iff_ne]; omega
          have e3 : ((t : Int) == 3) = false := by rw [beq_eq_false_iff_ne]; omega
          have e4 : ((t : Int) == 4) = false := by rw [beq_eq_false_iff_ne]; omega
          go_wp2_with fail
          refine (crash_any P5.out.D (by omega) _ _ (rlW.out _ (K1.out.trans P5.out.K (by simp))) T).mono ?_
          rintro e w6 ⟨rfl, hd, hf⟩
          have R6 := Lib.hid (P5.out.R.frame hf (Nat.le_refl _) (by decide) (by decide) (by decide)); have K6 := Lib.hid (kept_fr P5.out.K hf); have D6 := Lib.hid hd; have F6 := Lib.hid hf
          obtain ⟨y0, y1, y2, y3⟩ := act_cells (hf.heap B5.out (by decide))
          clear hd hf
          go_wp2_with fail
          refine (rcrash_any R6.out (by simp only [pairs, List.length_map]; omega) K6.out.size _ _ (rlW.out _ (K1.out.trans K6.out (by simp))) T).mono ?_
          rintro e w7 ⟨rfl, vs7, hr, hf⟩
          obtain ⟨hd7, hr7, hk7⟩ := P5.out.crash D6.out F6.out hr hf
          obtain ⟨X, hX⟩ : ∃ X, X = crashed Ls T ws safe := ⟨_, rfl⟩
          rw [← hX] at hd7 hr7
          have D7 := Lib.hid hd7; have R7 := Lib.hid hr7; have K7 := Lib.hid hk7
          clear hr hf hd7 hr7 hk7 hX y0 y1 y2 y3
          go_wp2_with fail
          refine (open_any D7.out rfl (by decide) K7.out.size).mono ?_
          rintro e w8 ⟨lg8, vr8, rfl, O8⟩
          have HO8 := Lib.hid O8
          obtain ⟨_, _, _, _, _, _, _, hf, _⟩ := O8
          have R8 := Lib.hid (R7.out.frame hf (Nat.le_refl _) (by decide) (by decide) (by decide)); have K8 := Lib.hid (kept_fr K7.out hf)
          clear hf
          go_wp2_with fail
          refine (ropen_any R8.out X rfl (by decide) K8.out.size).mono ?_
          rintro e w9 ⟨rl9, vr9, rfl, O9⟩
          obtain ⟨⟨now9, safe9, v9, vs9, vw9, hp9⟩, hra, hrb⟩ := Wp.opened K7.out R8.out HO8.out O9
          have P9 := Lib.hid hp9; have RA := Lib.hid hra; have RB := Lib.hid hrb
          have hXl : X.length ≤ 1000000 := by have := R7.out.ls; have := R7.out.n12; omega
          clear O9 hp9 hra hrb
          go_wp2_with fail
          refine (same_any _ _ (scan X) RA.out RB.out (by have := (szs_len (scan X)).1; have := szs_scan X.length X (Nat.le_refl _); omega) (fun x hx => by have := (szs_len (scan X)).2 x hx; have := szs_scan X.length X (Nat.le_refl _); omega)).mono ?_
          rintro e w10 ⟨rfl, hk⟩
          have P10 := Lib.hid (P9.out.keep hk)
          clear hk
          go_wp2_with fail
          go_meet
          exact ⟨rfl, lg8, rl9, now9, safe9, [], v9, vs9, vw9, _, rfl, rfl, { P10.out with hm := Nat.zero_le _ }⟩
      case rest =>
        obtain ⟨rfl, lg, rl, now, safe, ws, v, vs, vw, s, rfl, rfl, hp⟩ := hcut
        have P6 := Lib.hid hp
        have hN12 := hp.D.n12
        clear hp P5 B5 y0 y1 y2 y3 hwsb
        obtain ⟨aw, cw, hvw⟩ : ∃ aw cw, vw = .slice aw ws.length cw := by
          obtain ⟨xs, h1, _⟩ := P6.out.R.hw
          obtain ⟨a, c, h2⟩ := ownsRow_shape h1
          rw [pairs, List.length_map] at h2
          exact ⟨a, c, h2⟩
        subst hvw
        have hwsb : ws.length ≤ 1000000 := by have := P6.out.hm; omega
        have HB : Hid (∀ V, Kept wc V [] → Calls Try.prog 27 #[.pointer (some ⟨p, 0, none⟩)] V fun e w' => ∃ u, e = .returned u ∧ Rd w' u now ∧ Kept V w' []) := Lib.hid (fun V hV => bytes_any (P6.out.keep hV).D)
        have HA : Hid (∀ V, Kept wc V [] → Calls Try.prog 28 #[.pointer (some ⟨q, 0, none⟩)] V fun e w' => ∃ u, e = .returned u ∧ Rd w' u now ∧ Kept V w' []) := Lib.hid (fun V hV => (rall_any (P6.out.keep hV).R (by simp only [pairs, List.length_map]; omega)).mono (by
          rintro e w' ⟨u, rfl, ho, hk⟩
          rw [← P6.out.N] at ho
          exact ⟨u, rfl, ho.rd, hk⟩))
        have HE : Hid (∀ V ua ub, Rd V ua now → Rd V ub now → Calls Try.prog 26 #[ua, ub] V fun e w' => e = .returned (.bool true) ∧ Kept V w' []) := Lib.hid (fun V ua ub ha hb => (alike_any ua ub now now V ha hb (by rw [P6.out.D.ln]; omega)).mono (by
          rintro e w' ⟨rfl, hk⟩
          exact ⟨by simp, hk⟩))
        have HW : Hid (∀ V, Kept wc V [] → Calls Try.prog 29 #[.pointer (some ⟨p, 0, none⟩)] V fun e w' => e = .returned (.int .i64 ws.length) ∧ V = w') := Lib.hid (fun V hV => waiting_any (P6.out.keep hV).D)
        have HZ : Hid (∀ V, Kept wc V [] → Calls Try.prog 30 #[.pointer (some ⟨lg, 0, none⟩)] V fun e w' => e = .returned (.int .i64 s) ∧ V = w') := Lib.hid (fun V hV => lsize_any (P6.out.keep hV).G)
        obtain ⟨r, hr⟩ : ∃ r, r = 32 * n - s := ⟨_, rfl⟩
        have HR1 : Hid (∀ V, Kept wc V [] → Calls Try.prog 31 #[.pointer (some ⟨lg, 0, none⟩)] V fun e w' => e = .returned (.int .i64 (r : Int)) ∧ Kept V w' []) := Lib.hid (fun V hV => by rw [hr]; exact room_any (P6.out.keep hV).D (P6.out.keep hV).G P6.out.hs)
        have HR2 : Hid (∀ V, Kept wc V [] → Calls Try.prog 32 #[.pointer (some ⟨rl, 0, none⟩)] V fun e w' => e = .returned (.int .i64 (r : Int)) ∧ Kept V w' []) := Lib.hid (fun V hV => by rw [hr]; exact rroom_any (P6.out.keep hV).R (P6.out.keep hV).H P6.out.hs)
        have HY : Hid (∀ V, Kept wc V [] → V.cell? ⟨q, 1, none⟩ = some (.slice aw ws.length cw) ∧ V.cell? ⟨rl, 1, none⟩ = some (.int .i64 s)) := Lib.hid (fun V hV => ⟨(P6.out.keep hV).R.cell1, (P6.out.keep hV).H.cell.2⟩)
        have k8 := (Kept.refl wc []).drew
        have y2 := HY.out _ k8
        clear hr
        go_wp2_with fail
        go_region_held3 (fun V => V.cell? ⟨q, 1, none⟩ = some (.slice aw ws.length cw) ∧ V.cell? ⟨rl, 1, none⟩ = some (.int .i64 s)) (exact y2)
          (first
            | (go_at_call 27; refine (HB.out _ ?_).mono ?_; assumption; rintro e w8 ⟨ua, rfl, rA, kv⟩; have k8 := k8.trans kv (by simp); have y2 := HY.out _ k8)
            | (go_at_call 28; refine (HA.out _ ?_).mono ?_; assumption; rintro e w9 ⟨ub, rfl, rB, kv⟩; have rA := rA.kept kv (by simp); have k8 := k8.trans kv (by simp); have y2 := HY.out _ k8)
            | (go_at_call 26; refine (HE.out _ _ _ rA rB).mono ?_; rintro e w8 ⟨rfl, kv⟩; have k8 := k8.trans kv (by simp); have y2 := HY.out _ k8)
            | (go_at_call 29; refine (HW.out _ ?_).mono ?_; assumption; rintro e w8 ⟨rfl, rfl⟩)
            | (go_at_call 30; refine (HZ.out _ ?_).mono ?_; assumption; rintro e w8 ⟨rfl, rfl⟩)
            | (go_at_call 31; refine (HR1.out _ ?_).mono ?_; assumption; rintro e w8 ⟨rfl, kv⟩; have k8 := k8.trans kv (by simp); have y2 := HY.out _ k8)
            | (go_at_call 32; refine (HR2.out _ ?_).mono ?_; assumption; rintro e w8 ⟨rfl, kv⟩; have k8 := k8.trans kv (by simp); have y2 := HY.out _ k8))
        have P9 := Lib.hid (P6.out.keep k8)
        clear y2 P6 HB HA HE HW HZ HR1 HR2 HY
        go_wp2
        go_roundw
        case rel => exact ⟨i + 1, lg, rl, now, safe, ws, _, _, _, s, rfl, rfl, by go_num, by omega, by rw [Nat.mul_add]; exact P9.out⟩
        case measure => simp [intOf]; omega
    · have x1 : ¬ (i : Int) < (len1 : Int) := by omega
      go_wp2
      go_ret
      exact ⟨rfl, (K1.out.trans P0.out.K (by simp)).below (Nat.le_refl _) (by simp)⟩

set_option maxRecDepth 100000 in
theorem lifted (os : Os) (started : os.Started) (H : Type) (enc : TypeId × Value → H) :
    ReturnsInHanded {} Try.checked os 3 .any (Rows.walPlaysSpec.pre6 enc Try.prog Try.f3 Rows.walPlaysRow.domain false) (Rows.walPlaysSpec.post enc Try.prog Try.f3 false true false false) := by
  refine returnsInHanded_of_change (C := Try.checked) own started (by kernel_rfl) Try.func3
    (ChangeSpec.witness6 (enc := enc) (C := Try.checked) false ⟨#[], #[.int .u8 0, .slice none 0 0], []⟩ 8 (by kernel_rfl) (by kernel_rfl) (by kernel_rfl) (by kernel_rfl)) ?_
  intro W base args ds gs before hval0 hW hcnd _
  have hval : ∀ (j : Nat) t v, Try.f3.params[j]? = some t → args[j]? = some v → Value.okWide Try.prog W .any base t v := hval0
  have hW' := hW
  obtain ⟨p, q, hA0, hV, rfl, hfz, hnd⟩ := hW
  have hA : DataW.TrodAll enc Try.prog W 0 (fun _ => true) true Try.f3.params.toList args.toList ds p := hA0
  rw [Try.params3] at hA hval
  obtain ⟨v0, vs0, d0, ds0, p0, q0, hargs, rfl, rfl, h0, r0⟩ := trodAll_cons hA
  obtain ⟨v1, vs1, d1, ds1, p1, q1, rfl, rfl, rfl, h1, r1⟩ := trodAll_cons r0
  obtain ⟨rfl, rfl, rfl⟩ := trodAll_nil r1
  obtain rfl : args = #[v0, v1] := by cases args; simp_all
  obtain ⟨rfl, rfl⟩ := trodVars_none hV
  obtain ⟨a0, rfl, rfl, rfl, w0⟩ := open_int Try.underlying5 (hval 0 5 v0 rfl rfl) h0
  obtain ⟨a1, len1, cap1, rfl⟩ := okWide_slice Try.underlying22 (hval 1 22 v1 rfl rfl)
  have k1 := h1
  have lt1 : ∀ x ∈ p1, x.block < W.heap.size := by obtain ⟨m, hm⟩ := k1; exact DataW.trod_lt m _ _ _ hm
  obtain ⟨z1, w1⟩ : ∃ f, IsActs W W.heap.size a1 len1 f ∧ len1 ≤ maxLen := by
    obtain ⟨fuel, hf⟩ := h1
    exact acts_open (by simpa [Value.cells] using hf)
  clear hA0 hval0
  refine (walk a0 a1 len1 cap1 z1 W w0 w1).mono fun e W' ⟨he, bel⟩ => ?_
  subst he
  exact ⟨_, rfl, _, _, _, [], _, [], hW', trodAll_mk1 (shut_bool Try.underlying4 _), (trodAll_cons_mk (shut_int Try.underlying5 w0) (trodAll_cons_mk (Below.trod laidOut (by kernel_rfl) (of_decide_eq_true (by kernel_rfl)) k1 bel lt1) trodAll_mk0)), rfl, bel.frame _, fun h => by cases h⟩

theorem over : Rows.walPlaysRow.holds Try.pinned (OpenSpec.ofChange Rows.walPlaysSpec) :=
  OpenClaim.holds_of_wide 3 Try.f3 rfl rfl rfl rfl rfl rfl rfl ⟨rfl, rfl, rfl, rfl, rfl⟩ rfl rfl rfl rfl rfl (by kernel_rfl) Try.func3 (by kernel_rfl)
    (of_decide_eq_true (by kernel_rfl)) (by unfold Func.isWrapper; first | (rw [if_pos (by decide +kernel)]; kernel_rfl) | (rw [if_neg (by decide +kernel)]; exact ⟨rfl, rfl⟩))
    (fun os started H enc _ => lifted os started H enc)

theorem proved : Rows.WalPlaysSaid :=
  over
end Go.Proofs.Ytfhdblbiamdplaa.walPlays

namespace Go.Proofs.Ytfhdblbiamdplaa
theorem walPlays_holds : Rows.WalPlaysSaid := walPlays.proved
#print axioms walPlays_holds
end Go.Proofs.Ytfhdblbiamdplaa

