/-
  Proved: whatever the arguments are, carrierlaw11.TickPlays answers true and leaves its arguments as they were. No condition.
-/
import Derived.Test.YtodfjpjjcgdmeaaKp
import Derived.Deep.DeepCutAuto
import Derived.Deep.CutBlock
import Derived.Deep.LoopGhost
namespace Go.Proofs.Ytodfjpjjcgdmeaa.tickPlays
open Go.ChangeShapes Go.WideShapes Go.ChangeAt Go.RowKit
set_option linter.unusedVariables false

theorem own : ownKnob Try.prog.godebug = none := by kernel_rfl
theorem laidOut : laidOutB Try.prog = true := by kernel_rfl

/-- The snapshot that is handed in, in its box. -/
def MidA (wk wx : World) (p7 : Nat) : Prop := ∃ (MS : Int) (va : Option Addr) (vc : Nat) (ls : List Int), wx.heap[p7]? = some (.cells #[.int .i64 MS, .slice va ls.length vc] 35 (0, 0)) ∧ RdT wx (.slice va ls.length vc) ls ∧ MS ≤ 1000 ∧ ls.length ≤ 1000 ∧ Kept wk wx []
def SwPost (W : World) (B h hm i : Nat) (s9 : Value) (wx : World) : Prop := s9 = .bool true ∧ ∃ b qs, Bt b W wx B h hm qs qs ∧ Okp qs ∧ lastN qs ≤ (i : Int) + 1
theorem act_cells {w : World} {p : Nat} {D m : Nat} {pv : Value} {t0 n0 : Int} {T : TypeId} (hz : w.heap[p]? = some (.cells #[.int .u8 D, .int .u8 m, pv, .int .i64 t0, .int .i64 n0] T (0, 0))) :
    w.cell? ⟨p, 0, none⟩ = some (.int .u8 D) ∧ w.cell? ⟨p, 1, none⟩ = some (.int .u8 m) ∧ w.cell? ⟨p, 2, none⟩ = some pv ∧ w.cell? ⟨p, 3, none⟩ = some (.int .i64 t0) ∧ w.cell? ⟨p, 4, none⟩ = some (.int .i64 n0) :=
  ⟨by rw [cell_of_row _ _ _ _ _ _ hz]; rfl, by rw [cell_of_row _ _ _ _ _ _ hz]; rfl, by rw [cell_of_row _ _ _ _ _ _ hz]; rfl, by rw [cell_of_row _ _ _ _ _ _ hz]; rfl, by rw [cell_of_row _ _ _ _ _ _ hz]; rfl⟩
theorem right_len {M : Int} {l : List Int} (h : rightB M l = true) (hM : M ≤ 40) : l.length ≤ 1000 := by
  have h1 := right_one h
  simp only [rightB, Bool.and_eq_true, decide_eq_true_eq] at h
  have := upB_len h.2 (by omega)
  omega

set_option maxHeartbeats 16000000 in
set_option maxRecDepth 100000 in
theorem walk (a0 : Option Addr) (len cap : Nat) (f : Nat → ActD) (W : World) (w0 : IsActs W W.heap.size a0 len f ∧ len ≤ maxLen) :
    Calls Try.prog 3 #[.slice a0 len cap] W fun e w' => e = .returned (.bool true) ∧ Below W.heap.size W w' := by
  have HA := Lib.hid w0.1
  have hlm : len ≤ 9223372036854775807 := by have := w0.2; unfold maxLen at this; omega
  clear w0
  by_cases h60 : 100 < len
  · have x0 : (100 : Int) < (len : Int) := by omega
    go_enter Try.func3, Try.ntmps3
    go_wp2_with fail
    refine (trims_any W).mono ?_
    rintro e w1 ⟨rfl, k1⟩
    have K1 := Lib.hid k1; clear k1
    go_wp2_with fail
    refine (trims_any w1).mono ?_
    rintro e w2 ⟨rfl, k2⟩
    have K2 := Lib.hid (K1.out.trans k2 (by simp)); clear k2
    go_wp2
    go_ret
    exact ⟨rfl, K2.out.below (Nat.le_refl _) (by simp)⟩
  · have x0 : ¬ (100 : Int) < (len : Int) := by omega
    go_enter Try.func3, Try.ntmps3
    go_wp2_with fail
    refine (trims_any W).mono ?_
    rintro e w1 ⟨rfl, k1⟩
    have K1 := Lib.hid k1; clear k1
    go_wp2_with fail
    refine (tknew_any w1).mono ?_
    rintro e w2 ⟨rfl, a2, k2⟩
    obtain ⟨hm, hhm⟩ : ∃ p, p = w2.heap.size := ⟨_, rfl⟩
    obtain ⟨w3, hw3⟩ : ∃ w3, w3 = w2.alloc (.cells #[.slice none 0 0, .int .i64 0] 29) := ⟨_, rfl⟩
    have k3 : Kept w2 w3 [] := by rw [hw3]; exact (Kept.refl w2 []).alloc _
    have g3 : w3.heap[hm]? = some (.cells #[.slice none 0 0, .int .i64 0] 29 (0, 0)) := by rw [hw3, hhm]; exact heap_alloc_new w2 _
    have A2 := Lib.hid (show Bt w3.heap.size W w3 w1.heap.size w1.heap.size hm [] [] from by
      refine ⟨_, [], .slice none 0 0, [], a2.keep k3, ⟨g3, by rw [hhm]; exact k2.size, by decide, OwnT.nil _ _ _, fun x hx => by simp at hx⟩, rfl, rfl, ?_, (K1.out.trans k2 (by simp)).trans k3 (by simp), K1.out.size, ?_⟩
      · rintro k (rfl | hk) (hh | hk')
        · have := heap_lt a2.hh; omega
        · simp [Value.ownBlock] at hk'
        · simp [Value.ownBlock] at hk
        · simp [Value.ownBlock] at hk
      · rintro k (rfl | hk)
        · exact heap_lt g3
        · simp [Value.ownBlock] at hk)
    clear a2 k2 g3
    go_upto_region 4 with fail
    rw [← hw3, ← hhm]
    clear hw3 hhm k3
    obtain ⟨h, hh⟩ : ∃ p, p = w1.heap.size := ⟨_, rfl⟩
    obtain ⟨B, hB⟩ : ∃ p, p = w1.heap.size := ⟨_, rfl⟩
    have A3 := Lib.hid (show Bt w3.heap.size W w3 B h hm [] [] from by rw [hh, hB]; exact A2.out)
    rw [← hh]
    clear A2 hh hB
    go_wp2
    go_loopg [5, 6, 7, 8, 9, 10, 11, 12, 13, 14, 15, 16, 17, 18, 19, 20, 21, 22, 23, 24, 25, 26] len (fun kx s5 _ _ _ _ _ _ _ _ _ _ _ _ _ _ _ _ _ _ _ _ _ wr => ∃ (i b : Nat) (ps : List Pt), s5 = .int .i64 i ∧ i ≤ len ∧ len - i ≤ kx ∧ RowKit.Hid (Bt b W wr B h hm ps ps ∧ Okp ps ∧ lastN ps ≤ i))
    case atStart => exact ⟨0, _, [], rfl, by omega, by omega, A3.out, Okp.nil, by simp [lastN]⟩
    case round =>
      clear A3
      obtain ⟨i, b, ps, rfl, hik, hkx, HS⟩ := hrel
      obtain ⟨wo, hwo⟩ : ∃ wo, wo = wr := ⟨_, rfl⟩
      subst hwo
      by_cases hlt : i < len
      · have x1 : (i : Int) < (len : Int) := by omega
        obtain ⟨bb, oo, rfl, hbb, hact⟩ := HA.out (by omega)
        have ac := (hact i hlt).keep HS.out.1.kw
        obtain ⟨D, hD⟩ : ∃ D, D = (f i).d := ⟨_, rfl⟩
        obtain ⟨m, hm0⟩ : ∃ D, D = (f i).m := ⟨_, rfl⟩
        obtain ⟨bs, hbs⟩ : ∃ D, D = (f i).p := ⟨_, rfl⟩
        obtain ⟨t0, ht0⟩ : ∃ D, D = (f i).t := ⟨_, rfl⟩
        obtain ⟨n0, hn0⟩ : ∃ D, D = (f i).n := ⟨_, rfl⟩
        have c0 := ac.c0; have c1 := ac.c1; have c2 := ac.c2; have c3 := ac.c3; have c4 := ac.c4
        have d8 := ac.d8; have m8 := ac.m8; have rp := ac.rp; have n64 := ac.n64
        rw [← hD] at c0 d8
        rw [← hm0] at c1 m8
        rw [← ht0] at c3
        rw [← hn0] at c4 n64
        rw [← hbs] at rp
        obtain ⟨pa, pc, hpv, _⟩ := id rp
        rw [hpv] at c2 rp
        obtain ⟨pl, hpl⟩ : ∃ pl, pl = bs.length := ⟨_, rfl⟩
        rw [← hpl] at c2 rp
        have RP := Lib.hid rp; have HPL := Lib.hid hpl; have N64 := Lib.hid n64
        have hi100 : i < 100 := by omega
        clear ac hact hD hm0 hbs ht0 hn0 hpv rp hpl n64
        obtain ⟨p6, hp6⟩ : ∃ p, p = wo.heap.size := ⟨_, rfl⟩
        obtain ⟨w4, hw4⟩ : ∃ w4, w4 = wo.alloc (.cells #[.int .u8 D, .int .u8 m, .slice pa pl pc, .int .i64 t0, .int .i64 n0] 32) := ⟨_, rfl⟩
        have k4 : Kept wo w4 [] := by rw [hw4]; exact (Kept.refl wo []).alloc _
        have g4 : w4.heap[p6]? = some (.cells #[.int .u8 D, .int .u8 m, .slice pa pl pc, .int .i64 t0, .int .i64 n0] 32 (0, 0)) := by rw [hw4, hp6]; exact heap_alloc_new wo _
        have Q4 := Lib.hid (show Bs p6 W w4 B h hm ps ps from by rw [hp6]; exact HS.out.1.now.keep k4)
        have OK := Lib.hid HS.out.2.1; have HLS := Lib.hid HS.out.2.2
        have G4 := Lib.hid g4; have K4 := Lib.hid k4
        go_upto_region 8 with fail
        rw [← hw4, ← hp6]
        have HP6 := Lib.hid hp6
        clear hw4 hp6 k4 c0 c1 c2 c3 c4 g4 HS
        obtain ⟨z0, z1, z2, z3, z4⟩ := act_cells G4.out
        by_cases h6 : (6 : Int) < (pl : Int)
        · go_wp2
          go_ret
          exact ⟨rfl, Q4.out.kw.below (Nat.le_refl _) (by simp)⟩
        have OF := Lib.hid (of_any m (.slice pa pl pc) bs w4 (RP.out.kept K4.out (by simp)) (by have := HPL.out; omega))
        go_wp2_with fail
        refine OF.out.mono ?_
        rintro e wk ⟨MS, v, ls, rfl, hMS, hR, ⟨va, vc, rfl⟩, hrd, hk⟩
        have hM40 : MS ≤ 40 := by omega
        have hls := right_len hR hM40
        obtain ⟨p7, hp7⟩ : ∃ p, p = wk.heap.size := ⟨_, rfl⟩
        obtain ⟨w5, hw5⟩ : ∃ w5, w5 = wk.alloc (.cells #[.int .i64 MS, .slice va ls.length vc] 35) := ⟨_, rfl⟩
        have k5 : Kept wk w5 [] := by rw [hw5]; exact (Kept.refl wk []).alloc _
        have g7 : w5.heap[p7]? = some (.cells #[.int .i64 MS, .slice va ls.length vc] 35 (0, 0)) := by rw [hw5, hp7]; exact heap_alloc_new wk _
        have KK := Lib.hid hk; have K5 := Lib.hid k5; have G7 := Lib.hid g7; have RS := Lib.hid (hrd.keep k5); have HW5 := Lib.hid hw5; have HP7 := Lib.hid hp7
        have G6 := Lib.hid (hk.heap (by simp) G4.out)
        clear hR hrd hk hMS k5 g7 hw5 hp7 OF z0 z1 z2 z3 z4
        go_upto_region 11 with fail
        rw [← HW5.out, ← HP7.out]
        have e6 := K5.out.heap (by simp) G6.out
        obtain ⟨z0, z1, z2, z3, z4⟩ := act_cells e6
        obtain ⟨q0, q1⟩ := two_cells G7.out
        have f0 : w5.frozen? ⟨p7, 0, none⟩ = false := frozen_of_row _ _ _ _ _ G7.out
        have f1 : w5.frozen? ⟨p7, 1, none⟩ = false := frozen_of_row _ _ _ _ _ G7.out
        clear e6
        go_upto_if 59 with fail
        go_cut [] (fun wx => MidA wk wx p7)
        case first =>
          by_cases hd : (60 : Int) ≤ (D : Int)
          · go_wp2_with fail
            go_meet
            refine ⟨(i : Int) + 1, none, 0, [], ?_, RdT.nil _, by omega, by simp, (K5.out.setCell (p := ⟨p7, 0, none⟩) (.inr (by have := HP7.out; show wk.heap.size ≤ p7; omega)) _).setCell (p := ⟨p7, 1, none⟩) (.inr (by have := HP7.out; show wk.heap.size ≤ p7; omega)) _⟩
            have h1 := heap_setCell_at (heap_setCell_at G7.out 0 (.int .i64 ((i : Int) + 1))) 1 (.slice none 0 0)
            simpa using h1
          · go_wp2_with fail
            go_meet
            exact ⟨MS, va, vc, ls, G7.out, RS.out, by omega, hls, K5.out⟩
        case rest =>
          clear G7 RS q0 q1 f0 f1 z0 z1 z2 z3 z4 hls hM40
          obtain ⟨MS, va, vc, ls, gs, rs, hMS, hls, kx⟩ := hcut
          obtain ⟨w8, hw8⟩ : ∃ w8, w8 = wc := ⟨_, rfl⟩
          subst hw8
          have g6 := kx.heap (by simp) G6.out
          have G6 := Lib.hid g6; have G7 := Lib.hid gs; have RS := Lib.hid rs
          have Q8 := Lib.hid ((Q4.out.keep KK.out).keep kx)
          have P67 : RowKit.Hid (p6 ≤ p7 ∧ p7 < w8.heap.size) := Lib.hid ⟨by have := heap_lt G4.out; have := KK.out.size; have := HP7.out; omega, heap_lt gs⟩
          clear gs rs kx
          obtain ⟨z0, z1, z2, z3, z4⟩ := act_cells g6
          clear g6
          go_upto_if 67 with fail
          go_cut [8] (fun s8 wx => ∃ at0 : Int, s8 = .int .i64 at0 ∧ w8 = wx)
          case first =>
            by_cases hd : (40 : Int) ≤ (D : Int)
            · go_wp2_with fail
              go_meet
              exact ⟨_, rfl, rfl⟩
            · go_wp2_with fail
              go_meet
              exact ⟨_, rfl, rfl⟩
          case rest =>
            obtain ⟨at0, rfl, rfl⟩ := hcut
            obtain ⟨j0, j1⟩ := two_cells G7.out
            have hlast : lastN ps ≤ 1099511627776 := by have := HLS.out; omega
            obtain ⟨t, ht6, ht, ht'⟩ : ∃ t : Nat, t < 6 ∧ (D : Int) % 6 = t ∧ (D : Int).tmod 6 = t := ⟨D % 6, by omega, by omega, by rw [Int.tmod_eq_emod_of_nonneg (by omega)]; omega⟩
            go_upto_block 2 with fail
            go_cut [9, 10, 11, 12, 13, 14, 15, 16, 17, 86, 112, 147] (fun s9 _ _ _ _ _ _ _ _ _ _ _ wx => SwPost W B h hm i s9 wx)
            case first =>
              rcases (show t = 0 ∨ t = 1 ∨ t = 2 ∨ t = 3 ∨ t = 4 ∨ t = 5 by omega) with rfl | rfl | rfl | rfl | rfl | rfl
              · as_aux_lemma =>
                  have HC := Lib.hid (bt_add Q8.out OK.out MS va vc ls at0 RS.out (by omega) hls hlast)
                  clear z0 z1 z2 z3 z4
                  go_wp2_with fail
                  refine HC.out.mono ?_
                  rintro e w9 ⟨y, rfl, hy, hry, t9, n9⟩
                  obtain ⟨y0, y1, y2, y3, y4, y5⟩ := y
                  simp only [Tk.cs, Tk.op] at *
                  obtain ⟨w10, hw10⟩ : ∃ z, z = w9.alloc (.cells #[.int .i64 y0, .int .i64 y1, .slice y2 y4.length y3, .int .i64 y5] 38) := ⟨_, rfl⟩
                  obtain ⟨pA, hpA⟩ : ∃ z, z = w9.heap.size := ⟨_, rfl⟩
                  have kw10 : Kept w9 w10 [] := by rw [hw10]; exact (Kept.refl w9 []).alloc _
                  have gpA : w10.heap[pA]? = some (.cells #[.int .i64 y0, .int .i64 y1, .slice y2 y4.length y3, .int .i64 y5] 38 (0, 0)) := by rw [hw10, hpA]; exact heap_alloc_new w9 _
                  have HD := Lib.hid (rbt_add (t9.keep kw10) OK.out MS va vc ls at0 ((n9.rd _ _ RS.out).keep kw10) (by omega) hls hlast)
                  have GA := Lib.hid gpA; have RY := Lib.hid (hry.keep kw10); have HW10 := Lib.hid hw10; have HPA := Lib.hid hpA; have HY := Lib.hid hy
                  have P6A : RowKit.Hid (p6 ≤ pA) := Lib.hid (by have := P67.out; have := n9.size; omega)
                  have g7 := kw10.heap (by simp) (n9.far p7 _ P67.out.1 G7.out)
                  have HLE : RowKit.Hid (lastN (addS ps MS ls at0) ≤ (i : Int) + 1) := Lib.hid (by have := last_le ps MS ls at0; have := HLS.out; omega)
                  have OK2 := Lib.hid (OK.out.add (M := MS) (l := ls) at0 (by omega) hls)
                  obtain ⟨E, hE⟩ : ∃ E, E = addE ps MS ls at0 := ⟨_, rfl⟩
                  rw [← hE] at HD ⊢
                  clear hE hy hry t9 n9 gpA hw10 hpA kw10 HC j0 j1
                  obtain ⟨j0, j1⟩ := two_cells g7
                  clear g7
                  go_upto_region 23 with fail
                  rw [← HW10.out, ← HPA.out]
                  go_wp2_with fail
                  refine HD.out.mono ?_
                  rintro e w11 ⟨z, rfl, hz, hrz, tA, nA⟩
                  obtain ⟨z0, z1, z2, z3, z4, z5⟩ := z
                  simp only [Tk.cs, Tk.op] at *
                  obtain ⟨w12, hw12⟩ : ∃ z, z = w11.alloc (.cells #[.int .i64 z0, .int .i64 z1, .slice z2 z4.length z3, .int .i64 z5] 38) := ⟨_, rfl⟩
                  obtain ⟨pB, hpB⟩ : ∃ z, z = w11.heap.size := ⟨_, rfl⟩
                  have kw12 : Kept w11 w12 [] := by rw [hw12]; exact (Kept.refl w11 []).alloc _
                  have gpB : w12.heap[pB]? = some (.cells #[.int .i64 z0, .int .i64 z1, .slice z2 z4.length z3, .int .i64 z5] 38 (0, 0)) := by rw [hw12, hpB]; exact heap_alloc_new w11 _
                  have GB := Lib.hid gpB; have HW12 := Lib.hid hw12; have HPB := Lib.hid hpB
                  have GA2 := Lib.hid (kw12.heap (by simp) (nA.far pA _ P6A.out GA.out))
                  have SM := Lib.hid (rsame_any ⟨y0, y1, y2, y3, y4, y5⟩ ⟨z0, z1, z2, z3, z4, z5⟩ w12 (HY.out.trans hz.symm) ((nA.rd _ _ RY.out).keep kw12).1 (hrz.keep kw12).1)
                  have TB := Lib.hid (tA.keep kw12)
                  simp only [Tk.cs] at SM
                  clear hz hrz tA nA gpB hw12 hpB kw12 HD j0 j1
                  obtain ⟨c0, c1, c2, c3⟩ := tk_cells GA2.out
                  obtain ⟨d0, d1, d2, d3⟩ := tk_cells GB.out
                  go_upto_region 24 with fail
                  rw [← HW12.out, ← HPB.out]
                  go_wp2_with fail
                  refine SM.out.mono ?_
                  rintro e wE ⟨rfl, kE⟩
                  have TE := Lib.hid (TB.out.keep kE)
                  clear kE c0 c1 c2 c3 d0 d1 d2 d3
                  go_wp2_with fail
                  go_meet
                  exact ⟨by simp, _, _, TE.out, OK2.out, HLE.out⟩
              · as_aux_lemma =>
                  have HC := Lib.hid (bt_add Q8.out OK.out MS va vc ls at0 RS.out (by omega) hls hlast)
                  clear z0 z1 z2 z3 z4
                  go_wp2_with fail
                  refine HC.out.mono ?_
                  rintro e w9 ⟨y, rfl, hy, hry, t9, n9⟩
                  obtain ⟨y0, y1, y2, y3, y4, y5⟩ := y
                  simp only [Tk.cs, Tk.op] at *
                  obtain ⟨w10, hw10⟩ : ∃ z, z = w9.alloc (.cells #[.int .i64 y0, .int .i64 y1, .slice y2 y4.length y3, .int .i64 y5] 38) := ⟨_, rfl⟩
                  obtain ⟨pA, hpA⟩ : ∃ z, z = w9.heap.size := ⟨_, rfl⟩
                  have kw10 : Kept w9 w10 [] := by rw [hw10]; exact (Kept.refl w9 []).alloc _
                  have gpA : w10.heap[pA]? = some (.cells #[.int .i64 y0, .int .i64 y1, .slice y2 y4.length y3, .int .i64 y5] 38 (0, 0)) := by rw [hw10, hpA]; exact heap_alloc_new w9 _
                  have HD := Lib.hid (rbt_add (t9.keep kw10) OK.out MS va vc ls at0 ((n9.rd _ _ RS.out).keep kw10) (by omega) hls hlast)
                  have GA := Lib.hid gpA; have RY := Lib.hid (hry.keep kw10); have HW10 := Lib.hid hw10; have HPA := Lib.hid hpA; have HY := Lib.hid hy
                  have P6A : RowKit.Hid (p6 ≤ pA) := Lib.hid (by have := P67.out; have := n9.size; omega)
                  have g7 := kw10.heap (by simp) (n9.far p7 _ P67.out.1 G7.out)
                  have HLE : RowKit.Hid (lastN (addS ps MS ls at0) ≤ (i : Int) + 1) := Lib.hid (by have := last_le ps MS ls at0; have := HLS.out; omega)
                  have OK2 := Lib.hid (OK.out.add (M := MS) (l := ls) at0 (by omega) hls)
                  obtain ⟨E, hE⟩ : ∃ E, E = addE ps MS ls at0 := ⟨_, rfl⟩
                  rw [← hE] at HD ⊢
                  clear hE hy hry t9 n9 gpA hw10 hpA kw10 HC j0 j1
                  obtain ⟨j0, j1⟩ := two_cells g7
                  clear g7
                  go_upto_region 23 with fail
                  rw [← HW10.out, ← HPA.out]
                  go_wp2_with fail
                  refine HD.out.mono ?_
                  rintro e w11 ⟨z, rfl, hz, hrz, tA, nA⟩
                  obtain ⟨z0, z1, z2, z3, z4, z5⟩ := z
                  simp only [Tk.cs, Tk.op] at *
                  obtain ⟨w12, hw12⟩ : ∃ z, z = w11.alloc (.cells #[.int .i64 z0, .int .i64 z1, .slice z2 z4.length z3, .int .i64 z5] 38) := ⟨_, rfl⟩
                  obtain ⟨pB, hpB⟩ : ∃ z, z = w11.heap.size := ⟨_, rfl⟩
                  have kw12 : Kept w11 w12 [] := by rw [hw12]; exact (Kept.refl w11 []).alloc _
                  have gpB : w12.heap[pB]? = some (.cells #[.int .i64 z0, .int .i64 z1, .slice z2 z4.length z3, .int .i64 z5] 38 (0, 0)) := by rw [hw12, hpB]; exact heap_alloc_new w11 _
                  have GB := Lib.hid gpB; have HW12 := Lib.hid hw12; have HPB := Lib.hid hpB
                  have GA2 := Lib.hid (kw12.heap (by simp) (nA.far pA _ P6A.out GA.out))
                  have SM := Lib.hid (rsame_any ⟨y0, y1, y2, y3, y4, y5⟩ ⟨z0, z1, z2, z3, z4, z5⟩ w12 (HY.out.trans hz.symm) ((nA.rd _ _ RY.out).keep kw12).1 (hrz.keep kw12).1)
                  have TB := Lib.hid (tA.keep kw12)
                  simp only [Tk.cs] at SM
                  clear hz hrz tA nA gpB hw12 hpB kw12 HD j0 j1
                  obtain ⟨c0, c1, c2, c3⟩ := tk_cells GA2.out
                  obtain ⟨d0, d1, d2, d3⟩ := tk_cells GB.out
                  go_upto_region 24 with fail
                  rw [← HW12.out, ← HPB.out]
                  go_wp2_with fail
                  refine SM.out.mono ?_
                  rintro e wE ⟨rfl, kE⟩
                  have TE := Lib.hid (TB.out.keep kE)
                  clear kE c0 c1 c2 c3 d0 d1 d2 d3
                  go_wp2_with fail
                  go_meet
                  exact ⟨by simp, _, _, TE.out, OK2.out, HLE.out⟩
              · as_aux_lemma =>
                  have HC := Lib.hid (bt_add Q8.out OK.out MS va vc ls at0 RS.out (by omega) hls hlast)
                  clear z0 z1 z2 z3 z4
                  go_wp2_with fail
                  refine HC.out.mono ?_
                  rintro e w9 ⟨y, rfl, hy, hry, t9, n9⟩
                  obtain ⟨y0, y1, y2, y3, y4, y5⟩ := y
                  simp only [Tk.cs, Tk.op] at *
                  obtain ⟨w10, hw10⟩ : ∃ z, z = w9.alloc (.cells #[.int .i64 y0, .int .i64 y1, .slice y2 y4.length y3, .int .i64 y5] 38) := ⟨_, rfl⟩
                  obtain ⟨pA, hpA⟩ : ∃ z, z = w9.heap.size := ⟨_, rfl⟩
                  have kw10 : Kept w9 w10 [] := by rw [hw10]; exact (Kept.refl w9 []).alloc _
                  have gpA : w10.heap[pA]? = some (.cells #[.int .i64 y0, .int .i64 y1, .slice y2 y4.length y3, .int .i64 y5] 38 (0, 0)) := by rw [hw10, hpA]; exact heap_alloc_new w9 _
                  have HD := Lib.hid (rbt_add (t9.keep kw10) OK.out MS va vc ls at0 ((n9.rd _ _ RS.out).keep kw10) (by omega) hls hlast)
                  have GA := Lib.hid gpA; have RY := Lib.hid (hry.keep kw10); have HW10 := Lib.hid hw10; have HPA := Lib.hid hpA; have HY := Lib.hid hy
                  have P6A : RowKit.Hid (p6 ≤ pA) := Lib.hid (by have := P67.out; have := n9.size; omega)
                  have g7 := kw10.heap (by simp) (n9.far p7 _ P67.out.1 G7.out)
                  have HLE : RowKit.Hid (lastN (addS ps MS ls at0) ≤ (i : Int) + 1) := Lib.hid (by have := last_le ps MS ls at0; have := HLS.out; omega)
                  have OK2 := Lib.hid (OK.out.add (M := MS) (l := ls) at0 (by omega) hls)
                  obtain ⟨E, hE⟩ : ∃ E, E = addE ps MS ls at0 := ⟨_, rfl⟩
                  rw [← hE] at HD ⊢
                  clear hE hy hry t9 n9 gpA hw10 hpA kw10 HC j0 j1
                  obtain ⟨j0, j1⟩ := two_cells g7
                  clear g7
                  go_upto_region 23 with fail
                  rw [← HW10.out, ← HPA.out]
                  go_wp2_with fail
                  refine HD.out.mono ?_
                  rintro e w11 ⟨z, rfl, hz, hrz, tA, nA⟩
                  obtain ⟨z0, z1, z2, z3, z4, z5⟩ := z
                  simp only [Tk.cs, Tk.op] at *
                  obtain ⟨w12, hw12⟩ : ∃ z, z = w11.alloc (.cells #[.int .i64 z0, .int .i64 z1, .slice z2 z4.length z3, .int .i64 z5] 38) := ⟨_, rfl⟩
                  obtain ⟨pB, hpB⟩ : ∃ z, z = w11.heap.size := ⟨_, rfl⟩
                  have kw12 : Kept w11 w12 [] := by rw [hw12]; exact (Kept.refl w11 []).alloc _
                  have gpB : w12.heap[pB]? = some (.cells #[.int .i64 z0, .int .i64 z1, .slice z2 z4.length z3, .int .i64 z5] 38 (0, 0)) := by rw [hw12, hpB]; exact heap_alloc_new w11 _
                  have GB := Lib.hid gpB; have HW12 := Lib.hid hw12; have HPB := Lib.hid hpB
                  have GA2 := Lib.hid (kw12.heap (by simp) (nA.far pA _ P6A.out GA.out))
                  have SM := Lib.hid (rsame_any ⟨y0, y1, y2, y3, y4, y5⟩ ⟨z0, z1, z2, z3, z4, z5⟩ w12 (HY.out.trans hz.symm) ((nA.rd _ _ RY.out).keep kw12).1 (hrz.keep kw12).1)
                  have TB := Lib.hid (tA.keep kw12)
                  simp only [Tk.cs] at SM
                  clear hz hrz tA nA gpB hw12 hpB kw12 HD j0 j1
                  obtain ⟨c0, c1, c2, c3⟩ := tk_cells GA2.out
                  obtain ⟨d0, d1, d2, d3⟩ := tk_cells GB.out
                  go_upto_region 24 with fail
                  rw [← HW12.out, ← HPB.out]
                  go_wp2_with fail
                  refine SM.out.mono ?_
                  rintro e wE ⟨rfl, kE⟩
                  have TE := Lib.hid (TB.out.keep kE)
                  clear kE c0 c1 c2 c3 d0 d1 d2 d3
                  go_wp2_with fail
                  go_meet
                  exact ⟨by simp, _, _, TE.out, OK2.out, HLE.out⟩
              · as_aux_lemma =>
                  obtain ⟨L, hL⟩ : ∃ L, L = lastN ps := ⟨_, rfl⟩
                  have hL0 : 0 ≤ L ∧ L ≤ 100 := by rw [hL]; have := OK.out.n0; have := HLS.out; omega
                  have hd1 := Q8.out.bt.doc.2
                  rw [← hL] at hd1
                  obtain ⟨s1, s2⟩ := putS_is ps MS ls at0
                  have HC1 := bt_put Q8.out OK.out (lastN ps + 1) MS va vc ls at0 RS.out (by omega) hls hlast
                  rw [s1, s2, ← hL] at HC1
                  have HCY := Lib.hid HC1
                  have HLE : RowKit.Hid (lastN (addS ps MS ls at0) ≤ (i : Int) + 1) := Lib.hid (by have := last_le ps MS ls at0; have := HLS.out; omega)
                  have OK2 := Lib.hid (OK.out.add (M := MS) (l := ls) at0 (by omega) hls)
                  have HL := Lib.hid hL
                  have m2 : IntKind.i64.wrap (L + 1) = L + 1 := by rw [IntKind.wrap_i64]; omega
                  obtain ⟨E, hE⟩ : ∃ E, E = addE ps MS ls at0 := ⟨_, rfl⟩
                  have HE := Lib.hid hE
                  rw [← hE] at HCY
                  clear s1 s2 HC1 hE hL
                  go_upto_if 118 with fail
                  go_cut [14] (fun s14 wx => ∃ N : Int, s14 = .int .i64 N ∧ w8 = wx)
                  case first =>
                    by_cases hd : (30 : Int) ≤ (D : Int)
                    · go_wp2_with fail
                      go_meet
                      exact ⟨_, rfl, rfl⟩
                    · go_wp2_with fail
                      go_meet
                      exact ⟨_, rfl, rfl⟩
                  case rest =>
                    obtain ⟨N, rfl, rfl⟩ := hcut
                    clear z0 z1 z2 z3 z4
                    by_cases hN : N = L + 1
                    · subst hN
                      clear hd1
                      go_wp2_with fail
                      refine HCY.out.mono ?_
                      rintro e w9 ⟨rfl, t9, n9⟩
                      have hdd := t9.doc.2
                      rw [← HL.out] at hdd
                      have HD := Lib.hid (rbt_add t9 OK.out MS va vc ls at0 (n9.rd _ _ RS.out) (by omega) hls hlast)
                      have g7 := n9.far p7 _ P67.out.1 G7.out
                      rw [← HE.out] at HD
                      clear t9 n9 j0 j1
                      obtain ⟨j0, j1⟩ := two_cells g7
                      clear g7
                      go_wp2_with fail
                      refine HD.out.mono ?_
                      rintro e w11 ⟨z, rfl, _, _, tA, nA⟩
                      have TA := Lib.hid tA
                      clear tA nA hdd j0 j1
                      go_wp2_with fail
                      go_meet
                      exact ⟨by simp, _, _, TA.out, OK2.out, HLE.out⟩
                    · have hne : N ≠ lastN ps + 1 := by rw [← HL.out]; exact hN
                      obtain ⟨s1, s2⟩ := putS_not hne MS ls at0
                      have HC := bt_put Q8.out OK.out N MS va vc ls at0 RS.out (by omega) hls hlast
                      rw [s1, s2] at HC
                      have HC := Lib.hid HC
                      have x5 : (N == L + 1) = false := beq_eq_false_iff_ne.2 hN
                      clear s1 s2 hne hd1 hN
                      go_wp2_with fail
                      refine HC.out.mono ?_
                      rintro e w9 ⟨rfl, t9, n9⟩
                      have hdd := t9.doc.2
                      rw [← HL.out] at hdd
                      have T9 := Lib.hid t9
                      clear t9 n9 j0 j1
                      go_wp2_with fail
                      go_meet
                      exact ⟨by simp, _, _, T9.out, OK.out, by have := HLS.out; omega⟩
              · as_aux_lemma =>
                  have hd1 := Q8.out.bt.doc.2
                  obtain ⟨L, hL⟩ : ∃ L, L = lastN ps := ⟨_, rfl⟩
                  rw [← hL] at hd1
                  clear hL
                  go_upto_region 35 with fail
                  go_cut [17] (fun s17 wx => ∃ (N : Int) (q : Nat), s17 = .int .i64 N ∧ wx = w8.drewN q)
                  case first =>
                    go_quiet (fail)
                    go_wp2_with fail
                    go_meet
                    exact ⟨_, _, rfl, rfl⟩
                  case rest =>
                    obtain ⟨N, q, rfl, hwx⟩ := hcut
                    have kq : Kept w8 wc [] := by rw [hwx]; exact (Kept.refl w8 []).drewN q
                    have HC := Lib.hid (bt_trim (Q8.out.keep kq) OK.out N)
                    have HT := Lib.hid (OK.out.trim N)
                    have HLT : RowKit.Hid (lastN (trimS ps N) ≤ (i : Int) + 1) := Lib.hid (by rw [lastN_trim]; have := HLS.out; omega)
                    generalize hA0 : (ps.length : Int) - ((trimS ps N).length : Int) = A at HC
                    have HA0 := Lib.hid hA0
                    clear hd1 hwx kq hA0 z0 z1 z2 z3 z4 j0 j1
                    go_wp2_with fail
                    refine HC.out.mono ?_
                    rintro e w9 ⟨rfl, t9, n9⟩
                    have HD := rbt_trim t9 OK.out N
                    rw [HA0.out] at HD
                    have HD := Lib.hid HD
                    clear t9 n9
                    go_wp2_with fail
                    refine HD.out.mono ?_
                    rintro e wA ⟨rfl, tA, nA⟩
                    have TA := Lib.hid tA
                    clear tA nA
                    go_wp2_with fail
                    go_meet
                    exact ⟨by simp, _, _, TA.out, HT.out, HLT.out⟩
              · as_aux_lemma =>
                  by_cases hd : (D : Int) < 200
                  · have d5 : decide ((D : Int) < 200) = true := decide_eq_true hd
                    clear j0 j1
                    go_upto_region 18 with fail
                    go_quiet (fail)
                    have TQ := Lib.hid (Q8.out.bt.keep ((Kept.refl w8 []).drewN nq))
                    go_wp2_with fail
                    go_meet
                    exact ⟨by simp, _, _, TQ.out, OK.out, by have := HLS.out; omega⟩
                  · have d5 : decide ((D : Int) < 200) = false := decide_eq_false hd
                    have HC := Lib.hid (bt_trim (Q8.out.keep (Kept.refl w8 []).drew) OK.out n0)
                    have HT := Lib.hid (OK.out.trim n0)
                    have HLT : RowKit.Hid (lastN (trimS ps n0) ≤ (i : Int) + 1) := Lib.hid (by rw [lastN_trim]; have := HLS.out; omega)
                    generalize hA0 : (ps.length : Int) - ((trimS ps n0).length : Int) = A at HC
                    have HA0 := Lib.hid hA0
                    clear hA0 z0 z1 z2 z3 z4 j0 j1
                    go_upto_region 18 with fail
                    refine wp_region_held_drew (S := fun Z => Z.heap[p6]? = some (.cells #[.int .u8 D, .int .u8 m, .slice pa pl pc, .int .i64 t0, .int .i64 n0] 32 (0, 0))) (by kernel_rfl) G6.out (fun hHeld => ?_)
                    refine wpAnyH_take (i := 0) (oi := _) (v := .pointer (some ⟨p6, 0, none⟩)) rfl (by kernel_rfl) (by kernel_rfl) (by kernel_rfl) (fun _ _ _ h => h) (Or.inl ⟨by rfl, fun V hV => by go_simp⟩) hHeld ?_
                    change wpAnyH _ _ _ _ _ _ _ (Act.put _ (some 72) _) _
                    simp only [Act.put, List.setIfInBounds_toArray, List.set_cons_zero, List.set_cons_succ]
                    refine wpAnyH_take (i := 1) (oi := _) (v := .int .u8 D) rfl (by kernel_rfl) (by kernel_rfl) (by kernel_rfl) (fun _ _ _ h => h) (Or.inl ⟨by rfl, fun V hV => by (have q4 := (act_cells hV).1; clear hV; go_simp)⟩) hHeld ?_
                    change wpAnyH _ _ _ _ _ _ _ (Act.put _ (some 73) _) _
                    simp only [Act.put, List.setIfInBounds_toArray, List.set_cons_zero, List.set_cons_succ]
                    refine wpAnyH_take (i := 2) (oi := _) (v := .bool false) rfl (by kernel_rfl) (by kernel_rfl) (by kernel_rfl) (fun _ _ _ h => h) (Or.inl ⟨by rfl, fun V hV => by go_simp⟩) hHeld ?_
                    change wpAnyH _ _ _ _ _ _ _ (Act.put _ (some 74) _) _
                    simp only [Act.put, List.setIfInBounds_toArray, List.set_cons_zero, List.set_cons_succ]
                    refine wpAnyH_take (i := 3) (oi := _) (v := .bool false) rfl (by kernel_rfl) (by kernel_rfl) (by kernel_rfl) (fun _ _ _ h => h) (Or.inl ⟨by rfl, fun V hV => by go_simp⟩) hHeld ?_
                    change wpAnyH _ _ _ _ _ _ _ (Act.put _ (some 75) _) _
                    simp only [Act.put, List.setIfInBounds_toArray, List.set_cons_zero, List.set_cons_succ]
                    refine wpAnyH_take (i := 4) (oi := _) (v := .pointer (some ⟨h, 0, none⟩)) rfl (by kernel_rfl) (by kernel_rfl) (by kernel_rfl) (fun _ _ _ h => h) (Or.inl ⟨by rfl, fun V hV => by go_simp⟩) hHeld ?_
                    change wpAnyH _ _ _ _ _ _ _ (Act.put _ (some 76) _) _
                    simp only [Act.put, List.setIfInBounds_toArray, List.set_cons_zero, List.set_cons_succ]
                    refine wpAnyH_take (i := 5) (oi := _) (v := .pointer (some ⟨p6, 4, none⟩)) rfl (by kernel_rfl) (by kernel_rfl) (by kernel_rfl) (fun _ _ _ h => h) (Or.inl ⟨by rfl, fun V hV => by go_simp⟩) hHeld ?_
                    change wpAnyH _ _ _ _ _ _ _ (Act.put _ (some 77) _) _
                    simp only [Act.put, List.setIfInBounds_toArray, List.set_cons_zero, List.set_cons_succ]
                    refine wpAnyH_take (i := 6) (oi := _) (v := .int .i64 n0) rfl (by kernel_rfl) (by kernel_rfl) (by kernel_rfl) (fun _ _ _ h => h) (Or.inl ⟨by rfl, fun V hV => by (have q4 := (act_cells hV).2.2.2.2; clear hV; go_simp)⟩) hHeld ?_
                    change wpAnyH _ _ _ _ _ _ _ (Act.put _ (some 78) _) _
                    simp only [Act.put, List.setIfInBounds_toArray, List.set_cons_zero, List.set_cons_succ]
                    refine wpAnyH_take (i := 8) (oi := _) (v := .pointer (some ⟨hm, 0, none⟩)) rfl (by kernel_rfl) (by kernel_rfl) (by kernel_rfl) (fun _ _ _ h => h) (Or.inl ⟨by rfl, fun V hV => by go_simp⟩) hHeld ?_
                    change wpAnyH _ _ _ _ _ _ _ (Act.put _ (some 80) _) _
                    simp only [Act.put, List.setIfInBounds_toArray, List.set_cons_zero, List.set_cons_succ]
                    refine wpAnyH_take (i := 9) (oi := _) (v := .pointer (some ⟨p6, 4, none⟩)) rfl (by kernel_rfl) (by kernel_rfl) (by kernel_rfl) (fun _ _ _ h => h) (Or.inl ⟨by rfl, fun V hV => by go_simp⟩) hHeld ?_
                    change wpAnyH _ _ _ _ _ _ _ (Act.put _ (some 81) _) _
                    simp only [Act.put, List.setIfInBounds_toArray, List.set_cons_zero, List.set_cons_succ]
                    refine wpAnyH_take (i := 10) (oi := _) (v := .int .i64 n0) rfl (by kernel_rfl) (by kernel_rfl) (by kernel_rfl) (fun _ _ _ h => h) (Or.inl ⟨by rfl, fun V hV => by (have q4 := (act_cells hV).2.2.2.2; clear hV; go_simp)⟩) hHeld ?_
                    change wpAnyH _ _ _ _ _ _ _ (Act.put _ (some 82) _) _
                    simp only [Act.put, List.setIfInBounds_toArray, List.set_cons_zero, List.set_cons_succ]
                    refine wpAnyH_ready (rs := [7]) (by kernel_rfl) (by simp) ?_
                    refine AllReadyH.cons (o := _) rfl (fun K hK => ?_) AllReadyH.nil
                    go_simp
                    go_at_call 17
                    refine HC.out.mono ?_
                    rintro e w9 ⟨rfl, t9, n9⟩
                    have HD := rbt_trim t9 OK.out n0
                    rw [HA0.out] at HD
                    have HD := Lib.hid HD
                    have G9 := Lib.hid (n9.far p6 _ (Nat.le_refl _) G6.out)
                    clear t9
                    go_wp2_with fail
                    refine hK.out _ _ G9.out (fun hHeld => ?_)
                    clear hK K
                    refine wpAnyH_ready (rs := [11]) (by kernel_rfl) (by simp) ?_
                    refine AllReadyH.cons (o := _) rfl (fun K hK => ?_) AllReadyH.nil
                    go_simp
                    go_at_call 18
                    refine HD.out.mono ?_
                    rintro e wA ⟨rfl, tA, nA⟩
                    have TA := Lib.hid tA
                    have GA := Lib.hid (nA.far p6 _ (Nat.le_refl _) G9.out)
                    clear tA
                    go_wp2_with fail
                    refine hK.out _ _ GA.out (fun hHeld => ?_)
                    clear hK K
                    refine wpAnyH_take (i := 12) (oi := _) (v := .bool true) rfl (by kernel_rfl) (by kernel_rfl) (by kernel_rfl) (fun _ _ _ h => h) (Or.inl ⟨by rfl, fun V hV => by go_simp⟩) hHeld ?_
                    change wpAnyH _ _ _ _ _ _ _ (Act.put _ (some 84) _) _
                    simp only [Act.put, List.setIfInBounds_toArray, List.set_cons_zero, List.set_cons_succ]
                    refine wpAnyH_take (i := 13) (oi := _) (v := .bool true) rfl (by kernel_rfl) (by kernel_rfl) (by kernel_rfl) (fun _ _ _ h => h) (Or.inl ⟨by rfl, fun V hV => by go_simp⟩) hHeld ?_
                    change wpAnyH _ _ _ _ _ _ _ (Act.put _ (some 85) _) _
                    simp only [Act.put, List.setIfInBounds_toArray, List.set_cons_zero, List.set_cons_succ]
                    refine wpAnyH_take (i := 14) (oi := _) (v := .bool true) rfl (by kernel_rfl) (by kernel_rfl) (by kernel_rfl) (fun _ _ _ h => h) (Or.inl ⟨by rfl, fun V hV => by go_simp⟩) hHeld ?_
                    change wpAnyH _ _ _ _ _ _ _ (Act.put _ (some 9) _) _
                    simp only [Act.put, List.setIfInBounds_toArray, List.set_cons_zero, List.set_cons_succ]
                    refine wpAnyH_done (by kernel_rfl) ?_ _
                    go_wp2_with fail
                    go_meet
                    exact ⟨by simp, _, _, TA.out, HT.out, HLT.out⟩
            case rest => as_aux_lemma =>
              obtain ⟨rfl, b2, qs, tq, okq, hlq⟩ := hcut
              obtain ⟨w8, hw8⟩ : ∃ w8, w8 = wc := ⟨_, rfl⟩
              subst hw8
              have T := Lib.hid tq; have OKQ := Lib.hid okq; have HLQ := Lib.hid hlq
              obtain ⟨⟨ud, cd, d0⟩, d1⟩ := tq.doc
              obtain ⟨L, hL⟩ : ∃ L, L = lastN qs := ⟨_, rfl⟩
              obtain ⟨N, hN⟩ : ∃ N, N = qs.length := ⟨_, rfl⟩
              have HQL : RowKit.Hid (∀ q, Calls Try.prog 19 #[.pointer (some ⟨h, 0, none⟩)] (w8.drewN q) fun e w' => e = .returned (.int .i64 L) ∧ ∃ m, w' = w8.drewN m) := Lib.hid (fun q => by
                rw [hL]
                exact (bt_lastq (tq.keep ((Kept.refl w8 []).drewN q)) okq).mono (fun e w' ⟨h1, m, h2⟩ => ⟨h1, q + m, by rw [h2, World.drewN_drewN]⟩))
              have HQN : RowKit.Hid (∀ q, Calls Try.prog 20 #[.pointer (some ⟨h, 0, none⟩)] (w8.drewN q) fun e w' => e = .returned (.int .i64 N) ∧ w' = w8.drewN q) := Lib.hid (fun q => by
                rw [hN]
                exact bt_len (tq.keep ((Kept.refl w8 []).drewN q)))
              rw [← hL] at d1
              rw [← hN] at d0
              have hLb : 0 ≤ L ∧ L ≤ 101 := by rw [hL]; have := okq.n0; omega
              have D1 := Lib.hid d1; have HL := Lib.hid hL
              have l1 : (L != L) = false := by simp
              have l2 : ((N : Int) != (N : Int)) = false := by simp
              clear tq okq hlq hL hN z0 z1 z2 z3 z4 j0 j1 ht ht' ht6 hlast hMS hls
              go_upto_region 37 with fail
              go_quiet ((first
                | (go_at_call 19; exact HQL.out _)
                | (go_at_call 20; exact Calls.quiet_of_same (HQN.out _))))
              have KQ := Lib.hid ((Kept.refl w8 []).drewN nq)
              have m3 : wrap64 (L - 4) = L - 4 := by simp only [wrap64]; omega
              clear d0 l1 l2
              go_wp2
              go_loopg [18, 19, 20, 21, 22, 23, 24, 25, 26] 6 (fun kx s18 _ _ _ _ _ _ _ _ wr2 => ∃ j : Nat, s18 = .int .i64 (L - 4 + j) ∧ j ≤ 6 ∧ 6 - j ≤ kx ∧ RowKit.Hid (Kept w8 wr2 []))
              case atStart => exact ⟨0, by simp, by omega, by omega, KQ⟩
              case round =>
                clear KQ d1
                obtain ⟨j, rfl, hj, hkj, HK⟩ := hrel
                obtain ⟨w1, hw1⟩ : ∃ w1, w1 = wr := ⟨_, rfl⟩
                subst hw1
                have d1 := HK.out.cell (p := ⟨hm, 1, none⟩) (by simp) D1.out
                have m5 : wrap64 (L + 1) = L + 1 := by simp only [wrap64]; omega
                by_cases hj6 : j < 6
                · obtain ⟨n, hn⟩ : ∃ n : Int, n = L - 4 + (j : Int) := ⟨_, rfl⟩
                  have hnl : n ≤ L + 1 := by omega
                  have HN := Lib.hid hn
                  have m6 : wrap64 (n + 1) = n + 1 := by simp only [wrap64]; omega
                  rw [← hn]
                  clear hn
                  have HG := fun U (hU : Kept w8 U []) => bt_get (T.out.keep hU) OKQ.out n
                  have HRG := fun U (hU : Kept w8 U []) => rbt_get (T.out.keep hU) OKQ.out n
                  have HAf := fun U (hU : Kept w8 U []) => bt_aft (T.out.keep hU) OKQ.out n
                  have HRA := fun U (hU : Kept w8 U []) => rbt_aft (T.out.keep hU) OKQ.out n
                  generalize getS qs n = o1 at HG HRG
                  generalize aftS qs n = o2 at HAf HRA
                  have HG := Lib.hid HG; have HRG := Lib.hid HRG; have HAf := Lib.hid HAf; have HRA := Lib.hid HRA
                  go_wp2_with fail
                  refine (HG.out _ HK.out).mono ?_
                  rintro e wa ⟨y, rfl, hy, hry, _, ka⟩
                  obtain ⟨y0, y1, y2, y3, y4, y5⟩ := y
                  simp only [Tk.cs, Tk.op] at *
                  obtain ⟨wb, hwb⟩ : ∃ z, z = wa.alloc (.cells #[.int .i64 y0, .int .i64 y1, .slice y2 y4.length y3, .int .i64 y5] 38) := ⟨_, rfl⟩
                  obtain ⟨p19, hp19⟩ : ∃ z, z = wa.heap.size := ⟨_, rfl⟩
                  have kwb : Kept wa wb [] := by rw [hwb]; exact (Kept.refl wa []).alloc _
                  have gp19 : wb.heap[p19]? = some (.cells #[.int .i64 y0, .int .i64 y1, .slice y2 y4.length y3, .int .i64 y5] 38 (0, 0)) := by rw [hwb, hp19]; exact heap_alloc_new wa _
                  have HY1 := Lib.hid hy; have RY1 := Lib.hid (hry.keep kwb); have GP1 := Lib.hid gp19; have HW1 := Lib.hid hwb; have HP1 := Lib.hid hp19
                  have KK1 := Lib.hid ((HK.out.trans ka (by simp)).trans kwb (by simp)); have ST1 := Lib.hid (ka.trans kwb (by simp))
                  clear hy hry ka gp19 hwb hp19 kwb
                  go_upto_region 43 with fail
                  rw [← HW1.out, ← HP1.out]
                  go_wp2_with fail
                  refine (HRG.out _ KK1.out).mono ?_
                  rintro e wd ⟨z, rfl, hy, hry, k⟩
                  obtain ⟨z0, z1, z2, z3, z4, z5⟩ := z
                  simp only [Tk.cs, Tk.op] at *
                  obtain ⟨we, hwe⟩ : ∃ z, z = wd.alloc (.cells #[.int .i64 z0, .int .i64 z1, .slice z2 z4.length z3, .int .i64 z5] 38) := ⟨_, rfl⟩
                  obtain ⟨p21, hp21⟩ : ∃ z, z = wd.heap.size := ⟨_, rfl⟩
                  have kwe : Kept wd we [] := by rw [hwe]; exact (Kept.refl wd []).alloc _
                  have gp21 : we.heap[p21]? = some (.cells #[.int .i64 z0, .int .i64 z1, .slice z2 z4.length z3, .int .i64 z5] 38 (0, 0)) := by rw [hwe, hp21]; exact heap_alloc_new wd _
                  have HY2 := Lib.hid hy; have RY2 := Lib.hid (hry.keep kwe); have GP2 := Lib.hid gp21; have HW2 := Lib.hid hwe; have HP2 := Lib.hid hp21
                  have KK2 := Lib.hid ((KK1.out.trans k (by simp)).trans kwe (by simp)); have ST2 := Lib.hid (k.trans kwe (by simp))
                  clear hy hry k gp21 hwe hp21 kwe
                  go_upto_region 44 with fail
                  rw [← HW2.out, ← HP2.out]
                  go_wp2_with fail
                  refine (HAf.out _ KK2.out).mono ?_
                  rintro e wf ⟨u, rfl, hy, hry, _, k⟩
                  obtain ⟨u0, u1, u2, u3, u4, u5⟩ := u
                  simp only [Tk.cs, Tk.op] at *
                  obtain ⟨wg, hwg⟩ : ∃ z, z = wf.alloc (.cells #[.int .i64 u0, .int .i64 u1, .slice u2 u4.length u3, .int .i64 u5] 38) := ⟨_, rfl⟩
                  obtain ⟨p23, hp23⟩ : ∃ z, z = wf.heap.size := ⟨_, rfl⟩
                  have kwg : Kept wf wg [] := by rw [hwg]; exact (Kept.refl wf []).alloc _
                  have gp23 : wg.heap[p23]? = some (.cells #[.int .i64 u0, .int .i64 u1, .slice u2 u4.length u3, .int .i64 u5] 38 (0, 0)) := by rw [hwg, hp23]; exact heap_alloc_new wf _
                  have HY3 := Lib.hid hy; have RY3 := Lib.hid (hry.keep kwg); have GP3 := Lib.hid gp23; have HW3 := Lib.hid hwg; have HP3 := Lib.hid hp23
                  have KK3 := Lib.hid ((KK2.out.trans k (by simp)).trans kwg (by simp)); have ST3 := Lib.hid (k.trans kwg (by simp))
                  clear hy hry k gp23 hwg hp23 kwg
                  go_upto_region 45 with fail
                  rw [← HW3.out, ← HP3.out]
                  go_wp2_with fail
                  refine (HRA.out _ KK3.out).mono ?_
                  rintro e wh ⟨v, rfl, hy, hry, k⟩
                  obtain ⟨v0, v1, v2, v3, v4, v5⟩ := v
                  simp only [Tk.cs, Tk.op] at *
                  obtain ⟨wi, hwi⟩ : ∃ z, z = wh.alloc (.cells #[.int .i64 v0, .int .i64 v1, .slice v2 v4.length v3, .int .i64 v5] 38) := ⟨_, rfl⟩
                  obtain ⟨p25, hp25⟩ : ∃ z, z = wh.heap.size := ⟨_, rfl⟩
                  have kwi : Kept wh wi [] := by rw [hwi]; exact (Kept.refl wh []).alloc _
                  have gp25 : wi.heap[p25]? = some (.cells #[.int .i64 v0, .int .i64 v1, .slice v2 v4.length v3, .int .i64 v5] 38 (0, 0)) := by rw [hwi, hp25]; exact heap_alloc_new wh _
                  have HY4 := Lib.hid hy; have RY4 := Lib.hid (hry.keep kwi); have GP4 := Lib.hid gp25; have HW4 := Lib.hid hwi; have HP4 := Lib.hid hp25
                  have KK4 := Lib.hid ((KK3.out.trans k (by simp)).trans kwi (by simp)); have ST4 := Lib.hid (k.trans kwi (by simp))
                  clear hy hry k gp25 hwi hp25 kwi
                  go_upto_region 46 with fail
                  rw [← HW4.out, ← HP4.out]
                  have G1 := Lib.hid (ST4.out.heap (by simp) (ST3.out.heap (by simp) (ST2.out.heap (by simp) GP1.out)))
                  have G2 := Lib.hid (ST4.out.heap (by simp) (ST3.out.heap (by simp) GP2.out))
                  have G3 := Lib.hid (ST4.out.heap (by simp) GP3.out)
                  have SM1 := Lib.hid (rsame_any ⟨y0, y1, y2, y3, y4, y5⟩ ⟨z0, z1, z2, z3, z4, z5⟩ wi (HY1.out.trans HY2.out.symm) (((RY1.out.keep ST2.out).keep ST3.out).keep ST4.out).1 ((RY2.out.keep ST3.out).keep ST4.out).1)
                  have SM2 := Lib.hid (fun U (hU : Kept wi U []) => rsame_any ⟨u0, u1, u2, u3, u4, u5⟩ ⟨v0, v1, v2, v3, v4, v5⟩ U (HY3.out.trans HY4.out.symm) ((RY3.out.keep ST4.out).keep hU).1 (RY4.out.keep hU).1)
                  simp only [Tk.cs] at SM1 SM2
                  have b1 : (o1.isSome != o1.isSome) = false := by simp
                  have b2 : (o2.isSome != o2.isSome) = false := by simp
                  clear d1
                  obtain ⟨e0, e1, e2, e3⟩ := tk_cells G1.out
                  obtain ⟨f0, f1, f2, f3⟩ := tk_cells G2.out
                  go_wp2_with fail
                  refine SM1.out.mono ?_
                  rintro e wj ⟨rfl, kj⟩
                  have KJ := Lib.hid kj
                  clear e0 e1 e2 e3 f0 f1 f2 f3 kj
                  obtain ⟨e0, e1, e2, e3⟩ := tk_cells (KJ.out.heap (by simp) G3.out)
                  obtain ⟨f0, f1, f2, f3⟩ := tk_cells (KJ.out.heap (by simp) GP4.out)
                  go_wp2_with fail
                  refine (SM2.out _ KJ.out).mono ?_
                  rintro e wl ⟨rfl, kl⟩
                  have KL := Lib.hid ((KK4.out.trans KJ.out (by simp)).trans kl (by simp))
                  clear e0 e1 e2 e3 f0 f1 f2 f3 kl b1 b2
                  go_wp2
                  go_roundg (6 - (j + 1))
                  case measure => omega
                  case rel => exact ⟨j + 1, by rw [HN.out]; simp only [Value.int.injEq, true_and, wrap64]; omega, by omega, by omega, KL⟩
                · have hnl : ¬ L - 4 + (j : Int) ≤ L + 1 := by omega
                  have TK := Lib.hid (T.out.keep HK.out)
                  go_wp2
                  go_roundg (len - (i + 1))
                  case measure => omega
                  case rel => exact ⟨i + 1, b2, qs, by go_num, by omega, by omega, TK.out, OKQ.out, by have := HLQ.out; omega⟩
      · have x1 : ¬ (i : Int) < (len : Int) := by omega
        go_wp2
        go_ret
        exact ⟨rfl, HS.out.1.kw.below (Nat.le_refl _) (by simp)⟩

set_option maxRecDepth 100000 in
theorem lifted (os : Os) (started : os.Started) (H : Type) (enc : TypeId × Value → H) :
    ReturnsInHanded {} Try.checked os 3 .any (Rows.tickPlaysSpec.pre6 enc Try.prog Try.f3 Rows.tickPlaysRow.domain false) (Rows.tickPlaysSpec.post enc Try.prog Try.f3 false true false false) := by
  refine returnsInHanded_of_change (C := Try.checked) own started (by kernel_rfl) Try.func3
    (ChangeSpec.witness6 (enc := enc) (C := Try.checked) false ⟨#[], #[.slice none 0 0], []⟩ 8 (by kernel_rfl) (by kernel_rfl) (by kernel_rfl) (by kernel_rfl)) ?_
  intro W base args ds gs before hval0 hW hcnd _
  have hval : ∀ (j : Nat) t v, Try.f3.params[j]? = some t → args[j]? = some v → Value.okWide Try.prog W .any base t v := hval0
  have hW' := hW
  obtain ⟨p, q, hA0, hV, rfl, hfz, hnd⟩ := hW
  have hA : DataW.TrodAll enc Try.prog W 0 (fun _ => true) true Try.f3.params.toList args.toList ds p := hA0
  rw [Try.params3] at hA hval
  obtain ⟨v0, vs0, d0, ds0, p0, q0, hargs, rfl, rfl, h0, r0⟩ := trodAll_cons hA
  obtain ⟨rfl, rfl, rfl⟩ := trodAll_nil r0
  obtain rfl : args = #[v0] := by cases args; simp_all
  obtain ⟨rfl, rfl⟩ := trodVars_none hV
  obtain ⟨a0, len0, cap0, rfl⟩ := okWide_slice Try.underlying22 (hval 0 22 v0 rfl rfl)
  have k0 := h0
  have lt0 : ∀ x ∈ p0, x.block < W.heap.size := by obtain ⟨m, hm⟩ := k0; exact DataW.trod_lt m _ _ _ hm
  obtain ⟨z0, w0⟩ : ∃ f, IsActs W W.heap.size a0 len0 f ∧ len0 ≤ maxLen := by
    obtain ⟨fuel, hf⟩ := h0
    exact acts_open (by simpa [Value.cells] using hf)
  clear hA0 hval0
  refine (walk a0 len0 cap0 z0 W w0).mono fun e W' ⟨he, bel⟩ => ?_
  subst he
  exact ⟨_, rfl, _, _, _, [], _, [], hW', trodAll_mk1 (shut_bool Try.underlying4 _), (trodAll_cons_mk (Below.trod laidOut (by kernel_rfl) (of_decide_eq_true (by kernel_rfl)) k0 bel lt0) trodAll_mk0), rfl, bel.frame _, fun h => by cases h⟩

theorem over : Rows.tickPlaysRow.holds Try.pinned (OpenSpec.ofChange Rows.tickPlaysSpec) :=
  OpenClaim.holds_of_wide 3 Try.f3 rfl rfl rfl rfl rfl rfl rfl ⟨rfl, rfl, rfl, rfl, rfl⟩ rfl rfl rfl rfl rfl (by kernel_rfl) Try.func3 (by kernel_rfl)
    (of_decide_eq_true (by kernel_rfl)) (by unfold Func.isWrapper; first | (rw [if_pos (by decide +kernel)]; kernel_rfl) | (rw [if_neg (by decide +kernel)]; exact ⟨rfl, rfl⟩))
    (fun os started H enc _ => lifted os started H enc)

theorem proved : Rows.TickPlaysSaid :=
  over
end Go.Proofs.Ytodfjpjjcgdmeaa.tickPlays

namespace Go.Proofs.Ytodfjpjjcgdmeaa
theorem tickPlays_holds : Rows.TickPlaysSaid := tickPlays.proved
#print axioms tickPlays_holds
end Go.Proofs.Ytodfjpjjcgdmeaa

