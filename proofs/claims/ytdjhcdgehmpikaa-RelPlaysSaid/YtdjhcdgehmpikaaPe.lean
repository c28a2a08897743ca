/-
  The document's heap: Insert.
-/
import Derived.Test.YtdjhcdgehmpikaaPd
namespace Go.Proofs.Ytdjhcdgehmpikaa
set_option linter.unusedVariables false
open Go.RowKit Go.Maps

variable {w w' : World} {B q h : Nat} {v lv : Value} {st : List Nat} {l : Fl}

set_option maxHeartbeats 4000000 in
set_option maxRecDepth 100000 in
theorem rins_any (m : Rm w B q v st) (a : Rhe w B q h lv l) (mx own : Int) (sl : Value) (opl : List Int) (hsl : RdI w sl opl) (key : Int) (txt : ByteArray) (hl : l.length < 1000000) :
    Calls Try.prog 44 #[.pointer (some ⟨h, 0, none⟩), .agg #[.int .i64 mx, sl, .int .i64 own], .agg #[.int .i64 key, .string txt]] w fun e w' => e = .returned (.int .i64 (flInsE st ⟨mx, opl, own⟩ key l)) ∧
      ∃ lv', Rhe w' B q h lv' (flPut (flInsE st ⟨mx, opl, own⟩ key l) key ⟨txt, own, 0⟩ l) ∧ Stp (rfoot h lv) (rfoot h lv') w w' := by
  obtain ⟨W1, hW1⟩ : ∃ W1, W1 = (w.alloc (.cells #[.int .i64 mx, sl, .int .i64 own] 50)).alloc (.cells #[.int .i64 key, .string txt] 55) := ⟨_, rfl⟩
  have k1 : Kept w W1 [] := by rw [hW1]; exact ((Kept.refl w []).alloc _).alloc _
  obtain ⟨z, hz⟩ : ∃ z, z = w.heap.size := ⟨_, rfl⟩
  have hy1 : (w.alloc (.cells #[.int .i64 mx, sl, .int .i64 own] 50)).heap.size = z + 1 := by rw [hz]; simp
  obtain ⟨y, hy⟩ : ∃ y, y = z + 1 := ⟨_, rfl⟩
  have g1 : Bw W1 z mx own sl := by
    have k9 : Kept (w.alloc (.cells #[.int .i64 mx, sl, .int .i64 own] 50)) W1 [] := by rw [hW1]; exact (Kept.refl _ []).alloc _
    exact k9.heap (by simp) (by rw [hz]; exact heap_alloc_new w _)
  have g2 : W1.heap[y]? = some (.cells #[.int .i64 key, .string txt] 55 (0, 0)) := by rw [hW1, hy, ← hy1]; exact heap_alloc_new _ _
  have G1 := Lib.hid g1; have G2 := Lib.hid g2; have K1 := Lib.hid k1
  have M := Lib.hid (m.keep k1); have A := Lib.hid (a.keep k1); have HS := Lib.hid (hsl.keep k1)
  obtain ⟨i0, hi0, hz0, hz1, hzb⟩ := info_parts Try.infoVrR
  have I := Lib.hid (And.intro hi0 (And.intro hz0 (And.intro hz1 hzb)))
  clear hi0 hz0 hz1 hzb hy1
  obtain ⟨s, hs⟩ : ∃ s, stAt st own = s := ⟨_, rfl⟩
  have CS : Hid (∀ k, Calls Try.prog 37 #[.pointer (some ⟨q, 0, none⟩), .int .i64 own] (W1.drewN k) fun e w' => e = .returned (.int .u8 s) ∧ w' = W1.drewN k) := Lib.hid (fun k => by
    rw [← hs]; exact (rstate_any (M.out.keep ((Kept.refl _ []).drewN k)) own).mono fun _ _ h => ⟨h.1, h.2.symm⟩)
  have CF : Hid (∀ V, Kept W1 V [] → Calls Try.prog 63 #[.pointer (some ⟨h, 0, none⟩), .agg #[.int .i64 mx, sl, .int .i64 own], .int .i64 key] V fun e w' => e = .returned (.int .i64 (fIdx (sees st ⟨mx, opl, own⟩) key l)) ∧ Kept W1 w' []) := Lib.hid (fun V hV =>
    (rfind_any (M.out.keep hV) (A.out.keep hV) mx own sl opl (HS.out.keep hV) key).mono (fun _ _ h => ⟨h.1, hV.trans h.2 (by simp)⟩))
  have CT : Hid (∀ V x, Kept W1 V [] → Calls Try.prog 64 #[.pointer (some ⟨h, 0, none⟩), .agg #[.int .i64 mx, sl, .int .i64 own], .int .i64 x] V fun e w' => e = .returned (.bool (binds st ⟨mx, opl, own⟩ x)) ∧ Kept W1 w' []) := Lib.hid (fun V x hV =>
    (rtaken_any (M.out.keep hV) (A.out.keep hV) mx own sl opl x).mono (fun _ _ h => ⟨h.1, hV.trans h.2 (by simp)⟩))
  obtain ⟨sa, sc, rfl, _⟩ := hsl
  obtain ⟨z0, z1, z2⟩ := g1.cells
  have c0 := A.out.cell.1
  have y0 : W1.cell? ⟨y, 0, none⟩ = some (.int .i64 key) := by rw [cell_of_row _ _ 0 _ _ _ g2]; rfl
  have still : ∀ V, Kept W1 V [] → ∀ E, E ≠ 0 → ∃ lv', Rhe V B q h lv' (flPut E key ⟨txt, own, 0⟩ l) ∧ Stp (rfoot h lv) (rfoot h lv') w V := fun V hV E hE => ⟨lv, by rw [flPut, if_neg hE]; exact A.out.keep hV, Fo.ofKept (K1.out.trans hV (by simp)) _, fun k hk => .inl hk⟩
  have STILL := Lib.hid still
  clear m a k1 g1 g2 still
  by_cases h1 : s = 1
  · have ho : stAt st (⟨mx, opl, own⟩ : Vw).own = 1 := by rw [← h1]; exact hs
    subst h1
    rcases find_eq (P := sees st ⟨mx, opl, own⟩) (k := key) (l := l) with ⟨f1, f2⟩ | ⟨i, ⟨k, r⟩, f1, f2, f3, f4, f5⟩
    · have E0 : Hid (flFind (wayR st ⟨mx, opl, own⟩) key l = none → flInsE st ⟨mx, opl, own⟩ key l = 0) := Lib.hid (fun e => by rw [flInsE, if_pos ho, f1, e]; rfl)
      have E6 : Hid (∀ j, flFind (wayR st ⟨mx, opl, own⟩) key l = some j → flInsE st ⟨mx, opl, own⟩ key l = 6) := Lib.hid (fun j e => by rw [flInsE, if_pos ho, f1, e]; rfl)
      rw [f2] at CF
      obtain ⟨u, c, hlv, hlen, hsh⟩ := A.out.shape
      obtain ⟨n, hn⟩ : ∃ n, l.length = n := ⟨_, rfl⟩
      have HN := Lib.hid hn; have HSH := Lib.hid hsh; have LV := Lib.hid hlv
      rw [hn] at hl hlen LV
      clear ho hs f1 f2 hsh hlv
      go_enter Try.func44, Try.ntmps44
      go_wp2_with fail
      rw [← hW1, ← hz, ← hy]
      clear hW1 hz hy
      go_quiet ((go_at_call 37; exact Calls.quiet_of_same (CS.out _)))
      go_wp2_with fail
      refine (CF.out _ ((Kept.refl W1 []).drewN _)).mono ?_
      rintro e w2 ⟨rfl, k2⟩
      have K2 := Lib.hid k2
      clear k2 z0 z1 z2 c0 y0 hn
      go_wp2_with fail
      go_loopw [7, 8, 9] (fun t _ _ wr => ∃ j : Nat, t = .int .i64 j ∧ j ≤ n ∧ (∀ i x, i < j → l[i]? = some x → (x.1 == key && wayR st ⟨mx, opl, own⟩ x.2) = false) ∧ Kept W1 wr []) (fun t _ _ _ => n - (intOf t).toNat)
      case atStart => exact ⟨0, rfl, Nat.zero_le _, fun i x h => by omega, K2.out⟩
      case round =>
        obtain ⟨j, rfl, hj, hb, hkw⟩ := hrel
        have HB := Lib.hid hb; have K := Lib.hid hkw
        have c1 := (A.out.keep hkw).cell.2
        rw [LV.out] at c1
        clear hb hkw K2
        by_cases hlt : j < n
        · obtain ⟨⟨k, r⟩, hr⟩ : ∃ x, l[j]? = some x := ⟨_, List.getElem?_eq_getElem (by have := HN.out; omega)⟩
          obtain ⟨g, rfl, hnc, _, hcell⟩ := HSH.out (by have := HN.out; omega)
          obtain ⟨d0, d1, d2, d3⟩ := hcell j k r hr
          replace d0 := K.out.cell (p := ⟨g, j * 4, none⟩) (by simp) d0
          replace d1 := K.out.cell (p := ⟨g, j * 4 + 1, none⟩) (by simp) d1
          replace d2 := K.out.cell (p := ⟨g, j * 4 + 2, none⟩) (by simp) d2
          replace d3 := K.out.cell (p := ⟨g, j * 4 + 3, none⟩) (by simp) d3
          have HR := Lib.hid hr
          have x1 : (j : Int) < (n : Int) := by omega
          obtain ⟨rt, rb, rd⟩ := r
          simp only at d1 d2 d3
          obtain ⟨wA, hwA⟩ : ∃ wA, wA = wr.alloc (.cells #[.int .i64 k, .string rt, .int .i64 rb, .int .i64 rd] 130) := ⟨_, rfl⟩
          obtain ⟨xb, hxb⟩ : ∃ xb, xb = wr.heap.size := ⟨_, rfl⟩
          have kA : Kept wr wA [] := by rw [hwA]; exact (Kept.refl wr []).alloc _
          have gx : wA.heap[xb]? = some (.cells #[.int .i64 k, .string rt, .int .i64 rb, .int .i64 rd] 130 (0, 0)) := by rw [hwA, hxb]; exact heap_alloc_new wr _
          have KA := Lib.hid (K.out.trans kA (by simp)); have GX := Lib.hid gx
          obtain ⟨sd, hsd⟩ : ∃ sd, stAt st rd = sd := ⟨_, rfl⟩
          obtain ⟨bb, hbb⟩ : ∃ bb, binds st ⟨mx, opl, own⟩ rb = bb := ⟨_, rfl⟩
          have CSD : Hid (∀ k, Calls Try.prog 37 #[.pointer (some ⟨q, 0, none⟩), .int .i64 rd] (wA.drewN k) fun e w' => e = .returned (.int .u8 sd) ∧ w' = wA.drewN k) := Lib.hid (fun k => by
            rw [← hsd]; exact (rstate_any (M.out.keep (KA.out.drewN k)) rd).mono fun _ _ h => ⟨h.1, h.2.symm⟩)
          have CTB : Hid (∀ V, Kept W1 V [] → Calls Try.prog 64 #[.pointer (some ⟨h, 0, none⟩), .agg #[.int .i64 mx, .slice sa opl.length sc, .int .i64 own], .int .i64 rb] V fun e w' => e = .returned (.bool bb) ∧ Kept W1 w' []) := Lib.hid (fun V hV => by rw [← hbb]; exact CT.out V rb hV)
          have WR : Hid (∀ dd, (decide (0 < rd) && (decide (rd = own) || sd == 2)) = dd → wayR st ⟨mx, opl, own⟩ ⟨rt, rb, rd⟩ = (bb && !dd)) := Lib.hid (fun dd e => by rw [wayR_def]; simp only; rw [hbb, hsd, e])
          have x0 : wA.cell? ⟨xb, 0, none⟩ = some (.int .i64 k) := by rw [cell_of_row _ _ 0 _ _ _ gx]; rfl
          have x2 : wA.cell? ⟨xb, 2, none⟩ = some (.int .i64 rb) := by rw [cell_of_row _ _ 2 _ _ _ gx]; rfl
          have x3 : wA.cell? ⟨xb, 3, none⟩ = some (.int .i64 rd) := by rw [cell_of_row _ _ 3 _ _ _ gx]; rfl
          obtain ⟨z0, z1, z2⟩ := (G1.out.keep KA.out).cells
          have c0 := (A.out.keep KA.out).cell.1
          have y0 : wA.cell? ⟨y, 0, none⟩ = some (.int .i64 key) := by rw [cell_of_row _ _ 0 _ _ _ (KA.out.heap (by simp) G2.out)]; rfl
          have step : (k == key && wayR st ⟨mx, opl, own⟩ ⟨rt, rb, rd⟩) = false → ∀ i x, i < j + 1 → l[i]? = some x → (x.1 == key && wayR st ⟨mx, opl, own⟩ x.2) = false := fun hf i x hi hx => by
            by_cases e : i = j
            · subst e
              have h9 := HR.out
              rw [hx] at h9
              cases h9
              exact hf
            · exact HB.out i x (by omega) hx
          have STEP := Lib.hid step
          clear hnc hcell hr kA gx hsd hbb step
          have way : ¬ 0 < rd ∨ (0 < rd ∧ rd = own) ∨ (0 < rd ∧ ¬ rd = own ∧ sd = 2) ∨ (0 < rd ∧ ¬ rd = own ∧ ¬ sd = 2) := by omega
          rcases way with h | ⟨h, h2⟩ | ⟨h, h2, h3⟩ | ⟨h, h2, h3⟩
          · have x4 : decide (0 < rd) = false := by simpa using h
            have WD := Lib.hid (WR.out false (by simp [h]))
            clear h WR
            by_cases hk : k = key
            · have x7 : (k == key) = true := by simpa using hk
              have HK := Lib.hid hk
              clear hk
              cases bb
              · go_wp2_with fail
                rw [← hwA, ← hxb]
                clear hwA hxb
                go_quiet ((go_at_call 37; exact Calls.quiet_of_same (CSD.out _)))
                go_wp2_with fail
                refine (CTB.out _ (KA.out.drewN _)).mono ?_
                rintro e w5 ⟨rfl, k5⟩
                have K5 := Lib.hid k5
                clear k5 c1 d0 d1 d2 d3 x0 x2 x3 z0 z1 z2 c0 y0
                go_wp2
                go_roundw
                case rel => exact ⟨j + 1, by go_num, by omega, STEP.out (by rw [WD.out]; simp), K5.out⟩
                case measure => simp [intOf]; omega
              · go_wp2_with fail
                rw [← hwA, ← hxb]
                clear hwA hxb
                go_quiet ((go_at_call 37; exact Calls.quiet_of_same (CSD.out _)))
                go_wp2_with fail
                refine (CTB.out _ (KA.out.drewN _)).mono ?_
                rintro e w5 ⟨rfl, k5⟩
                have K5 := Lib.hid k5
                clear k5 c1 d0 d1 d2 d3 x0 x2 x3 z0 z1 z2 c0 y0
                have EE : Hid (flInsE st ⟨mx, opl, own⟩ key l = 6) := Lib.hid (E6.out j (fl_hit HR.out HK.out (by show wayR st ⟨mx, opl, own⟩ ⟨rt, rb, rd⟩ = true; rw [WD.out]; rfl) HB.out))
                go_wp2
                go_ret
                rw [EE.out]
                exact ⟨rfl, STILL.out _ K5.out 6 (by decide)⟩
            · have x7 : (k == key) = false := by simpa using hk
              go_wp2_with fail
              rw [← hwA, ← hxb]
              clear hwA hxb
              go_quiet ((go_at_call 37; exact Calls.quiet_of_same (CSD.out _)))
              clear c1 d0 d1 d2 d3
              go_wp2
              go_roundw
              case rel => exact ⟨j + 1, by go_num, by omega, STEP.out (by rw [x7]; rfl), KA.out.drewN _⟩
              case measure => simp [intOf]; omega
          · have x4 : decide (0 < rd) = true := by simpa using h
            have x5 : (rd == own) = true := by simpa using h2
            have WD := Lib.hid (WR.out true (by rw [decide_eq_true h, decide_eq_true h2]; rfl))
            clear h h2 WR
            by_cases hk : k = key
            · have x7 : (k == key) = true := by simpa using hk
              have HK := Lib.hid hk
              clear hk
              cases bb
              · go_wp2_with fail
                rw [← hwA, ← hxb]
                clear hwA hxb
                go_quiet ((go_at_call 37; exact Calls.quiet_of_same (CSD.out _)))
                go_wp2_with fail
                refine (CTB.out _ (KA.out.drewN _)).mono ?_
                rintro e w5 ⟨rfl, k5⟩
                have K5 := Lib.hid k5
                clear k5 c1 d0 d1 d2 d3 x0 x2 x3 z0 z1 z2 c0 y0
                go_wp2
                go_roundw
                case rel => exact ⟨j + 1, by go_num, by omega, STEP.out (by rw [WD.out]; simp), K5.out⟩
                case measure => simp [intOf]; omega
              · go_wp2_with fail
                rw [← hwA, ← hxb]
                clear hwA hxb
                go_quiet ((go_at_call 37; exact Calls.quiet_of_same (CSD.out _)))
                go_wp2_with fail
                refine (CTB.out _ (KA.out.drewN _)).mono ?_
                rintro e w5 ⟨rfl, k5⟩
                have K5 := Lib.hid k5
                clear k5 c1 d0 d1 d2 d3 x0 x2 x3 z0 z1 z2 c0 y0
                go_wp2
                go_roundw
                case rel => exact ⟨j + 1, by go_num, by omega, STEP.out (by rw [WD.out]; simp), K5.out⟩
                case measure => simp [intOf]; omega
            · have x7 : (k == key) = false := by simpa using hk
              go_wp2_with fail
              rw [← hwA, ← hxb]
              clear hwA hxb
              go_quiet ((go_at_call 37; exact Calls.quiet_of_same (CSD.out _)))
              clear c1 d0 d1 d2 d3
              go_wp2
              go_roundw
              case rel => exact ⟨j + 1, by go_num, by omega, STEP.out (by rw [x7]; rfl), KA.out.drewN _⟩
              case measure => simp [intOf]; omega
          · have x4 : decide (0 < rd) = true := by simpa using h
            have x5 : (rd == own) = false := by simpa using h2
            have WD := Lib.hid (WR.out true (by simp [h, h2, h3]))
            subst h3
            clear h h2 WR
            by_cases hk : k = key
            · have x7 : (k == key) = true := by simpa using hk
              have HK := Lib.hid hk
              clear hk
              cases bb
              · go_wp2_with fail
                rw [← hwA, ← hxb]
                clear hwA hxb
                go_quiet ((go_at_call 37; exact Calls.quiet_of_same (CSD.out _)))
                go_wp2_with fail
                refine (CTB.out _ (KA.out.drewN _)).mono ?_
                rintro e w5 ⟨rfl, k5⟩
                have K5 := Lib.hid k5
                clear k5 c1 d0 d1 d2 d3 x0 x2 x3 z0 z1 z2 c0 y0
                go_wp2
                go_roundw
                case rel => exact ⟨j + 1, by go_num, by omega, STEP.out (by rw [WD.out]; simp), K5.out⟩
                case measure => simp [intOf]; omega
              · go_wp2_with fail
                rw [← hwA, ← hxb]
                clear hwA hxb
                go_quiet ((go_at_call 37; exact Calls.quiet_of_same (CSD.out _)))
                go_wp2_with fail
                refine (CTB.out _ (KA.out.drewN _)).mono ?_
                rintro e w5 ⟨rfl, k5⟩
                have K5 := Lib.hid k5
                clear k5 c1 d0 d1 d2 d3 x0 x2 x3 z0 z1 z2 c0 y0
                go_wp2
                go_roundw
                case rel => exact ⟨j + 1, by go_num, by omega, STEP.out (by rw [WD.out]; simp), K5.out⟩
                case measure => simp [intOf]; omega
            · have x7 : (k == key) = false := by simpa using hk
              go_wp2_with fail
              rw [← hwA, ← hxb]
              clear hwA hxb
              go_quiet ((go_at_call 37; exact Calls.quiet_of_same (CSD.out _)))
              clear c1 d0 d1 d2 d3
              go_wp2
              go_roundw
              case rel => exact ⟨j + 1, by go_num, by omega, STEP.out (by rw [x7]; rfl), KA.out.drewN _⟩
              case measure => simp [intOf]; omega
          · have x4 : decide (0 < rd) = true := by simpa using h
            have x5 : (rd == own) = false := by simpa using h2
            have x6 : ((sd : Int) == 2) = false := by rw [beq_eq_false_iff_ne]; omega
            have WD := Lib.hid (WR.out false (by simp [h, h2, h3]))
            clear h h2 h3 WR
            by_cases hk : k = key
            · have x7 : (k == key) = true := by simpa using hk
              have HK := Lib.hid hk
              clear hk
              cases bb
              · go_wp2_with fail
                rw [← hwA, ← hxb]
                clear hwA hxb
                go_quiet ((go_at_call 37; exact Calls.quiet_of_same (CSD.out _)))
                go_wp2_with fail
                refine (CTB.out _ (KA.out.drewN _)).mono ?_
                rintro e w5 ⟨rfl, k5⟩
                have K5 := Lib.hid k5
                clear k5 c1 d0 d1 d2 d3 x0 x2 x3 z0 z1 z2 c0 y0
                go_wp2
                go_roundw
                case rel => exact ⟨j + 1, by go_num, by omega, STEP.out (by rw [WD.out]; simp), K5.out⟩
                case measure => simp [intOf]; omega
              · go_wp2_with fail
                rw [← hwA, ← hxb]
                clear hwA hxb
                go_quiet ((go_at_call 37; exact Calls.quiet_of_same (CSD.out _)))
                go_wp2_with fail
                refine (CTB.out _ (KA.out.drewN _)).mono ?_
                rintro e w5 ⟨rfl, k5⟩
                have K5 := Lib.hid k5
                clear k5 c1 d0 d1 d2 d3 x0 x2 x3 z0 z1 z2 c0 y0
                have EE : Hid (flInsE st ⟨mx, opl, own⟩ key l = 6) := Lib.hid (E6.out j (fl_hit HR.out HK.out (by show wayR st ⟨mx, opl, own⟩ ⟨rt, rb, rd⟩ = true; rw [WD.out]; rfl) HB.out))
                go_wp2
                go_ret
                rw [EE.out]
                exact ⟨rfl, STILL.out _ K5.out 6 (by decide)⟩
            · have x7 : (k == key) = false := by simpa using hk
              go_wp2_with fail
              rw [← hwA, ← hxb]
              clear hwA hxb
              go_quiet ((go_at_call 37; exact Calls.quiet_of_same (CSD.out _)))
              clear c1 d0 d1 d2 d3
              go_wp2
              go_roundw
              case rel => exact ⟨j + 1, by go_num, by omega, STEP.out (by rw [x7]; rfl), KA.out.drewN _⟩
              case measure => simp [intOf]; omega
        · have x1 : ¬ (j : Int) < (n : Int) := by omega
          have EE : Hid (flInsE st ⟨mx, opl, own⟩ key l = 0) := Lib.hid (E0.out (fl_miss (fun i x hi hx => HB.out i x (by have := HN.out; omega) hx)))
          have GZ := Lib.hid (G1.out.keep K.out); have GY := Lib.hid (K.out.heap (by simp) G2.out)
          have AW := Lib.hid (by have := A.out.keep K.out; rw [LV.out] at this; exact this)
          have HNL := HN
          obtain ⟨wB, hwB⟩ : ∃ wB, wB = wr.drew.alloc (.cells (vcs key ⟨txt, own, 0⟩).toArray 130) := ⟨_, rfl⟩
          have AI := appIn AW.out HNL.out GZ.out GY.out hwB
          have S1 := Lib.hid AI.s1; have S2 := Lib.hid AI.s2; have CL := Lib.hid AI.cl; have CB := Lib.hid AI.cb; have XB := Lib.hid AI.xb; have SB := Lib.hid AI.sb; have BB := Lib.hid AI.bb; have ST := Lib.hid AI.st; have AR := Lib.hid AI.ar; have HwB := Lib.hid hwB
          clear AI hwB
          go_wp2_with fail
          clear c1
          refine wp_region_held_drew (S := fun V => BoxS V y z key own txt) (by kernel_rfl) S1.out (fun hHeld => ?_)
          refine wpAnyH_take (i := 0) (oi := _) (v := .pointer (some ⟨h, 0, none⟩)) rfl (by kernel_rfl) (by kernel_rfl) (by kernel_rfl) (fun _ _ _ h => h) (Or.inl ⟨by rfl, fun V hV => by go_simp⟩) hHeld ?_
          change wpAnyH _ _ _ _ _ _ _ (Act.put _ (some 77) _) _
          simp only [Act.put, List.setIfInBounds_toArray, List.set_cons_zero, List.set_cons_succ]
          refine wpAnyH_take (i := 1) (oi := _) (v := .pointer (some ⟨h, 0, none⟩)) rfl (by kernel_rfl) (by kernel_rfl) (by kernel_rfl) (fun _ _ _ h => h) (Or.inl ⟨by rfl, fun V hV => by go_simp⟩) hHeld ?_
          change wpAnyH _ _ _ _ _ _ _ (Act.put _ (some 78) _) _
          simp only [Act.put, List.setIfInBounds_toArray, List.set_cons_zero, List.set_cons_succ]
          refine wpAnyH_take (i := 2) (oi := _) (v := .pointer (some ⟨h, 0, none⟩)) rfl (by kernel_rfl) (by kernel_rfl) (by kernel_rfl) (fun _ _ _ h => h) (Or.inl ⟨by rfl, fun V hV => by go_simp⟩) hHeld ?_
          change wpAnyH _ _ _ _ _ _ _ (Act.put _ (some 79) _) _
          simp only [Act.put, List.setIfInBounds_toArray, List.set_cons_zero, List.set_cons_succ]
          refine wpAnyH_take (i := 3) (oi := _) (v := .pointer (some ⟨h, 1, none⟩)) rfl (by kernel_rfl) (by kernel_rfl) (by kernel_rfl) (fun _ _ _ h => h) (Or.inl ⟨by rfl, fun V hV => by go_simp⟩) hHeld ?_
          change wpAnyH _ _ _ _ _ _ _ (Act.put _ (some 80) _) _
          simp only [Act.put, List.setIfInBounds_toArray, List.set_cons_zero, List.set_cons_succ]
          refine wpAnyH_take (i := 5) (oi := _) (v := .agg #[.int .i64 key, .string txt]) rfl (by kernel_rfl) (by kernel_rfl) (by kernel_rfl) (fun _ _ _ h => h) (Or.inl ⟨by rfl, fun V hV => by (obtain ⟨⟨e0, e1⟩, e2⟩ := hV; go_simp)⟩) hHeld ?_
          change wpAnyH _ _ _ _ _ _ _ (Act.put _ (some 82) _) _
          simp only [Act.put, List.setIfInBounds_toArray, List.set_cons_zero, List.set_cons_succ]
          refine wpAnyH_take (i := 6) (oi := _) (v := .pointer (some ⟨z, 2, none⟩)) rfl (by kernel_rfl) (by kernel_rfl) (by kernel_rfl) (fun _ _ _ h => h) (Or.inl ⟨by rfl, fun V hV => by go_simp⟩) hHeld ?_
          change wpAnyH _ _ _ _ _ _ _ (Act.put _ (some 83) _) _
          simp only [Act.put, List.setIfInBounds_toArray, List.set_cons_zero, List.set_cons_succ]
          refine wpAnyH_take (i := 7) (oi := _) (v := .int .i64 own) rfl (by kernel_rfl) (by kernel_rfl) (by kernel_rfl) (fun _ _ _ h => h) (Or.inl ⟨by rfl, fun V hV => by (obtain ⟨⟨e0, e1⟩, e2⟩ := hV; go_simp)⟩) hHeld ?_
          change wpAnyH _ _ _ _ _ _ _ (Act.put _ (some 84) _) _
          simp only [Act.put, List.setIfInBounds_toArray, List.set_cons_zero, List.set_cons_succ]
          refine wpAnyH_take (i := 8) (oi := _) (v := .agg #[.int .i64 key, .string txt, .int .i64 own, .int .i64 0]) rfl (by kernel_rfl) (by kernel_rfl) (by kernel_rfl) (fun _ _ _ h => h) (Or.inl ⟨by rfl, fun V hV => by go_simp⟩) hHeld ?_
          change wpAnyH _ _ _ _ _ _ _ (Act.put _ (some 85) _) _
          simp only [Act.put, List.setIfInBounds_toArray, List.set_cons_zero, List.set_cons_succ]
          refine wpAnyH_ready (rs := [4, 9]) (by kernel_rfl) (by simp) ?_
          refine AllReadyH.cons (o := _) rfl (fun K hK => ?wayA77) (AllReadyH.cons (o := _) rfl (fun K hK => ?wayB77) AllReadyH.nil)
          case wayA77 =>
            have l1 : wr.drew.cell? ⟨h, 1, none⟩ = some (.slice u n c) := CL.out
            go_simp
            clear l1
            refine hK.out _ _ S1.out (fun hHeld => ?_)
            clear hK K
            refine wpAnyH_ready (rs := [9]) (by kernel_rfl) (by simp) ?_
            refine AllReadyH.cons (o := _) rfl (fun K hK => ?_) AllReadyH.nil
            refine step_buildSlice_one _ rfl 90 (.tmp 85) rfl 130 i0 _ 4 Try.underlying90 I.out.1 I.out.2.1 I.out.2.2.1 (by decide) (by decide) (vcs key ⟨txt, own, 0⟩) rfl rfl ?_
            rw [← HwB.out]
            refine hK.out _ _ S2.out (fun hHeld => ?_)
            clear hK K
            refine wpAnyH_ready (rs := [10]) (by kernel_rfl) (by simp) ?_
            refine AllReadyH.cons (o := _) rfl (fun K hK => ?_) AllReadyH.nil
            refine step_append_all _ rfl (.tmp 81) (.tmp 86) 90 90 rfl B 130 i0 _ 4 40 Try.underlying90 I.out.1 I.out.2.1 I.out.2.2.1 I.out.2.2.2 rfl (.slice u n c) n (fcl l) rfl XB.out _ 1 (vcs key ⟨txt, own, 0⟩) rfl SB.out (by unfold maxLen; omega) (by omega) BB.out ?_
            intro v9 w9 ho9 hf9 hg9 hl9
            obtain ⟨c9, f9, r9, p9, q9⟩ := AR.out v9 w9 ho9 hg9 hl9
            have R9 := Lib.hid r9; have P9 := Lib.hid p9
            have S3 := Lib.hid (ST.out w9 q9); have S4 := Lib.hid (ST.out _ p9.1)
            obtain ⟨a9, d9, hs9⟩ := ownsRow_shape ho9
            clear r9 p9 q9 ho9 hf9 hg9 hl9
            subst hs9
            refine hK.out _ _ S3.out (fun hHeld => ?_)
            clear hK K
            refine wpAnyH_take (i := 11) (oi := _) (v := .pointer (some ⟨h, 0, none⟩)) rfl (by kernel_rfl) (by kernel_rfl) (by kernel_rfl) (fun _ _ _ h => h) (Or.inl ⟨by rfl, fun V hV => by go_simp⟩) hHeld ?_
            refine wpAnyH_take (i := 12) (oi := _) (v := .pointer (some ⟨h, 1, none⟩)) rfl (by kernel_rfl) (by kernel_rfl) (by kernel_rfl) (fun _ _ _ h => h) (Or.inl ⟨by rfl, fun V hV => by go_simp⟩) hHeld ?_
            refine wpAnyH_ready (rs := [13]) (by kernel_rfl) (by simp) ?_
            refine AllReadyH.cons (o := _) rfl (fun K hK => ?_) AllReadyH.nil
            go_simp
            refine hK.out _ _ S4.out (fun hHeld => ?_)
            clear hK K
            refine wpAnyH_done (by kernel_rfl) ?_ _
            clear c9 f9
            go_wp2
            go_ret
            rw [EE.out, flPut, if_pos rfl, LV.out]
            exact ⟨rfl, _, R9.out, (Fo.ofKept (K1.out.trans K.out (by simp)) _).trans P9.out.1, fun k hk => (P9.out.2 k hk).imp id (fun h => Nat.le_trans (Nat.le_trans K1.out.size K.out.size) h)⟩
          case wayB77 =>
            refine step_buildSlice_one _ rfl 90 (.tmp 85) rfl 130 i0 _ 4 Try.underlying90 I.out.1 I.out.2.1 I.out.2.2.1 (by decide) (by decide) (vcs key ⟨txt, own, 0⟩) rfl rfl ?_
            rw [← HwB.out]
            refine hK.out _ _ S2.out (fun hHeld => ?_)
            clear hK K
            refine wpAnyH_ready (rs := [4]) (by kernel_rfl) (by simp) ?_
            refine AllReadyH.cons (o := _) rfl (fun K hK => ?_) AllReadyH.nil
            have l1 : wB.cell? ⟨h, 1, none⟩ = some (.slice u n c) := CB.out
            go_simp
            clear l1
            refine hK.out _ _ S2.out (fun hHeld => ?_)
            clear hK K
            refine wpAnyH_ready (rs := [10]) (by kernel_rfl) (by simp) ?_
            refine AllReadyH.cons (o := _) rfl (fun K hK => ?_) AllReadyH.nil
            refine step_append_all _ rfl (.tmp 81) (.tmp 86) 90 90 rfl B 130 i0 _ 4 40 Try.underlying90 I.out.1 I.out.2.1 I.out.2.2.1 I.out.2.2.2 rfl (.slice u n c) n (fcl l) rfl XB.out _ 1 (vcs key ⟨txt, own, 0⟩) rfl SB.out (by unfold maxLen; omega) (by omega) BB.out ?_
            intro v9 w9 ho9 hf9 hg9 hl9
            obtain ⟨c9, f9, r9, p9, q9⟩ := AR.out v9 w9 ho9 hg9 hl9
            have R9 := Lib.hid r9; have P9 := Lib.hid p9
            have S3 := Lib.hid (ST.out w9 q9); have S4 := Lib.hid (ST.out _ p9.1)
            obtain ⟨a9, d9, hs9⟩ := ownsRow_shape ho9
            clear r9 p9 q9 ho9 hf9 hg9 hl9
            subst hs9
            refine hK.out _ _ S3.out (fun hHeld => ?_)
            clear hK K
            refine wpAnyH_take (i := 11) (oi := _) (v := .pointer (some ⟨h, 0, none⟩)) rfl (by kernel_rfl) (by kernel_rfl) (by kernel_rfl) (fun _ _ _ h => h) (Or.inl ⟨by rfl, fun V hV => by go_simp⟩) hHeld ?_
            refine wpAnyH_take (i := 12) (oi := _) (v := .pointer (some ⟨h, 1, none⟩)) rfl (by kernel_rfl) (by kernel_rfl) (by kernel_rfl) (fun _ _ _ h => h) (Or.inl ⟨by rfl, fun V hV => by go_simp⟩) hHeld ?_
            refine wpAnyH_ready (rs := [13]) (by kernel_rfl) (by simp) ?_
            refine AllReadyH.cons (o := _) rfl (fun K hK => ?_) AllReadyH.nil
            go_simp
            refine hK.out _ _ S4.out (fun hHeld => ?_)
            clear hK K
            refine wpAnyH_done (by kernel_rfl) ?_ _
            clear c9 f9
            go_wp2
            go_ret
            rw [EE.out, flPut, if_pos rfl, LV.out]
            exact ⟨rfl, _, R9.out, (Fo.ofKept (K1.out.trans K.out (by simp)) _).trans P9.out.1, fun k hk => (P9.out.2 k hk).imp id (fun h => Nat.le_trans (Nat.le_trans K1.out.size K.out.size) h)⟩
    · simp only at f4 f5
      have E : Hid (flInsE st ⟨mx, opl, own⟩ key l = 5) := Lib.hid (by rw [flInsE, if_pos ho, f1]; rfl)
      rw [f2] at CF
      have x1 : (0 : Int) ≤ (i : Int) := by omega
      clear ho hs f1 f2 f3 f4 f5
      go_enter Try.func44, Try.ntmps44
      go_wp2_with fail
      rw [← hW1, ← hz, ← hy]
      clear hW1 hz hy
      go_quiet ((go_at_call 37; exact Calls.quiet_of_same (CS.out _)))
      go_wp2_with fail
      refine (CF.out _ ((Kept.refl W1 []).drewN _)).mono ?_
      rintro e w2 ⟨rfl, k2⟩
      have K2 := Lib.hid k2
      clear k2 z0 z1 z2 c0 y0
      go_wp2
      go_ret
      rw [E.out]
      exact ⟨rfl, STILL.out _ K2.out 5 (by decide)⟩
  · have ho : ¬ stAt st (⟨mx, opl, own⟩ : Vw).own = 1 := fun e => h1 (by rw [← hs]; exact e)
    have E : Hid (flInsE st ⟨mx, opl, own⟩ key l = 7) := Lib.hid (by rw [flInsE, if_neg ho])
    have x1 : ((s : Int) != 1) = true := by simp; omega
    clear ho hs h1
    go_enter Try.func44, Try.ntmps44
    go_wp2_with fail
    rw [← hW1, ← hz, ← hy]
    clear hW1 hz hy
    go_quiet ((go_at_call 37; exact Calls.quiet_of_same (CS.out _)))
    go_wp2
    go_ret
    rw [E.out]
    exact ⟨rfl, STILL.out _ ((Kept.refl W1 []).drewN _) 7 (by decide)⟩
end Go.Proofs.Ytdjhcdgehmpikaa
