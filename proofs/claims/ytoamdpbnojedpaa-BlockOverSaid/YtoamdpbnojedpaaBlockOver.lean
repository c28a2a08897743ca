/-
  Proved: whatever the arguments are, carrierlaw03.BlockOver answers true and leaves its arguments as they were. No condition.
-/
import Derived.Test.YtoamdpbnojedpaaSteps
import Derived.Test.YtoamdpbnojedpaaRefCrash
namespace Go.Proofs.Ytoamdpbnojedpaa.blockOver
open Go.ChangeShapes Go.WideShapes Go.ChangeAt Go.RowKit
set_option linter.unusedVariables false

theorem own : ownKnob Try.prog.godebug = none := by kernel_rfl
theorem laidOut : laidOutB Try.prog = true := by kernel_rfl

set_option maxHeartbeats 4000000 in
set_option maxRecDepth 100000 in
theorem walk (a0 : Option Addr) (len0 cap0 : Nat) (z0 : List Int) (a1 : Option Addr) (len1 cap1 : Nat) (lost : List Bool) (W : World) (w0 : IsRow .u8 W a0 len0 cap0 z0) (w1 : RbB W W.heap.size 4 (.slice a1 len1 cap1) lost) :
    Calls Try.prog 9 #[.slice a0 len0 cap0, .slice a1 len1 cap1] W fun e w' => e = .returned (.bool true) ∧ Below W.heap.size W w' := by
  obtain ⟨l, rfl, hrd⟩ := isRow_rd w0
  have Hl := Lib.hid hrd; have Hlo := Lib.hid w1
  have hll : len1 = lost.length := by
    obtain ⟨_, _, e, _⟩ := w1
    simp only [Value.slice.injEq] at e
    exact e.2.1
  subst hll
  clear w0 w1 hrd
  go_enter Try.func9, Try.ntmps9
  go_wp2_with fail
  refine (kept_any W).mono ?_
  rintro e w1 ⟨rfl, hk⟩
  have K1 := Lib.hid hk; have hz1 := hk.size; clear hk
  by_cases h30 : (30 : Int) < (l.length : Int)
  · skip
    go_wp2_with fail
    refine (kept_any w1).mono ?_
    rintro e w2 ⟨rfl, hk⟩
    have K2 := Lib.hid (K1.out.trans hk (by simp)); clear hk
    go_wp2
    go_ret
    exact ⟨rfl, K2.out.below (Nat.le_refl _) (by simp)⟩
  by_cases h40 : (40 : Int) < (lost.length : Int)
  · skip
    go_wp2_with fail
    refine (kept_any w1).mono ?_
    rintro e w2 ⟨rfl, hk⟩
    have K2 := Lib.hid (K1.out.trans hk (by simp)); clear hk
    go_wp2
    go_ret
    exact ⟨rfl, K2.out.below (Nat.le_refl _) (by simp)⟩
  go_wp2_with fail
  refine (new_any 1 w1).mono ?_
  rintro e w2 ⟨p, gn, gs, rfl, hd, hk⟩
  have D2 := Lib.hid (show Dv w2 w1.heap.size p gn gs (.slice none 0 0) 1 (noughts 1) (noughts 1) [] from hd); have K2 := Lib.hid (K1.out.trans hk (by simp)); have hz2 := hk.size
  clear hd hk
  go_wp2_with fail
  refine (rnew_any 1 w2).mono ?_
  rintro e w3 ⟨q, vs, rfl, hr, hk⟩
  have R3 := Lib.hid (Rf.lower (show Rf w3 w2.heap.size q vs (.slice none 0 0) 1 (noughts 1) [] from hr) hz2); have K3 := Lib.hid (K2.out.trans hk (by simp)); have hz3 := hk.size
  have D3 := Lib.hid (D2.out.frame (Fr.ofKept hk 0 []) (by simp) (by simp) (by simp))
  clear hr hk
  go_wp2
  go_loopw [7] (fun t wr => ∃ (i : Nat) (v vw : Value) (now : List UInt8) (ws : List Wt), t = .int .i64 i ∧ i ≤ l.length ∧ ws.length = i ∧ Dv wr w1.heap.size p gn gs v 1 now (noughts 1) ws ∧ Rf wr w1.heap.size q vs vw 1 (noughts 1) (pairs ws) ∧ now = laid (noughts 1) (pairs ws) ∧ Kept W wr []) (fun t _ => l.length - (intOf t).toNat)
  case atStart => exact ⟨0, _, _, _, [], rfl, Nat.zero_le _, rfl, D3.out, R3.out, rfl, K3.out⟩
  case round =>
    obtain ⟨i, v, vw, now, ws, rfl, hi, hwi, hd, hr, hnow, hk⟩ := hrel
    have D := Lib.hid hd; have R := Lib.hid hr; have Hnow := Lib.hid hnow; have K := Lib.hid hk; have Hwi := Lib.hid hwi
    have hzr := hk.size
    have hzb : w1.heap.size ≤ wr.heap.size := Nat.le_trans hr.bq (by have := heap_lt hr.hq; omega)
    clear hd hr hnow hk hwi
    by_cases hlt : i < l.length
    · obtain ⟨la, lc, e1, _, _, hlc⟩ := Hl.out
      simp only [Value.slice.injEq] at e1
      obtain ⟨rfl, _, rfl⟩ := e1
      obtain ⟨lb, lo, rfl, hcell⟩ := hlc (by rintro rfl; simp at hlt)
      have hb := hcell i hlt
      have c0 := K.out.cell (p := ⟨lb, lo + i, none⟩) (by simp) hb
      clear hcell hlc hb
      obtain ⟨x, hx⟩ : ∃ x, x = l.getD i 0 := ⟨_, rfl⟩
      rw [← hx] at c0
      have hx8 := UInt8.toNat_lt x
      obtain ⟨k, hk⟩ : ∃ k : Nat, (x.toNat : Int) % 33 = (k : Int) := ⟨x.toNat % 33, by omega⟩
      have hk32 : k ≤ 32 := by omega
      have hi30 : i < 30 := by omega
      obtain ⟨b, hb⟩ : ∃ b : UInt8, (b.toNat : Int) = (i : Int) + 1 := ⟨UInt8.ofNat (i + 1), by rw [UInt8.toNat_ofNat']; omega⟩
      have Hb := Lib.hid hb
      clear hx hb
      go_wp2_with (refine wpList_make wr rfl 29 _ _ rfl (.slice (some ⟨wr.heap.size, 0, none⟩) k k) (.cells (bc (List.replicate k 0)).toArray 5) (mk_bytes k (by omega) wr) ?_)
      intro w4 Hg4 Hk4 hz4
      clear hk
      have O4 := Lib.hid (own_block Hg4.out (Nat.le_refl wr.heap.size) (List.length_replicate ..) (by unfold maxLen; omega))
      have K4 := Lib.hid (K.out.trans Hk4.out (by simp))
      have D4 := Lib.hid (D.out.frame (Fr.ofKept Hk4.out 0 []) (by simp) (by simp) (by simp))
      have R4 := Lib.hid (R.out.frame (Fr.ofKept Hk4.out w1.heap.size []) (Nat.le_refl _) (by simp) (by simp) (by simp))
      obtain ⟨g, hg⟩ : ∃ g, g = wr.heap.size := ⟨_, rfl⟩
      have hgz : W.heap.size ≤ g := by omega
      have hgz2 : wr.heap.size ≤ g := by omega
      rw [← hg] at O4 ⊢
      clear hg
      go_wp2
      go_loopw [9] (fun t wr2 => ∃ (j : Nat) (l' : List UInt8), t = .int .i64 j ∧ j ≤ k ∧ l'.length = k ∧ Own wr2 g 5 (.slice (some ⟨g, 0, none⟩) k k) l' ∧ Kept wr wr2 [] ∧ Kept W wr2 []) (fun t _ => k - (intOf t).toNat)
      case atStart => exact ⟨0, _, rfl, Nat.zero_le _, List.length_replicate .., O4.out, Hk4.out, K4.out⟩
      case round =>
        obtain ⟨j, l', rfl, hj, hl', hown, hkr, hkw⟩ := hrel
        rename_i wr0
        have Hown := Lib.hid hown; have Hl' := Lib.hid hl'; have Hkr := Lib.hid hkr; have Hkw := Lib.hid hkw
        clear hown hl' hkr hkw
        by_cases hjl : j < k
        · obtain ⟨d0, f0⟩ := own_at Hown.out j (by rw [Hl'.out]; exact hjl)
          have hst := own_store Hown.out j (by rw [Hl'.out]; exact hjl) b
          rw [Hb.out] at hst
          have Hst := Lib.hid hst
          clear hst
          go_wp2
          go_roundw
          case rel => exact ⟨j + 1, l'.set j b, by go_num, by omega, by rw [List.length_set]; exact Hl'.out, Hst.out, Hkr.out.setCell (.inr hgz2) _, Hkw.out.setCell (.inr hgz) _⟩
          case measure => simp [intOf]; omega
        · have hjn : ¬ (j : Int) < (k : Int) := by omega
          clear hjl
          have D5 := Lib.hid (D.out.frame (Fr.ofKept Hkr.out 0 []) (by simp) (by simp) (by simp))
          have R5 := Lib.hid (R.out.frame (Fr.ofKept Hkr.out w1.heap.size []) (Nat.le_refl _) (by simp) (by simp) (by simp))
          have hz5 := Hkr.out.size
          go_wp2_with fail
          refine (write_ok D5.out 0 (by decide) _ l' (by rw [Hl'.out]; exact hk32) (Hown.out.rb w1.heap.size) (by have := Hwi.out; omega) (by omega)).mono ?_
          rintro e w6 ⟨rfl, v6, hd, hf⟩
          have D6 := Lib.hid hd; have K6 := Lib.hid (Hkw.out.later hf hz1)
          have O6 := Lib.hid (show Own w6 g 5 (.slice (some ⟨g, 0, none⟩) k k) l' from ownsRow_frame Hown.out hf (by decide))
          have R6 := Lib.hid (R5.out.frame hf (Nat.le_refl _) (by decide) (by decide) (by decide))
          have hz6 := hf.size
          clear hd hf
          go_wp2_with fail
          refine (rput_ok R6.out 0 (by decide) _ l' (by rw [Hl'.out]; exact hk32) O6.out.rd (by rw [pairs, List.length_map, Hwi.out]; omega) (by omega)).mono ?_
          rintro e w7 ⟨rfl, v7, hr, hf⟩
          have R7 := Lib.hid hr; have K7 := Lib.hid (K6.out.later hf hz1)
          have D7 := Lib.hid (D6.out.frame hf (by decide) (by decide) (by decide))
          rw [← pairs_snoc ws 0 l' (noughts 1)] at R7
          have hn7 : lay now 0 l' = laid (noughts 1) (pairs (ws ++ [⟨0, l'.length, splice (noughts 1) 0 l'⟩])) := by rw [pairs_snoc, laid_snoc, ← Hnow.out]
          have Hn7 := Lib.hid hn7
          clear hr hf hn7
          go_wp2
          go_roundw
          case rel => exact ⟨i + 1, _, _, _, _, by go_num, by omega, by rw [List.length_append, Hwi.out]; rfl, D7.out, R7.out, Hn7.out, K7.out⟩
          case measure => simp [intOf]; omega
    · have hie : i = l.length := by omega
      have hin : ¬ (i : Int) < (l.length : Int) := by omega
      have hws : ws.length ≤ 1000000 := by rw [Hwi.out]; omega
      have hpl : (pairs ws).length = ws.length := by simp [pairs]
      have hl0 : (blkOf now 0).length = 32 := blkOf_length _ 1 0 D.out.ln (by decide)
      have Hl0 := Lib.hid hl0; have Hpl := Lib.hid hpl
      clear hie hlt hpl hl0
      go_wp2_with fail
      refine (read_ok D.out 0 (by decide)).mono ?_
      rintro e x1 ⟨u1, rfl, ho, hk⟩
      obtain ⟨aa1, n1, c1, hu1⟩ := Own.shape3 ho
      have P1 := Lib.hid (ho.rb w1.heap.size); have KA := Lib.hid (K.out.trans hk (by simp)); have hzA := hk.size
      have DA := Lib.hid (D.out.frame (Fr.ofKept hk 0 []) (by simp) (by simp) (by simp))
      have RA := Lib.hid (R.out.frame (Fr.ofKept hk w1.heap.size []) (Nat.le_refl _) (by simp) (by simp) (by simp))
      clear ho hk
      subst hu1
      go_wp2_with fail
      refine (rread_ok RA.out (by rw [Hpl.out]; exact hws) 0 (by decide)).mono ?_
      rintro e x2 ⟨u2, rfl, hb2, hk⟩
      rw [← Hnow.out] at hb2
      obtain ⟨aa2, n2, c2, hu2⟩ := hb2.rd.shape3
      have P2 := Lib.hid hb2; have KB := Lib.hid (KA.out.trans hk (by simp)); have hzB := hk.size
      have P1 := Lib.hid (P1.out.frame (Fr.ofKept hk w1.heap.size []) (Nat.le_refl _) (by simp))
      have DB := Lib.hid (DA.out.frame (Fr.ofKept hk 0 []) (by simp) (by simp) (by simp))
      have RB := Lib.hid (RA.out.frame (Fr.ofKept hk w1.heap.size []) (Nat.le_refl _) (by simp) (by simp) (by simp))
      clear hb2 hk
      subst hu2
      have HloB := Lib.hid ((Hlo.out.frame (Fr.ofKept KB.out W.heap.size []) (Nat.le_refl _) (by simp)))
      have HloB := Lib.hid (RbB.mono HloB.out hz1)
      go_wp2_with fail
      refine (crash_any DB.out hws _ lost HloB.out 32).mono ?_
      rintro e x3 ⟨rfl, hd, hf⟩
      rw [safeTo_all, crash_now 1 (noughts 1) now ws lost 32 DB.out.ls DB.out.hw Hnow.out] at hd
      have DC := Lib.hid hd; have KC := Lib.hid (KB.out.later hf hz1); have hzC := hf.size
      have P1 := Lib.hid (P1.out.frame hf (Nat.le_refl _) (by decide)); have P2 := Lib.hid (P2.out.frame hf (Nat.le_refl _) (by decide))
      have RC := Lib.hid (RB.out.frame hf (Nat.le_refl _) (by decide) (by decide) (by decide))
      have HloC := Lib.hid (HloB.out.frame hf (Nat.le_refl _) (by decide))
      clear hd hf
      go_wp2_with fail
      refine (rcrash_any RC.out (by rw [Hpl.out]; exact hws) (by omega) _ lost HloC.out 32).mono ?_
      rintro e x4 ⟨rfl, vs4, hr, hf⟩
      rw [Hpl.out] at hr
      have RD := Lib.hid hr; have KD := Lib.hid (KC.out.later hf hz1)
      have P1 := Lib.hid (P1.out.frame hf (Nat.le_refl _) (by decide)); have P2 := Lib.hid (P2.out.frame hf (Nat.le_refl _) (by decide))
      have DD := Lib.hid (DC.out.frame hf (by decide) (by decide) (by decide))
      clear hr hf
      go_wp2_with fail
      refine (read_ok DD.out 0 (by decide)).mono ?_
      rintro e x5 ⟨u5, rfl, ho, hk⟩
      obtain ⟨aa5, n5, c5, hu5⟩ := Own.shape3 ho
      have P5 := Lib.hid (ho.rb w1.heap.size); have KE := Lib.hid (KD.out.trans hk (by simp))
      have P1 := Lib.hid (P1.out.frame (Fr.ofKept hk w1.heap.size []) (Nat.le_refl _) (by simp)); have P2 := Lib.hid (P2.out.frame (Fr.ofKept hk w1.heap.size []) (Nat.le_refl _) (by simp))
      have DE := Lib.hid (DD.out.frame (Fr.ofKept hk 0 []) (by simp) (by simp) (by simp))
      have RE := Lib.hid (RD.out.frame (Fr.ofKept hk w1.heap.size []) (Nat.le_refl _) (by simp) (by simp) (by simp))
      clear ho hk
      subst hu5
      go_wp2_with fail
      refine (rread_ok RE.out (by simp) 0 (by decide)).mono ?_
      rintro e x6 ⟨u6, rfl, hb6, hk⟩
      obtain ⟨aa6, n6, c6, hu6⟩ := hb6.rd.shape3
      have P6 := Lib.hid hb6; have KF := Lib.hid (KE.out.trans hk (by simp))
      have P1 := Lib.hid (P1.out.frame (Fr.ofKept hk w1.heap.size []) (Nat.le_refl _) (by simp)); have P2 := Lib.hid (P2.out.frame (Fr.ofKept hk w1.heap.size []) (Nat.le_refl _) (by simp)); have P5 := Lib.hid (P5.out.frame (Fr.ofKept hk w1.heap.size []) (Nat.le_refl _) (by simp))
      have DF := Lib.hid (DE.out.frame (Fr.ofKept hk 0 []) (by simp) (by simp) (by simp))
      clear hb6 hk
      subst hu6
      go_wp2_with fail
      refine (alike_any _ _ _ _ x6 P1.out.rd P2.out.rd (by rw [Hl0.out]; decide)).mono ?_
      rintro e x7 ⟨rfl, hk⟩
      rw [beq_self_eq_true]
      have P5 := Lib.hid (P5.out.frame (Fr.ofKept hk w1.heap.size []) (Nat.le_refl _) (by simp)); have P6 := Lib.hid (P6.out.frame (Fr.ofKept hk w1.heap.size []) (Nat.le_refl _) (by simp))
      have KG := Lib.hid (KF.out.trans hk (by simp))
      have DG := Lib.hid (DF.out.frame (Fr.ofKept hk 0 []) (by simp) (by simp) (by simp))
      clear hk
      have hl5 : (blkOf (laid (noughts 1) (left lost 32 ws.length 0 (pairs ws))) 0).length = 32 := blkOf_length _ 1 0 DG.out.ln (by decide)
      have Hl5 := Lib.hid hl5
      clear hl5
      go_wp2_with fail
      refine (alike_any _ _ _ _ x7 P5.out.rd P6.out.rd (by rw [Hl5.out]; decide)).mono ?_
      rintro e x8 ⟨rfl, hk⟩
      rw [show laid (laid (noughts 1) (left lost 32 ws.length 0 (pairs ws))) [] = laid (noughts 1) (left lost 32 ws.length 0 (pairs ws)) from rfl, beq_self_eq_true]
      have KH := Lib.hid (KG.out.trans hk (by simp))
      have DH := Lib.hid (DG.out.frame (Fr.ofKept hk 0 []) (by simp) (by simp) (by simp))
      clear hk
      go_wp2_with fail
      refine (waiting_any DH.out).mono ?_
      rintro e x9 ⟨rfl, rfl⟩
      go_wp2
      go_ret
      exact ⟨rfl, KH.out.below (Nat.le_refl _) (by simp)⟩

set_option maxRecDepth 100000 in
theorem lifted (os : Os) (started : os.Started) (H : Type) (enc : TypeId × Value → H) :
    ReturnsInHanded {} Try.checked os 9 .any (Rows.blockOverSpec.pre6 enc Try.prog Try.f9 Rows.blockOverRow.domain false) (Rows.blockOverSpec.post enc Try.prog Try.f9 false true false false) := by
  refine returnsInHanded_of_change (C := Try.checked) own started (by kernel_rfl) Try.func9
    (ChangeSpec.witness6 (enc := enc) (C := Try.checked) false ⟨#[], #[.slice none 0 0, .slice none 0 0], []⟩ 8 (by kernel_rfl) (by kernel_rfl) (by kernel_rfl) (by kernel_rfl)) ?_
  intro W base args ds gs before hval0 hW hcnd _
  have hval : ∀ (j : Nat) t v, Try.f9.params[j]? = some t → args[j]? = some v → Value.okWide Try.prog W .any base t v := hval0
  have hW' := hW
  obtain ⟨p, q, hA0, hV, rfl, hfz, hnd⟩ := hW
  have hA : DataW.TrodAll enc Try.prog W 0 (fun _ => true) true Try.f9.params.toList args.toList ds p := hA0
  rw [Try.params9] at hA hval
  obtain ⟨v0, vs0, d0, ds0, p0, q0, hargs, rfl, rfl, h0, r0⟩ := trodAll_cons hA
  obtain ⟨v1, vs1, d1, ds1, p1, q1, rfl, rfl, rfl, h1, r1⟩ := trodAll_cons r0
  obtain ⟨rfl, rfl, rfl⟩ := trodAll_nil r1
  obtain rfl : args = #[v0, v1] := by cases args; simp_all
  obtain ⟨rfl, rfl⟩ := trodVars_none hV
  obtain ⟨a0, len0, cap0, rfl⟩ := okWide_slice Try.underlying29 (hval 0 29 v0 rfl rfl)
  have k0 := h0
  have lt0 : ∀ x ∈ p0, x.block < W.heap.size := by obtain ⟨m, hm⟩ := k0; exact DataW.trod_lt m _ _ _ hm
  obtain ⟨z0, w0⟩ : ∃ zs, IsRow .u8 W a0 len0 cap0 zs := by
    obtain ⟨fuel, hf⟩ := h0
    rcases open_ints Try.underlying29 Try.underlying5 (by kernel_rfl) hf with ⟨hcs, _⟩ | ⟨x, l, c, zs, hcs, _, hl, hm, hz, _, hcell, hwz⟩
    · simp [Value.cells] at hcs
      obtain ⟨rfl, rfl, rfl⟩ := hcs
      exact ⟨[], .inl ⟨rfl, rfl, rfl, rfl⟩⟩
    · simp [Value.cells] at hcs
      obtain ⟨rfl, rfl, rfl⟩ := hcs
      exact ⟨zs, .inr ⟨_, rfl, hl, hm, by simpa using hz, hcell, hwz⟩⟩
  obtain ⟨a1, len1, cap1, rfl⟩ := okWide_slice Try.underlying30 (hval 1 30 v1 rfl rfl)
  have k1 := h1
  have lt1 : ∀ x ∈ p1, x.block < W.heap.size := by obtain ⟨m, hm⟩ := k1; exact DataW.trod_lt m _ _ _ hm
  obtain ⟨z1, w1⟩ : ∃ l, RbB W W.heap.size 4 (.slice a1 len1 cap1) l := by
    obtain ⟨fuel, hf⟩ := h1
    exact bools_open (by simpa [Value.cells] using hf)
  clear hA0 hval0
  refine (walk a0 len0 cap0 z0 a1 len1 cap1 z1 W w0 w1).mono fun e W' ⟨he, bel⟩ => ?_
  subst he
  exact ⟨_, rfl, _, _, _, [], _, [], hW', trodAll_mk1 (shut_bool Try.underlying4 _), (trodAll_cons_mk (Below.trod laidOut (by kernel_rfl) (of_decide_eq_true (by kernel_rfl)) k0 bel lt0) (trodAll_cons_mk (Below.trod laidOut (by kernel_rfl) (of_decide_eq_true (by kernel_rfl)) k1 bel lt1) trodAll_mk0)), rfl, bel.frame _, fun h => by cases h⟩

theorem over : Rows.blockOverRow.holds Try.pinned (OpenSpec.ofChange Rows.blockOverSpec) :=
  OpenClaim.holds_of_wide 9 Try.f9 rfl rfl rfl rfl rfl rfl rfl ⟨rfl, rfl, rfl, rfl, rfl⟩ rfl rfl rfl rfl rfl (by kernel_rfl) Try.func9 (by kernel_rfl)
    (of_decide_eq_true (by kernel_rfl)) (by unfold Func.isWrapper; first | (rw [if_pos (by decide +kernel)]; kernel_rfl) | (rw [if_neg (by decide +kernel)]; exact ⟨rfl, rfl⟩))
    (fun os started H enc _ => lifted os started H enc)

theorem proved : Rows.BlockOverSaid :=
  over
end Go.Proofs.Ytoamdpbnojedpaa.blockOver

namespace Go.Proofs.Ytoamdpbnojedpaa
theorem blockOver_holds : Rows.BlockOverSaid := blockOver.proved
#print axioms blockOver_holds
end Go.Proofs.Ytoamdpbnojedpaa
