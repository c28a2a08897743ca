/-
  Zqe, Zqf in one text.
-/
import Derived.Test.YticiofkiffgclaaGreatQo34
namespace Go.Proofs.YticiofkiffgclaaGreat
set_option linter.unusedVariables false
open Go.RowKit

variable {w w' : World} {B : Nat} {a : Hk} {st : List Nat} {q : Qs} {O : Nat → Prop}

def TkPost (w : World) (B : Nat) (a : Hk) (st : List Nat) (O : Nat → Prop) (p : Pt) (E : Int) (q' : Qs) (e : Ending) (w' : World) : Prop :=
  ∃ y : Tk, e = .returned (.tuple #[.agg y.cs, .int .i64 E]) ∧ y.pl = p ∧ RdT w' y.op y.l ∧ KPost w B a st O q' w'

set_option maxHeartbeats 4000000 in
set_option maxRecDepth 100000 in
theorem ktck_any (s : KS w B a st q O) {k : Nat} (z : SzQ k q) (hk : k ≤ 1000) (hs : st.length ≤ 1000) (now : Int) : Calls Tryz.prog 15 #[.pointer (some ⟨a.h, 0, none⟩), .int .i64 now] w (TkPost w B a st O (addP q.ps ((st.length : Int) + 1) (opens st) now) (addE q.ps ((st.length : Int) + 1) (opens st) now) (tckQ q ((st.length : Int) + 1) (opens st) now)) := by
  obtain ⟨zb, hzb⟩ : ∃ zb, zb = w.heap.size := ⟨_, rfl⟩
  obtain ⟨W1, hW1⟩ : ∃ W1, W1 = w.alloc zT4 := ⟨_, rfl⟩
  have k1 : Kept w W1 [] := by rw [hW1]; exact (Kept.refl w []).alloc _
  have zW1 : W1.heap.size = zb + 1 := by rw [hW1, hzb]; simp
  have g1 : W1.heap[zb]? = some zT4 := by rw [hW1, hzb]; exact heap_alloc_new w _
  have kd : Kept W1 W1.drew [] := (Kept.refl W1 []).drew
  have S := Lib.hid s
  obtain ⟨b, u, d, xs, kq, g, e1, e2, rfl⟩ := (s.keep k1).ex
  have NW := Lib.hid (mnow_any (g.keep kd))
  have S0 := Lib.hid (kd.heap (by simp) kq.hh)
  have ok : Okp (xs.map Tk.pl) := by rw [e1]; exact z.ok.okp
  have OK := Lib.hid ok
  have LA := Lib.hid (show lastN (xs.map Tk.pl) ≤ 1099511627776 by rw [e1]; have := z.last; omega)
  have HL := Lib.hid (show (opens st).length ≤ 1000 from Nat.le_trans (opens_le st) hs)
  have HM := Lib.hid (show (st.length : Int) + 1 ≤ 9223372036854775807 by omega)
  obtain ⟨M, hM⟩ : ∃ M, M = (st.length : Int) + 1 := ⟨_, rfl⟩
  obtain ⟨lo, hlo⟩ : ∃ lo, lo = opens st := ⟨_, rfl⟩
  rw [← hM, ← hlo] at NW
  rw [← hM] at HM
  rw [← hlo] at HL
  rw [← hM, ← hlo]
  have KQ := Lib.hid kq; have MG := Lib.hid g; have E1 := Lib.hid e1; have E2 := Lib.hid e2; have K1 := Lib.hid k1; have G1 := Lib.hid g1; have HW1 := Lib.hid hW1; have HZB := Lib.hid hzb; have ZW1 := Lib.hid zW1; have KD := Lib.hid kd
  have NF : RowKit.Hid (¬ kfoot a d zb) := Lib.hid (fun hk => by have := (s.lt zb hk).2; omega)
  clear s k1 g1 hW1 z hk hs kq g e1 e2 ok hM hlo kd zW1
  go_enter Tryz.func15, Tryz.ntmps15
  go_upto_region 3 with fail
  rw [← HW1.out, ← HZB.out]
  clear hzb
  refine wp_region_held_drew (S := fun Z => Z.heap[a.h]? = some (.cells (kR a d) quT (0, 0))) (by kernel_rfl) S0.out (fun hHeld => ?_)
  refine wpAnyH_take (i := 0) (oi := _) (v := .pointer (some ⟨a.h, 0, none⟩)) rfl (by kernel_rfl) (by kernel_rfl) (by kernel_rfl) (fun _ _ _ h => h) (Or.inl ⟨by rfl, fun V hV => by go_simp⟩) hHeld ?_
  change wpAnyH _ _ _ _ _ _ _ (Act.put _ (some 9) _) _
  simp only [Act.put, List.setIfInBounds_toArray, List.set_cons_zero, List.set_cons_succ]
  refine wpAnyH_take (i := 1) (oi := _) (v := .pointer (some ⟨a.h, 0, none⟩)) rfl (by kernel_rfl) (by kernel_rfl) (by kernel_rfl) (fun _ _ _ h => h) (Or.inl ⟨by rfl, fun V hV => by go_simp⟩) hHeld ?_
  change wpAnyH _ _ _ _ _ _ _ (Act.put _ (some 10) _) _
  simp only [Act.put, List.setIfInBounds_toArray, List.set_cons_zero, List.set_cons_succ]
  refine wpAnyH_take (i := 2) (oi := _) (v := .pointer (some ⟨a.h, 2, none⟩)) rfl (by kernel_rfl) (by kernel_rfl) (by kernel_rfl) (fun _ _ _ h => h) (Or.inl ⟨by rfl, fun V hV => by go_simp⟩) hHeld ?_
  change wpAnyH _ _ _ _ _ _ _ (Act.put _ (some 11) _) _
  simp only [Act.put, List.setIfInBounds_toArray, List.set_cons_zero, List.set_cons_succ]
  refine wpAnyH_take (i := 3) (oi := _) (v := .pointer (some ⟨a.ht, 0, none⟩)) rfl (by kernel_rfl) (by kernel_rfl) (by kernel_rfl) (fun _ _ _ h => h) (Or.inl ⟨by rfl, fun V hV => by (obtain ⟨q0, q1, q2, q3, q4⟩ := kR_cells hV; clear hV; go_simp)⟩) hHeld ?_
  change wpAnyH _ _ _ _ _ _ _ (Act.put _ (some 12) _) _
  simp only [Act.put, List.setIfInBounds_toArray, List.set_cons_zero, List.set_cons_succ]
  refine wpAnyH_take (i := 4) (oi := _) (v := .pointer (some ⟨a.h, 0, none⟩)) rfl (by kernel_rfl) (by kernel_rfl) (by kernel_rfl) (fun _ _ _ h => h) (Or.inl ⟨by rfl, fun V hV => by go_simp⟩) hHeld ?_
  change wpAnyH _ _ _ _ _ _ _ (Act.put _ (some 13) _) _
  simp only [Act.put, List.setIfInBounds_toArray, List.set_cons_zero, List.set_cons_succ]
  refine wpAnyH_take (i := 5) (oi := _) (v := .pointer (some ⟨a.h, 0, none⟩)) rfl (by kernel_rfl) (by kernel_rfl) (by kernel_rfl) (fun _ _ _ h => h) (Or.inl ⟨by rfl, fun V hV => by go_simp⟩) hHeld ?_
  change wpAnyH _ _ _ _ _ _ _ (Act.put _ (some 14) _) _
  simp only [Act.put, List.setIfInBounds_toArray, List.set_cons_zero, List.set_cons_succ]
  refine wpAnyH_take (i := 6) (oi := _) (v := .pointer (some ⟨a.h, 0, none⟩)) rfl (by kernel_rfl) (by kernel_rfl) (by kernel_rfl) (fun _ _ _ h => h) (Or.inl ⟨by rfl, fun V hV => by go_simp⟩) hHeld ?_
  change wpAnyH _ _ _ _ _ _ _ (Act.put _ (some 15) _) _
  simp only [Act.put, List.setIfInBounds_toArray, List.set_cons_zero, List.set_cons_succ]
  refine wpAnyH_take (i := 7) (oi := _) (v := .pointer (some ⟨a.p, 0, none⟩)) rfl (by kernel_rfl) (by kernel_rfl) (by kernel_rfl) (fun _ _ _ h => h) (Or.inl ⟨by rfl, fun V hV => by (obtain ⟨q0, q1, q2, q3, q4⟩ := kR_cells hV; clear hV; go_simp)⟩) hHeld ?_
  change wpAnyH _ _ _ _ _ _ _ (Act.put _ (some 16) _) _
  simp only [Act.put, List.setIfInBounds_toArray, List.set_cons_zero, List.set_cons_succ]
  refine wpAnyH_take (i := 9) (oi := _) (v := .int .i64 now) rfl (by kernel_rfl) (by kernel_rfl) (by kernel_rfl) (fun _ _ _ h => h) (Or.inl ⟨by rfl, fun V hV => by go_simp⟩) hHeld ?_
  change wpAnyH _ _ _ _ _ _ _ (Act.put _ (some 18) _) _
  simp only [Act.put, List.setIfInBounds_toArray, List.set_cons_zero, List.set_cons_succ]
  refine wpAnyH_ready (rs := [8]) (by kernel_rfl) (by simp) ?_
  refine AllReadyH.cons (o := _) rfl (fun K hK => ?_) AllReadyH.nil
  go_simp
  go_at_call 25
  refine (NW.out).mono ?_
  rintro r w2 ⟨va, vc, rfl, ho, k2⟩
  have RT := Lib.hid (owns_rdT ho)
  have K2 := Lib.hid (KD.out.trans k2 (by simp))
  have S2 := Lib.hid (k2.heap (by simp) S0.out)
  have AD := Lib.hid (tkadd_any (KQ.out.keep K2.out).tk OK.out M va vc lo now RT.out HM.out HL.out LA.out)
  clear ho k2
  go_wp2_with fail
  refine hK.out _ _ S2.out (fun hHeld => ?_)
  clear hK K
  refine wpAnyH_ready (rs := [10]) (by kernel_rfl) (by simp) ?_
  refine AllReadyH.cons (o := _) rfl (fun K hK => ?_) AllReadyH.nil
  go_simp
  go_at_call 78
  refine (AD.out).mono ?_
  rintro r w5 ⟨y, V9, xs9, rfl, hpl, hry, h1, h2, h3, -⟩
  obtain ⟨y0, y1, y2, y3, y4, y5⟩ := y
  simp only [Tk.cs, Tk.op] at *
  rw [E1.out]
  rw [E1.out] at hpl h2
  obtain ⟨k5, t5⟩ := (KQ.out.keep K2.out).ofTicks h1 h3
  have S5 := Lib.hid (show w5.heap[a.h]? = some (.cells (kR a d) quT (0, 0)) from k5.hh)
  have PP := Lib.hid (KPost.of (q := tckQ q M lo now) KQ.out MG.out ⟨k5, t5.afterK K2.out⟩ h2 E2.out)
  have G5 := Lib.hid (t5.1.heap NF.out (K2.out.heap (by simp) G1.out))
  have HP := Lib.hid hpl; have HRY := Lib.hid hry
  generalize addE q.ps M lo now = E at *
  clear hpl hry h1 h2 h3 k5 t5
  go_wp2_with fail
  refine hK.out _ _ S5.out (fun hHeld => ?_)
  clear hK K
  refine wpAnyH_take (i := 11) (oi := _) (v := .agg #[.int .i64 y0, .int .i64 y1, .slice y2 y4.length y3, .int .i64 y5]) rfl (by kernel_rfl) (by kernel_rfl) (by kernel_rfl) (fun _ _ _ h => h) (Or.inl ⟨by rfl, fun V hV => by go_simp⟩) hHeld ?_
  change wpAnyH _ _ _ _ _ _ _ (Act.put _ (some 20) _) _
  simp only [Act.put, List.setIfInBounds_toArray, List.set_cons_zero, List.set_cons_succ]
  refine wpAnyH_take (i := 12) (oi := _) (v := .int .i64 E) rfl (by kernel_rfl) (by kernel_rfl) (by kernel_rfl) (fun _ _ _ h => h) (Or.inl ⟨by rfl, fun V hV => by go_simp⟩) hHeld ?_
  change wpAnyH _ _ _ _ _ _ _ (Act.put _ (some 21) _) _
  simp only [Act.put, List.setIfInBounds_toArray, List.set_cons_zero, List.set_cons_succ]
  refine wpAnyH_ready (rs := [13]) (by kernel_rfl) (by simp) ?_
  refine AllReadyH.cons (o := _) rfl (fun K hK => ?_) AllReadyH.nil
  obtain ⟨w7, hw7⟩ : ∃ w7, w7 = putAll w5 zb 0 [.int .i64 y0, .int .i64 y1, .slice y2 y4.length y3, .int .i64 y5] := ⟨_, rfl⟩
  have f7 : Fo (fun k => k = zb) w5 w7 := by rw [hw7]; exact putAll_fo (O := fun k => k = zb) _ w5 0 (Fo.refl _ w5) (.inl rfl)
  have F7 := Lib.hid f7; have HW7 := Lib.hid hw7
  have S7 : RowKit.Hid ((putAll w5 zb 0 [.int .i64 y0, .int .i64 y1, .slice y2 y4.length y3, .int .i64 y5]).heap[a.h]? = some (.cells (kR a d) quT (0, 0))) := Lib.hid (by rw [← hw7]; exact f7.heap (fun e => NF.out (by rw [← e]; exact .inl rfl)) S5.out)
  have G7 := Lib.hid (show w7.heap[zb]? = some (.cells #[.int .i64 y0, .int .i64 y1, .slice y2 y4.length y3, .int .i64 y5] 38 (0, 0)) by rw [hw7]; exact putAll_at G5.out rfl)
  clear hw7 f7
  obtain ⟨x0, x1, x2, x3⟩ := tk_cells G5.out
  obtain ⟨f0, f1, f2, f3⟩ := tk_frozen G5.out
  go_simp
  refine hK.out _ (putAll w5 zb 0 [.int .i64 y0, .int .i64 y1, .slice y2 y4.length y3, .int .i64 y5]) (by exact S7.out) (fun hHeld => ?_)
  clear hK K
  rw [← HW7.out] at hHeld ⊢
  clear x0 x1 x2 x3 f0 f1 f2 f3
  refine wpAnyH_take (i := 14) (oi := _) (v := .int .i64 E) rfl (by kernel_rfl) (by kernel_rfl) (by kernel_rfl) (fun _ _ _ h => h) (Or.inl ⟨by rfl, fun V hV => by go_simp⟩) hHeld ?_
  change wpAnyH _ _ _ _ _ _ _ (Act.put _ (some 5) _) _
  simp only [Act.put, List.setIfInBounds_toArray, List.set_cons_zero, List.set_cons_succ]
  refine wpAnyH_done (by kernel_rfl) ?_ _
  clear hHeld
  obtain ⟨x0, x1, x2, x3⟩ := tk_cells G7.out
  go_wp2
  refine bodyPost_ret (v := .tuple #[.agg #[.int .i64 y0, .int .i64 y1, .slice y2 y4.length y3, .int .i64 y5], .int .i64 E]) (by simp [results, Tryz.results15, go_sem, *]) rfl ?_
  exact ⟨⟨y0, y1, y2, y3, y4, y5⟩, rfl, HP.out, HRY.out.fo F7.out (one_noI G5.out (by decide)), KPost.boxed S.out K1.out PP.out G5.out (by decide) (by decide) (by rw [HZB.out]; omega) (by have := ZW1.out; omega) F7.out⟩

end Go.Proofs.YticiofkiffgclaaGreat

namespace Go.Proofs.YticiofkiffgclaaGreat
set_option linter.unusedVariables false
open Go.RowKit

variable {w w' : World} {B : Nat} {a : Hk} {st : List Nat} {q : Qs} {O : Nat → Prop}

set_option maxHeartbeats 4000000 in
set_option maxRecDepth 100000 in
theorem kbat_any (s : KS w B a st q O) {k : Nat} (z : SzQ k q) (hk : k ≤ 1000) (n : ByteArray) : Calls Tryz.prog 30 #[.pointer (some ⟨a.h, 0, none⟩), .string n] w fun e w' => ∃ v', e = .returned (.tuple #[v', .int .i64 (batE q n)]) ∧ OwnE w' w.heap.size 50 v' (batV st q n) ∧ Kept w w' [] := by
  have KC := Lib.hid (kcursors_any s)
  have SN := Lib.hid (fun (m : Int) (Z : World) (hZ : Kept w Z []) => ksnap_any (s.keep hZ) z m)
  have MAN := Lib.hid (fun (Z : World) (hZ : Kept w Z []) => (s.keep hZ).man)
  obtain ⟨b, u, d, xs, kq, g, e1, e2, rfl⟩ := s.ex
  have GE := Lib.hid (cget_any kq.cu z.ok.okc n)
  have AL := Lib.hid (fun (Z : World) (hZ : Kept w Z []) => all_any (kq.keep hZ).sp (z.tabs hk))
  have SA := Lib.hid (show (allE q).length < 1000000 ∧ ∀ e ∈ allE q, (Lit.int .i64 e.tx).wf = true from ⟨by have := z.all.1; omega, fun e he => (z.all.2 e he).wf⟩)
  have OP0 := Lib.hid (show ∀ x, getC q.cs n = some x → 0 ≤ x.op from fun x hx => z.ok.okc.op0 x (getC_mem hx))
  have KQ := Lib.hid kq
  clear s z hk kq g e1 e2
  have hgv : getV q.cs n = .tuple #[.agg ((getC q.cs n).getD noCu).cs, .bool (getC q.cs n).isSome] := rfl
  rw [hgv] at GE
  clear hgv
  obtain ⟨ob, hob⟩ : ∃ ob, ob = (getC q.cs n).isSome := ⟨_, rfl⟩
  obtain ⟨x, hx⟩ : ∃ x, x = (getC q.cs n).getD noCu := ⟨_, rfl⟩
  rw [← hob, ← hx] at GE
  have HOB := Lib.hid hob; have HX := Lib.hid hx
  clear hob hx
  obtain ⟨b0, b1, b2⟩ := x
  simp only [Cu.cs] at *
  go_enter Tryz.func30, Tryz.ntmps30
  go_wp2_with fail
  refine KC.out.mono ?_
  rintro e wx ⟨rfl, hw⟩
  have hw2 := hw.symm; clear hw; subst hw2
  go_wp2_with fail
  refine GE.out.mono ?_
  rintro e w2 ⟨rfl, k2⟩
  have K2 := Lib.hid k2; clear k2
  go_upto_region 2 with fail
  obtain ⟨W3, hW3⟩ : ∃ W3, W3 = w2.alloc (.cells #[.string b0, .int .i64 b1, .int .i64 b2] cuE) := ⟨_, rfl⟩
  obtain ⟨zc, hzc⟩ : ∃ zc, zc = w2.heap.size := ⟨_, rfl⟩
  rw [← hW3, ← hzc]
  have k3 : Kept w2 W3 [] := by rw [hW3]; exact (Kept.refl w2 []).alloc _
  have K3 := Lib.hid (K2.out.trans k3 (by simp))
  have G3 := Lib.hid (show W3.heap[zc]? = some (.cells #[.string b0, .int .i64 b1, .int .i64 b2] cuE (0, 0)) by rw [hW3, hzc]; exact heap_alloc_new w2 _)
  clear k3 hW3 hzc
  cases ob with
  | false =>
    have RR : RowKit.Hid (batE q n = 4 ∧ batV st q n = []) := Lib.hid (by
      have h := HOB.out
      cases hg : getC q.cs n with
      | none => simp [batE, batV, hg]
      | some y => rw [hg] at h; cases h)
    go_wp2
    refine bodyPost_ret (v := .tuple #[.slice none 0 0, .int .i64 4]) (by simp [results, Tryz.results30, go_sem]) rfl ?_
    obtain ⟨r1, r2⟩ := RR.out
    rw [r1, r2]
    exact ⟨_, rfl, OwnE.nil _ _ _, K3.out⟩
  | true =>
    have hg : getC q.cs n = some ⟨b0, b1, b2⟩ := by
      have h := HOB.out; have h2 := HX.out
      cases hg : getC q.cs n with
      | none => rw [hg] at h; cases h
      | some y => rw [hg] at h2; rw [h2]; rfl
    have HG := Lib.hid hg
    obtain ⟨c0, c1, c2⟩ : W3.cell? ⟨zc, 0, none⟩ = some (.string b0) ∧ W3.cell? ⟨zc, 1, none⟩ = some (.int .i64 b1) ∧ W3.cell? ⟨zc, 2, none⟩ = some (.int .i64 b2) := ⟨by rw [cell_of_row _ _ _ _ _ _ G3.out]; rfl, by rw [cell_of_row _ _ _ _ _ _ G3.out]; rfl, by rw [cell_of_row _ _ _ _ _ _ G3.out]; rfl⟩
    clear hg
    by_cases h2 : b2 = 0
    · subst h2
      have RR : RowKit.Hid (batE q n = 7 ∧ batV st q n = []) := Lib.hid (by simp [batE, batV, HG.out])
      clear c0 c1
      go_wp2
      refine bodyPost_ret (v := .tuple #[.slice none 0 0, .int .i64 7]) (by simp [results, Tryz.results30, go_sem]) rfl ?_
      obtain ⟨r1, r2⟩ := RR.out
      rw [r1, r2]
      exact ⟨_, rfl, OwnE.nil _ _ _, K3.out⟩
    · have RR : RowKit.Hid (batE q n = 0 ∧ batV st q n = srt byId ((allE q).filter (told st (tckP q b1).M (tckP q b1).l (tckP q b2).M (tckP q b2).l n))) := Lib.hid (by simp [batE, batV, HG.out, h2])
      have hb : (b2 == 0) = false := by rw [beq_eq_false_iff_ne]; exact h2
      have SN1 := Lib.hid (fun (Z : World) (hZ : Kept W3 Z []) => SN.out b1 Z (K3.out.trans hZ (by simp)))
      have SN2 := Lib.hid (fun (Z : World) (hZ : Kept W3 Z []) => SN.out b2 Z (K3.out.trans hZ (by simp)))
      obtain ⟨PA, hPA⟩ : ∃ P, P = tckP q b1 := ⟨_, rfl⟩
      obtain ⟨PB, hPB⟩ : ∃ P, P = tckP q b2 := ⟨_, rfl⟩
      rw [← hPA] at SN1 RR
      rw [← hPB] at SN2 RR
      have CF : RowKit.Hid (∀ Z, Kept W3 Z [] → Z.heap[a.h]? = some (.cells (kR a d) quT (0, 0)) ∧ Z.cell? ⟨zc, 1, none⟩ = some (.int .i64 b1) ∧ Z.cell? ⟨zc, 2, none⟩ = some (.int .i64 b2)) := Lib.hid (fun Z hZ => ⟨(KQ.out.keep (K3.out.trans hZ (by simp))).hh, by rw [cell_of_row _ _ _ _ _ _ (hZ.heap (by simp) G3.out)]; rfl, by rw [cell_of_row _ _ _ _ _ _ (hZ.heap (by simp) G3.out)]; rfl⟩)
      clear c0 c1 h2 hPA hPB
      go_upto_region 6 with fail
      refine wp_region_held_drew (S := fun Z => Kept W3 Z []) (by kernel_rfl) (Kept.refl W3 []).drew (fun hHeld => ?_)
      refine wpAnyH_take (i := 0) (oi := _) (v := .pointer (some ⟨a.h, 0, none⟩)) rfl (by kernel_rfl) (by kernel_rfl) (by kernel_rfl) (fun _ _ _ h => h) (Or.inl ⟨by rfl, fun V hV => by go_simp⟩) hHeld ?_
      change wpAnyH _ _ _ _ _ _ _ (Act.put _ (some 22) _) _
      simp only [Act.put, List.setIfInBounds_toArray, List.set_cons_zero, List.set_cons_succ]
      refine wpAnyH_take (i := 1) (oi := _) (v := .pointer (some ⟨a.h, 0, none⟩)) rfl (by kernel_rfl) (by kernel_rfl) (by kernel_rfl) (fun _ _ _ h => h) (Or.inl ⟨by rfl, fun V hV => by go_simp⟩) hHeld ?_
      change wpAnyH _ _ _ _ _ _ _ (Act.put _ (some 23) _) _
      simp only [Act.put, List.setIfInBounds_toArray, List.set_cons_zero, List.set_cons_succ]
      refine wpAnyH_take (i := 2) (oi := _) (v := .pointer (some ⟨a.h, 1, none⟩)) rfl (by kernel_rfl) (by kernel_rfl) (by kernel_rfl) (fun _ _ _ h => h) (Or.inl ⟨by rfl, fun V hV => by go_simp⟩) hHeld ?_
      change wpAnyH _ _ _ _ _ _ _ (Act.put _ (some 24) _) _
      simp only [Act.put, List.setIfInBounds_toArray, List.set_cons_zero, List.set_cons_succ]
      refine wpAnyH_take (i := 3) (oi := _) (v := .pointer (some ⟨a.hs, 0, none⟩)) rfl (by kernel_rfl) (by kernel_rfl) (by kernel_rfl) (fun _ _ _ h => h) (Or.inl ⟨by rfl, fun V hV => by (obtain ⟨q0, q1, q2, q3, q4⟩ := kR_cells (CF.out V hV).1; clear hV; go_simp)⟩) hHeld ?_
      change wpAnyH _ _ _ _ _ _ _ (Act.put _ (some 25) _) _
      simp only [Act.put, List.setIfInBounds_toArray, List.set_cons_zero, List.set_cons_succ]
      refine wpAnyH_take (i := 5) (oi := _) (v := .pointer (some ⟨a.h, 0, none⟩)) rfl (by kernel_rfl) (by kernel_rfl) (by kernel_rfl) (fun _ _ _ h => h) (Or.inl ⟨by rfl, fun V hV => by go_simp⟩) hHeld ?_
      change wpAnyH _ _ _ _ _ _ _ (Act.put _ (some 27) _) _
      simp only [Act.put, List.setIfInBounds_toArray, List.set_cons_zero, List.set_cons_succ]
      refine wpAnyH_take (i := 6) (oi := _) (v := .pointer (some ⟨a.h, 0, none⟩)) rfl (by kernel_rfl) (by kernel_rfl) (by kernel_rfl) (fun _ _ _ h => h) (Or.inl ⟨by rfl, fun V hV => by go_simp⟩) hHeld ?_
      change wpAnyH _ _ _ _ _ _ _ (Act.put _ (some 28) _) _
      simp only [Act.put, List.setIfInBounds_toArray, List.set_cons_zero, List.set_cons_succ]
      refine wpAnyH_take (i := 7) (oi := _) (v := .pointer (some ⟨a.h, 0, none⟩)) rfl (by kernel_rfl) (by kernel_rfl) (by kernel_rfl) (fun _ _ _ h => h) (Or.inl ⟨by rfl, fun V hV => by go_simp⟩) hHeld ?_
      change wpAnyH _ _ _ _ _ _ _ (Act.put _ (some 29) _) _
      simp only [Act.put, List.setIfInBounds_toArray, List.set_cons_zero, List.set_cons_succ]
      refine wpAnyH_take (i := 8) (oi := _) (v := .pointer (some ⟨a.p, 0, none⟩)) rfl (by kernel_rfl) (by kernel_rfl) (by kernel_rfl) (fun _ _ _ h => h) (Or.inl ⟨by rfl, fun V hV => by (obtain ⟨q0, q1, q2, q3, q4⟩ := kR_cells (CF.out V hV).1; clear hV; go_simp)⟩) hHeld ?_
      change wpAnyH _ _ _ _ _ _ _ (Act.put _ (some 30) _) _
      simp only [Act.put, List.setIfInBounds_toArray, List.set_cons_zero, List.set_cons_succ]
      refine wpAnyH_take (i := 9) (oi := _) (v := .pointer (some ⟨a.h, 0, none⟩)) rfl (by kernel_rfl) (by kernel_rfl) (by kernel_rfl) (fun _ _ _ h => h) (Or.inl ⟨by rfl, fun V hV => by go_simp⟩) hHeld ?_
      change wpAnyH _ _ _ _ _ _ _ (Act.put _ (some 31) _) _
      simp only [Act.put, List.setIfInBounds_toArray, List.set_cons_zero, List.set_cons_succ]
      refine wpAnyH_take (i := 10) (oi := _) (v := .pointer (some ⟨zc, 1, none⟩)) rfl (by kernel_rfl) (by kernel_rfl) (by kernel_rfl) (fun _ _ _ h => h) (Or.inl ⟨by rfl, fun V hV => by go_simp⟩) hHeld ?_
      change wpAnyH _ _ _ _ _ _ _ (Act.put _ (some 32) _) _
      simp only [Act.put, List.setIfInBounds_toArray, List.set_cons_zero, List.set_cons_succ]
      refine wpAnyH_take (i := 11) (oi := _) (v := .int .i64 b1) rfl (by kernel_rfl) (by kernel_rfl) (by kernel_rfl) (fun _ _ _ h => h) (Or.inl ⟨by rfl, fun V hV => by (have q0 := (CF.out V hV).2.1; clear hV; go_simp)⟩) hHeld ?_
      change wpAnyH _ _ _ _ _ _ _ (Act.put _ (some 33) _) _
      simp only [Act.put, List.setIfInBounds_toArray, List.set_cons_zero, List.set_cons_succ]
      refine wpAnyH_take (i := 13) (oi := _) (v := .pointer (some ⟨a.h, 0, none⟩)) rfl (by kernel_rfl) (by kernel_rfl) (by kernel_rfl) (fun _ _ _ h => h) (Or.inl ⟨by rfl, fun V hV => by go_simp⟩) hHeld ?_
      change wpAnyH _ _ _ _ _ _ _ (Act.put _ (some 35) _) _
      simp only [Act.put, List.setIfInBounds_toArray, List.set_cons_zero, List.set_cons_succ]
      refine wpAnyH_take (i := 14) (oi := _) (v := .pointer (some ⟨zc, 2, none⟩)) rfl (by kernel_rfl) (by kernel_rfl) (by kernel_rfl) (fun _ _ _ h => h) (Or.inl ⟨by rfl, fun V hV => by go_simp⟩) hHeld ?_
      change wpAnyH _ _ _ _ _ _ _ (Act.put _ (some 36) _) _
      simp only [Act.put, List.setIfInBounds_toArray, List.set_cons_zero, List.set_cons_succ]
      refine wpAnyH_take (i := 15) (oi := _) (v := .int .i64 b2) rfl (by kernel_rfl) (by kernel_rfl) (by kernel_rfl) (fun _ _ _ h => h) (Or.inl ⟨by rfl, fun V hV => by (have q0 := (CF.out V hV).2.2; clear hV; go_simp)⟩) hHeld ?_
      change wpAnyH _ _ _ _ _ _ _ (Act.put _ (some 37) _) _
      simp only [Act.put, List.setIfInBounds_toArray, List.set_cons_zero, List.set_cons_succ]
      refine wpAnyH_take (i := 17) (oi := _) (v := .string n) rfl (by kernel_rfl) (by kernel_rfl) (by kernel_rfl) (fun _ _ _ h => h) (Or.inl ⟨by rfl, fun V hV => by go_simp⟩) hHeld ?_
      change wpAnyH _ _ _ _ _ _ _ (Act.put _ (some 39) _) _
      simp only [Act.put, List.setIfInBounds_toArray, List.set_cons_zero, List.set_cons_succ]
      refine wpAnyH_ready (rs := [4]) (by kernel_rfl) (by simp) ?_
      refine AllReadyH.cons (o := _) rfl (fun K hK => ?_) AllReadyH.nil
      go_simp
      go_at_call 27
      refine (AL.out _ (K3.out.trans ((Kept.refl W3 []).drew) (by simp))).mono ?_
      rintro r wa ⟨v1, rfl, o1, ka⟩
      have KA := Lib.hid ((Kept.refl W3 []).drew.trans ka (by simp)); have O1 := Lib.hid o1
      clear o1 ka
      go_wp2_with fail
      refine hK.out _ _ KA.out (fun hHeld => ?_)
      clear hK K
      refine wpAnyH_ready (rs := [12]) (by kernel_rfl) (by simp) ?_
      refine AllReadyH.cons (o := _) rfl (fun K hK => ?_) AllReadyH.nil
      go_simp
      go_at_call 96
      refine (SN1.out _ KA.out).mono ?_
      rintro r wb ⟨va, vc, rfl, ra, kb⟩
      have KB := Lib.hid (KA.out.trans kb (by simp)); have O2 := Lib.hid (O1.out.kept kb (by simp)); have RA := Lib.hid ra
      clear ra kb
      go_wp2_with fail
      refine hK.out _ _ KB.out (fun hHeld => ?_)
      clear hK K
      refine wpAnyH_ready (rs := [16]) (by kernel_rfl) (by simp) ?_
      refine AllReadyH.cons (o := _) rfl (fun K hK => ?_) AllReadyH.nil
      go_simp
      go_at_call 96
      refine (SN2.out _ KB.out).mono ?_
      rintro r wc ⟨ua, uc, rfl, rb, kc⟩
      have KC4 := Lib.hid (KB.out.trans kc (by simp)); have O3 := Lib.hid (O2.out.kept kc (by simp)); have RA2 := Lib.hid (RA.out.keep kc); have RB := Lib.hid rb
      clear rb kc
      have BO := Lib.hid (bof_any (A := PA.M) (B := PB.M) n O3.out.rd SA.out.1 (MAN.out _ (K3.out.trans KC4.out (by simp))) RA2.out.1 RB.out.1 SA.out.2)
      go_wp2_with fail
      refine hK.out _ _ KC4.out (fun hHeld => ?_)
      clear hK K
      refine wpAnyH_ready (rs := [18]) (by kernel_rfl) (by simp) ?_
      refine AllReadyH.cons (o := _) rfl (fun K hK => ?_) AllReadyH.nil
      go_simp
      go_at_call 95
      refine (BO.out).mono ?_
      rintro r wd ⟨v5, rfl, o5, kd⟩
      have KD := Lib.hid (KC4.out.trans kd (by simp)); have OB := Lib.hid o5
      clear o5 kd
      go_wp2_with fail
      refine hK.out _ _ KD.out (fun hHeld => ?_)
      clear hK K
      refine wpAnyH_take (i := 19) (oi := _) (v := v5) rfl (by kernel_rfl) (by kernel_rfl) (by kernel_rfl) (fun _ _ _ h => h) (Or.inl ⟨by rfl, fun V hV => by go_simp⟩) hHeld ?_
      change wpAnyH _ _ _ _ _ _ _ (Act.put _ (some 4) _) _
      simp only [Act.put, List.setIfInBounds_toArray, List.set_cons_zero, List.set_cons_succ]
      refine wpAnyH_take (i := 20) (oi := _) (v := .int .i64 0) rfl (by kernel_rfl) (by kernel_rfl) (by kernel_rfl) (fun _ _ _ h => h) (Or.inl ⟨by rfl, fun V hV => by go_simp⟩) hHeld ?_
      change wpAnyH _ _ _ _ _ _ _ (Act.put _ (some 5) _) _
      simp only [Act.put, List.setIfInBounds_toArray, List.set_cons_zero, List.set_cons_succ]
      refine wpAnyH_done (by kernel_rfl) ?_ _
      clear hHeld
      go_wp2
      refine bodyPost_ret (v := .tuple #[v5, .int .i64 0]) (by simp [results, Tryz.results30, go_sem]) rfl ?_
      obtain ⟨r1, r2⟩ := RR.out
      rw [r1, r2]
      exact ⟨_, rfl, OB.out.mono (K3.out.trans KC4.out (by simp)).size, K3.out.trans KD.out (by simp)⟩

end Go.Proofs.YticiofkiffgclaaGreat
