/-
  Zqe, Zqf in one text.
-/
import Derived.Test.YticiofkiffgclaaGreatQu0
import Derived.Test.YticiofkiffgclaaGreatQu30
set_option linter.unusedVariables false
set_option maxHeartbeats 16000000
set_option maxRecDepth 100000
namespace Go.Proofs.YticiofkiffgclaaGreat
open Go.RowKit
variable {w w' : World} {B : Nat} {a : Hk} {st : List Nat} {q : Qs} {O : Nat -> Prop}
def TkPost (w : World) (B : Nat) (a : Hk) (st : List Nat) (O : Nat -> Prop) (p : Pt) (E : Int) (q' : Qs) (e : Ending) (w' : World) : Prop :=
 ∃ y : Tk, e = .returned (.tuple #[.agg y.cs, .int .i64 E]) /\ y.pl = p /\ RdT w' y.op y.l /\ KPost w B a st O q' w'
theorem ktck_any (s : KS w B a st q O) {k : Nat} (z : SzQ k q) (hk : k <= 1000) (hs : st.length <= 1000) (now : Int) : Calls Tryz.prog 15 #[.pointer (some ⟨a.h, 0, none⟩), .int .i64 now] w (TkPost w B a st O (addP q.ps ((st.length : Int) + 1) (xqp st) now) (addE q.ps ((st.length : Int) + 1) (xqp st) now) (tckQ q ((st.length : Int) + 1) (xqp st) now)) := by
 obtain ⟨zb, hzb⟩ : ∃ zb, zb = w.heap.size := ⟨_, rfl⟩
 obtain ⟨W1, hW1⟩ : ∃ W1, W1 = w.alloc zT4 := ⟨_, rfl⟩
 have k1 : Kept w W1 [] := by rw [hW1]; exact (Kept.refl w []).alloc _
 have zW1 : W1.heap.size = zb + 1 := by rw [hW1, hzb]; simp
 have g1 : W1.heap[zb]? = some zT4 := by rw [hW1, hzb]; exact heap_alloc_new w _
 have kd : Kept W1 W1.drew [] := (Kept.refl W1 []).drew
 have S := iH s
 obtain ⟨b, u, d, xs, kq, g, e1, e2, rfl⟩ := (s.keep k1).ex
 have NW := iH (mnow_any (g.keep kd))
 have S0 := iH (kd.heap (by simp) kq.hh)
 have ok : Okp (xs.map Tk.pl) := by rw [e1]; exact z.ok.okp
 have OK := iH ok
 have LA := iH (show xqk (xs.map Tk.pl) <= 1099511627776 by rw [e1]; have := z.last; omega)
 have HL := iH (show (xqp st).length <= 1000 from Nat.le_trans (yqu st) hs)
 have HM := iH (show (st.length : Int) + 1 <= 9223372036854775807 by omega)
 obtain ⟨M, hM⟩ : ∃ M, M = (st.length : Int) + 1 := ⟨_, rfl⟩
 obtain ⟨lo, hlo⟩ : ∃ lo, lo = xqp st := ⟨_, rfl⟩
 rw [<- hM, <- hlo] at NW
 rw [<- hM] at HM
 rw [<- hlo] at HL
 rw [<- hM, <- hlo]
 have KQ := iH kq; have MG := iH g; have E1 := iH e1; have E2 := iH e2; have K1 := iH k1; have G1 := iH g1; have HW1 := iH hW1; have HZB := iH hzb; have ZW1 := iH zW1; have KD := iH kd
 have NF : RowKit.Hid (¬ xqR a d zb) := iH (fun hk => by have := (s.lt zb hk).2; omega)
 clear s k1 g1 hW1 z hk hs kq g e1 e2 ok hM hlo kd zW1
 go_enter Tryz.func15, Tryz.ntmps15
 go_upto_region 3 with fail
 rw [<- HW1.out, <- HZB.out]
 clear hzb
 refine wp_region_held_drew (S := fun Z => Z.heap[a.h]? = some (.cells (kR a d) quT (0, 0))) (by kernel_rfl) S0.out (fun hJ => ?_)
 refine wx 0 9 (.pointer (some ⟨a.h, 0, none⟩)) rfl hJ ?_
 refine wx 1 10 (.pointer (some ⟨a.h, 0, none⟩)) rfl hJ ?_
 refine wx 2 11 (.pointer (some ⟨a.h, 2, none⟩)) rfl hJ ?_
 refine wx 3 12 (.pointer (some ⟨a.ht, 0, none⟩)) rfl hJ ?_ (hy := fun V hV => by (obtain ⟨q0, q1, q2, q3, q4⟩ := xqY hV; clear hV; go_simp))
 refine wx 4 13 (.pointer (some ⟨a.h, 0, none⟩)) rfl hJ ?_
 refine wx 5 14 (.pointer (some ⟨a.h, 0, none⟩)) rfl hJ ?_
 refine wx 6 15 (.pointer (some ⟨a.h, 0, none⟩)) rfl hJ ?_
 refine wx 7 16 (.pointer (some ⟨a.p, 0, none⟩)) rfl hJ ?_ (hy := fun V hV => by (obtain ⟨q0, q1, q2, q3, q4⟩ := xqY hV; clear hV; go_simp))
 refine wx 9 18 (.int .i64 now) rfl hJ ?_
 refine wr1 8 rfl (fun K hK => ?_)
 go_simp
 go_at_call 25
 refine (NW.out).mono ?_
 rintro r w2 ⟨va, vc, rfl, ho, k2⟩
 have RT := iH (owns_rdT ho)
 have K2 := iH (KD.out.trans k2 (by simp))
 have S2 := iH (k2.heap (by simp) S0.out)
 have AD := iH (tkadd_any (KQ.out.keep K2.out).tk OK.out M va vc lo now RT.out HM.out HL.out LA.out)
 clear ho k2
 go_wp2_with fail
 refine hK.out _ _ S2.out (fun hJ => ?_)
 clear hK K
 refine wr1 10 rfl (fun K hK => ?_)
 go_simp
 go_at_call 78
 refine (AD.out).mono ?_
 rintro r w5 ⟨y, V9, xs9, rfl, hpl, hry, h1, h2, h3, -⟩
 obtain ⟨y0, y1, y2, y3, y4, y5⟩ := y
 simp only [Tk.cs, Tk.op] at *
 rw [E1.out]
 rw [E1.out] at hpl h2
 obtain ⟨k5, t5⟩ := (KQ.out.keep K2.out).ofTicks h1 h3
 have S5 := iH (show w5.heap[a.h]? = some (.cells (kR a d) quT (0, 0)) from k5.hh)
 have PP := iH (KPost.of (q := tckQ q M lo now) KQ.out MG.out ⟨k5, t5.afterK K2.out⟩ h2 E2.out)
 have G5 := iH (t5.1.heap NF.out (K2.out.heap (by simp) G1.out))
 have HP := iH hpl; have HRY := iH hry
 generalize addE q.ps M lo now = E at *
 clear hpl hry h1 h2 h3 k5 t5
 go_wp2_with fail
 refine hK.out _ _ S5.out (fun hJ => ?_)
 clear hK K
 refine wx 11 20 (.agg #[.int .i64 y0, .int .i64 y1, .slice y2 y4.length y3, .int .i64 y5]) rfl hJ ?_
 refine wx 12 21 (.int .i64 E) rfl hJ ?_
 refine wr1 13 rfl (fun K hK => ?_)
 obtain ⟨w7, hw7⟩ : ∃ w7, w7 = xqo w5 zb 0 [.int .i64 y0, .int .i64 y1, .slice y2 y4.length y3, .int .i64 y5] := ⟨_, rfl⟩
 have f7 : Fo (fun k => k = zb) w5 w7 := by rw [hw7]; exact xqu (O := fun k => k = zb) _ w5 0 (Fo.refl _ w5) (.inl rfl)
 have F7 := iH f7; have HW7 := iH hw7
 have S7 : RowKit.Hid ((xqo w5 zb 0 [.int .i64 y0, .int .i64 y1, .slice y2 y4.length y3, .int .i64 y5]).heap[a.h]? = some (.cells (kR a d) quT (0, 0))) := iH (by rw [<- hw7]; exact f7.heap (fun e => NF.out (by rw [<- e]; exact .inl rfl)) S5.out)
 have G7 := iH (show w7.heap[zb]? = some (.cells #[.int .i64 y0, .int .i64 y1, .slice y2 y4.length y3, .int .i64 y5] 38 (0, 0)) by rw [hw7]; exact xqH G5.out rfl)
 clear hw7 f7
 obtain ⟨x0, x1, x2, x3⟩ := xqc G5.out
 obtain ⟨f0, f1, f2, f3⟩ := xqf G5.out
 go_simp
 refine hK.out _ (xqo w5 zb 0 [.int .i64 y0, .int .i64 y1, .slice y2 y4.length y3, .int .i64 y5]) (by exact S7.out) (fun hJ => ?_)
 clear hK K
 rw [<- HW7.out] at hJ ⊢
 clear x0 x1 x2 x3 f0 f1 f2 f3
 refine wx 14 5 (.int .i64 E) rfl hJ ?_
 refine wd ?_
 clear hJ
 obtain ⟨x0, x1, x2, x3⟩ := xqc G7.out
 go_wp2
 refine bodyPost_ret (v := .tuple #[.agg #[.int .i64 y0, .int .i64 y1, .slice y2 y4.length y3, .int .i64 y5], .int .i64 E]) (by simp [results, Tryz.results15, go_sem, *]) rfl ?_
 exact ⟨⟨y0, y1, y2, y3, y4, y5⟩, rfl, HP.out, HRY.out.fo F7.out (xqK G5.out (by decide)), KPost.boxed S.out K1.out PP.out G5.out (by decide) (by decide) (by rw [HZB.out]; omega) (by have := ZW1.out; omega) F7.out⟩
theorem knxt_any (s : KS w B a st q O) {k : Nat} (z : SzQ k q) (n : ByteArray) : Calls Tryz.prog 29 #[.pointer (some ⟨a.h, 0, none⟩), .string n] w (TkPost w B a st O (nxtP q n) (nxtE q n) (nxtQ q n)) := by
 obtain ⟨zb, hzb⟩ : ∃ zb, zb = w.heap.size := ⟨_, rfl⟩
 obtain ⟨W1, hW1⟩ : ∃ W1, W1 = w.alloc zT4 := ⟨_, rfl⟩
 have k1 : Kept w W1 [] := by rw [hW1]; exact (Kept.refl w []).alloc _
 have zW1 : W1.heap.size = zb + 1 := by rw [hW1, hzb]; simp
 have g1 : W1.heap[zb]? = some zT4 := by rw [hW1, hzb]; exact heap_alloc_new w _
 have S := iH s
 have KC := iH (xqP (s.keep k1))
 obtain ⟨b, u, d, xs, kq, g, e1, e2, rfl⟩ := (s.keep k1).ex
 have GE := iH (cget_any kq.cu z.ok.okc n)
 have OC := iH z.ok.okc; have OP := iH (show Okp (xs.map Tk.pl) by rw [e1]; exact z.ok.okp)
 have KQ := iH kq; have MG := iH g; have E1 := iH e1; have E2 := iH e2; have K1 := iH k1; have G1 := iH g1; have HW1 := iH hW1; have HZB := iH hzb; have ZW1 := iH zW1
 have NF : RowKit.Hid (¬ xqR a d zb) := iH (fun hk => by have := (s.lt zb hk).2; omega)
 have BX : RowKit.Hid (∀ (W : World) (u0 u1 u2 u3 : Value), Kept W1 W [] -> Kept w (xqo W zb 0 [u0, u1, u2, u3]) []) := iH (fun W u0 u1 u2 u3 hW => xqr (K1.out.trans hW (by simp)) (by rw [HZB.out]; exact Nat.le_refl _) _)
 clear s k1 g1 hW1 z kq g e1 e2 zW1
 have hgv : getV q.cs n = .tuple #[.agg ((getC q.cs n).getD noCu).cs, .bool (getC q.cs n).isSome] := rfl
 rw [hgv] at GE
 clear hgv
 obtain ⟨ob, hob⟩ : ∃ ob, ob = (getC q.cs n).isSome := ⟨_, rfl⟩
 obtain ⟨x, hx⟩ : ∃ x, x = (getC q.cs n).getD noCu := ⟨_, rfl⟩
 rw [<- hob, <- hx] at GE
 have HOB := iH hob; have HX := iH hx
 clear hob hx
 have OP0 := iH (show 0 <= x.op by
  rw [HX.out]
  cases hg : getC q.cs n with
  | none => decide
  | some y => exact OC.out.op0 y (getC_mem hg))
 obtain ⟨b0, b1, b2⟩ := x
 simp only [Cu.cs] at *
 go_enter Tryz.func29, Tryz.ntmps29
 go_upto_region 1 with fail
 rw [<- HW1.out, <- HZB.out]
 clear hzb
 go_wp2_with fail
 refine KC.out.mono ?_
 rintro e wx ⟨rfl, hw⟩
 have hw2 := hw.symm; clear hw; subst hw2
 go_wp2_with fail
 refine GE.out.mono ?_
 rintro e w2 ⟨rfl, k2⟩
 have K2 := iH k2; clear k2
 go_upto_region 2 with fail
 obtain ⟨W3, hW3⟩ : ∃ W3, W3 = w2.alloc (.cells #[.string b0, .int .i64 b1, .int .i64 b2] cuE) := ⟨_, rfl⟩
 obtain ⟨zc, hzc⟩ : ∃ zc, zc = w2.heap.size := ⟨_, rfl⟩
 rw [<- hW3, <- hzc]
 have k3 : Kept w2 W3 [] := by rw [hW3]; exact (Kept.refl w2 []).alloc _
 have K3 := iH (K2.out.trans k3 (by simp))
 have G3 := iH (show W3.heap[zc]? = some (.cells #[.string b0, .int .i64 b1, .int .i64 b2] cuE (0, 0)) by rw [hW3, hzc]; exact heap_alloc_new w2 _)
 have GB := iH (K3.out.heap (by simp) G1.out)
 clear k3 hW3 hzc
 cases ob with
 | false =>
 have r1 : nxtP q n = zeroP /\ nxtE q n = 4 /\ nxtQ q n = q := by
  have h := HOB.out
  cases hg : getC q.cs n with
  | none => simp [nxtP, nxtE, nxtQ, nxtO, hg]
  | some y => rw [hg] at h; cases h
 have RR := iH r1
 clear r1
 obtain ⟨x0, x1, x2, x3⟩ := xqc GB.out
 obtain ⟨f0, f1, f2, f3⟩ := xqf GB.out
 go_wp2
 refine bodyPost_ret (v := .tuple #[.agg #[.int .i64 0, .int .i64 0, .slice none 0 0, .int .i64 0], .int .i64 4]) (by simp [results, Tryz.results29, go_sem, *]) rfl ?_
 obtain ⟨r1, r2, r3⟩ := RR.out
 rw [r1, r2, r3]
 exact ⟨Tk.zero, rfl, rfl, RdT.nil _, KPost.same S.out (BX.out W3 _ _ _ _ K3.out)⟩
 | true =>
 have hg : getC q.cs n = some ⟨b0, b1, b2⟩ := by
  have h := HOB.out; have h2 := HX.out
  cases hg : getC q.cs n with
  | none => rw [hg] at h; cases h
  | some y => rw [hg] at h2; rw [h2]; rfl
 have HG := iH hg
 obtain ⟨c0, c1, c2⟩ : W3.cell? ⟨zc, 0, none⟩ = some (.string b0) /\ W3.cell? ⟨zc, 1, none⟩ = some (.int .i64 b1) /\ W3.cell? ⟨zc, 2, none⟩ = some (.int .i64 b2) := ⟨by rw [cell_of_row _ _ _ _ _ _ G3.out]; rfl, by rw [cell_of_row _ _ _ _ _ _ G3.out]; rfl, by rw [cell_of_row _ _ _ _ _ _ G3.out]; rfl⟩
 clear hg
 by_cases h2 : b2 = 0
 ·have H2 := iH h2
  subst h2
  have AF : RowKit.Hid (∀ Z, Kept W3 Z [] -> Calls Tryz.prog 93 #[.pointer (some ⟨a.ht, 0, none⟩), .int .i64 b1] Z (FirstPost Z (aftS q.ps b1))) := iH (fun Z hZ => by rw [<- E1.out]; exact tkaft_any (KQ.out.keep (K3.out.trans hZ (by simp))).tk OP.out b1)
  have CF : RowKit.Hid (∀ Z, Kept W3 Z [] -> Z.heap[a.h]? = some (.cells (kR a d) quT (0, 0)) /\ Z.cell? ⟨zc, 1, none⟩ = some (.int .i64 b1)) := iH (fun Z hZ => ⟨(KQ.out.keep (K3.out.trans hZ (by simp))).hh, by rw [cell_of_row _ _ _ _ _ _ (hZ.heap (by simp) G3.out)]; rfl⟩)
  obtain ⟨ob2, ho2⟩ : ∃ ob2, ob2 = (aftS q.ps b1).isSome := ⟨_, rfl⟩
  have HO2 := iH ho2
  clear c0 c1 ho2
  go_upto_region 6 with fail
  go_cut [8, 9] (fun s8 s9 wx => ∃ (w6 : World) (zt : Nat) (y0 y1 : Int) (y2 : Option Addr) (y3 : Nat) (y4 : List Int) (y5 : Int), w6 = wx /\ s8 = .pointer (some ⟨zt, 0, none⟩) /\ s9 = .bool ob2 /\ RowKit.Hid (Kept W3 w6 []) /\ RowKit.Hid (w6.heap[zt]? = some (.cells #[.int .i64 y0, .int .i64 y1, .slice y2 y4.length y3, .int .i64 y5] 38 (0, 0))) /\ RowKit.Hid (RdT w6 (.slice y2 y4.length y3) y4) /\ RowKit.Hid (W3.heap.size <= zt) /\ RowKit.Hid ((⟨y0, y1, y4, y5⟩ : Pt) = (aftS q.ps b1).getD ⟨0, 0, [], 0⟩))
  case first =>
   refine wp_region_held_drew (S := fun Z => Kept W3 Z []) (by kernel_rfl) (Kept.refl W3 []).drew (fun hJ => ?_)
   refine wx 0 27 (.pointer (some ⟨a.h, 0, none⟩)) rfl hJ ?_
   refine wx 1 28 (.pointer (some ⟨a.h, 0, none⟩)) rfl hJ ?_
   refine wx 2 29 (.pointer (some ⟨a.h, 2, none⟩)) rfl hJ ?_
   refine wx 3 30 (.pointer (some ⟨a.ht, 0, none⟩)) rfl hJ ?_ (hy := fun V hV => by (obtain ⟨q0, q1, q2, q3, q4⟩ := xqY (CF.out V hV).1; clear hV; go_simp))
   refine wx 4 31 (.pointer (some ⟨zc, 1, none⟩)) rfl hJ ?_
   refine wx 5 32 (.int .i64 b1) rfl hJ ?_ (hy := fun V hV => by (have q0 := (CF.out V hV).2; clear hV; go_simp))
   refine wpAnyH_ready (rs := [6, 10]) (by kernel_rfl) (by simp) ?_
   refine (AllReadyH.cons (o := _) rfl (fun K hK => ?_) (AllReadyH.cons (o := _) rfl (fun K hK => ?_) AllReadyH.nil))
   ·go_simp
    go_at_call 93
    refine (AF.out _ ((Kept.refl W3 []).drew)).mono ?_
    rintro r wa ⟨y, rfl, hpl, hry, hfy, ka⟩
    obtain ⟨y0, y1, y2, y3, y4, y5⟩ := y
    simp only [Tk.cs, Tk.op] at *
    have KA := iH (((Kept.refl W3 []).drew).trans ka (by simp)); have HRY := iH hry; have HPL := iH hpl
    rw [<- HO2.out]
    clear hpl hry hfy ka
    go_wp2_with fail
    refine hK.out _ _ KA.out (fun hJ => ?_)
    clear hK K
    refine wx 7 26 (.tuple #[.agg #[.int .i64 y0, .int .i64 y1, .slice y2 y4.length y3, .int .i64 y5], .bool ob2]) rfl hJ ?_
    refine wx 8 34 (.agg #[.int .i64 y0, .int .i64 y1, .slice y2 y4.length y3, .int .i64 y5]) rfl hJ ?_
    refine wx 9 35 (.bool ob2) rfl hJ ?_
    refine wr1 10 rfl (fun K hK => ?_)
    go_simp
    refine hK.out _ _ (KA.out.alloc zT4) (fun hJ => ?_)
    clear hK K
    obtain ⟨zt, hzt⟩ : ∃ zt, zt = wa.heap.size := ⟨_, rfl⟩
    obtain ⟨w5, hw5⟩ : ∃ w5, w5 = wa.alloc zT4 := ⟨_, rfl⟩
    have k5 : Kept wa w5 [] := by rw [hw5]; exact (Kept.refl wa []).alloc zT4
    have G5 := iH (show w5.heap[zt]? = some zT4 by rw [hw5, hzt]; exact heap_alloc_new wa _)
    rw [<- hw5, <- hzt]
    have K5 := iH (KA.out.trans k5 (by simp)); have HR5 := iH (HRY.out.keep k5)
    have HZT := iH (show W3.heap.size <= zt by rw [hzt]; exact KA.out.size)
    clear hw5 hzt k5
    have hJ := K5.out
    obtain ⟨w6, hw6⟩ : ∃ w6, w6 = xqo w5 zt 0 [.int .i64 y0, .int .i64 y1, .slice y2 y4.length y3, .int .i64 y5] := ⟨_, rfl⟩
    have k6 : Kept W3 w6 [] := by rw [hw6]; exact xqr K5.out HZT.out _
    have K6 := iH k6; have HW6 := iH hw6
    have G6 := iH (show w6.heap[zt]? = some (.cells #[.int .i64 y0, .int .i64 y1, .slice y2 y4.length y3, .int .i64 y5] 38 (0, 0)) by rw [hw6]; exact xqH G5.out rfl)
    have HR6 := iH (HR5.out.fo (show Fo (fun k => k = zt) w5 w6 by rw [hw6]; exact xqu (O := fun k => k = zt) _ w5 0 (Fo.refl _ w5) (.inl rfl)) (xqK G5.out (by decide)))
    obtain ⟨x0, x1, x2, x3⟩ := xqc G5.out
    obtain ⟨f0, f1, f2, f3⟩ := xqf G5.out
    clear k6 hw6
    refine wr1 11 rfl (fun K hK => ?_)
    go_simp
    refine hK.out _ (xqo w5 zt 0 [.int .i64 y0, .int .i64 y1, .slice y2 y4.length y3, .int .i64 y5]) (by rw [<- HW6.out]; exact K6.out) (fun hJ => ?_)
    clear hK K
    rw [<- HW6.out] at hJ ⊢
    clear x0 x1 x2 x3 f0 f1 f2 f3
    refine wx 12 9 (.bool ob2) rfl hJ ?_
    refine wd ?_
    clear hJ
    go_wp2_with fail
    go_meet
    exact ⟨w6, zt, y0, y1, y2, y3, y4, y5, rfl, rfl, rfl, K6, G6, HR6, HZT, HPL⟩
   go_simp
   refine hK.out _ _ (((Kept.refl W3 []).drew).alloc zT4) (fun hJ => ?_)
   clear hK K
   obtain ⟨zt, hzt⟩ : ∃ zt, zt = W3.heap.size := ⟨_, rfl⟩
   obtain ⟨w4, hw4⟩ : ∃ w4, w4 = (W3.alloc zT4).drew := ⟨_, rfl⟩
   have K4 := iH (show Kept W3 w4 [] by rw [hw4]; exact ((Kept.refl W3 []).alloc zT4).drew)
   have G4 := iH (show w4.heap[zt]? = some zT4 by rw [hw4, hzt]; exact heap_alloc_new W3 _)
   have HZT := iH (show W3.heap.size <= zt by rw [hzt]; exact Nat.le_refl _)
   have hJ := K4.out
   rw [<- hw4, <- hzt]
   clear hw4 hzt
   refine wr1 6 rfl (fun K hK => ?_)
   go_simp
   go_at_call 93
   refine (AF.out _ (K4.out)).mono ?_
   rintro r wa ⟨y, rfl, hpl, hry, hfy, ka⟩
   obtain ⟨y0, y1, y2, y3, y4, y5⟩ := y
   simp only [Tk.cs, Tk.op] at *
   have KA := iH ((K4.out).trans ka (by simp)); have HRY := iH hry; have HPL := iH hpl
   rw [<- HO2.out]
   have G5 := iH (ka.heap (by simp) G4.out)
   clear hpl hry hfy ka
   go_wp2_with fail
   refine hK.out _ _ KA.out (fun hJ => ?_)
   clear hK K
   obtain ⟨w5, hw5⟩ : ∃ w5, w5 = wa := ⟨_, rfl⟩
   subst hw5
   have K5 := KA; have HR5 := HRY
   obtain ⟨w6, hw6⟩ : ∃ w6, w6 = xqo w5 zt 0 [.int .i64 y0, .int .i64 y1, .slice y2 y4.length y3, .int .i64 y5] := ⟨_, rfl⟩
   have k6 : Kept W3 w6 [] := by rw [hw6]; exact xqr K5.out HZT.out _
   have K6 := iH k6; have HW6 := iH hw6
   have G6 := iH (show w6.heap[zt]? = some (.cells #[.int .i64 y0, .int .i64 y1, .slice y2 y4.length y3, .int .i64 y5] 38 (0, 0)) by rw [hw6]; exact xqH G5.out rfl)
   have HR6 := iH (HR5.out.fo (show Fo (fun k => k = zt) w5 w6 by rw [hw6]; exact xqu (O := fun k => k = zt) _ w5 0 (Fo.refl _ w5) (.inl rfl)) (xqK G5.out (by decide)))
   obtain ⟨x0, x1, x2, x3⟩ := xqc G5.out
   obtain ⟨f0, f1, f2, f3⟩ := xqf G5.out
   clear k6 hw6
   refine wx 7 26 (.tuple #[.agg #[.int .i64 y0, .int .i64 y1, .slice y2 y4.length y3, .int .i64 y5], .bool ob2]) rfl hJ ?_
   refine wx 8 34 (.agg #[.int .i64 y0, .int .i64 y1, .slice y2 y4.length y3, .int .i64 y5]) rfl hJ ?_
   refine wx 9 35 (.bool ob2) rfl hJ ?_
   refine wr1 11 rfl (fun K hK => ?_)
   go_simp
   refine hK.out _ (xqo w5 zt 0 [.int .i64 y0, .int .i64 y1, .slice y2 y4.length y3, .int .i64 y5]) (by rw [<- HW6.out]; exact K6.out) (fun hJ => ?_)
   clear hK K
   rw [<- HW6.out] at hJ ⊢
   clear x0 x1 x2 x3 f0 f1 f2 f3
   refine wx 12 9 (.bool ob2) rfl hJ ?_
   refine wd ?_
   clear hJ
   go_wp2_with fail
   go_meet
   exact ⟨w6, zt, y0, y1, y2, y3, y4, y5, rfl, rfl, rfl, K6, G6, HR6, HZT, HPL⟩
  case' rest => obtain ⟨w6, zt, y0, y1, y2, y3, y4, y5, rfl, rfl, rfl, K6, G6, HR6, HZT, HPL⟩ := hcut
  cases hs : aftS q.ps b1 with
  | none =>
  have r1 : nxtP q n = zeroP /\ nxtE q n = 9 /\ nxtQ q n = q := by simp [nxtP, nxtE, nxtQ, nxtO, HG.out, hs]
  have RR := iH r1
  clear r1
  have hob : ob2 = false := by rw [HO2.out, hs]; rfl
  subst hob
  clear hs
  obtain ⟨x0, x1, x2, x3⟩ := xqc (K6.out.heap (by simp) GB.out)
  obtain ⟨f0, f1, f2, f3⟩ := xqf (K6.out.heap (by simp) GB.out)
  go_wp2
  refine bodyPost_ret (v := .tuple #[.agg #[.int .i64 0, .int .i64 0, .slice none 0 0, .int .i64 0], .int .i64 9]) (by simp [results, Tryz.results29, go_sem, *]) rfl ?_
  obtain ⟨r1, r2, r3⟩ := RR.out
  rw [r1, r2, r3]
  exact ⟨Tk.zero, rfl, rfl, RdT.nil _, KPost.same S.out (BX.out _ _ _ _ _ (K3.out.trans K6.out (by simp)))⟩
  | some p =>
  have hob : ob2 = true := by rw [HO2.out, hs]; rfl
  subst hob
  have hp : (⟨y0, y1, y4, y5⟩ : Pt) = p := by have := HPL.out; rw [hs] at this; exact this
  have r1 : nxtP q n = ⟨y0, y1, y4, y5⟩ /\ nxtE q n = 0 /\ nxtQ q n = { q with cs := opnL q.cs n y0 } := by subst hp; simp [nxtP, nxtE, nxtQ, nxtO, HG.out, hs]
  have RR := iH r1
  clear r1
  have k6 := KQ.out.keep (K3.out.trans K6.out (by simp))
  have kd6 : Kept w6 w6.drew [] := (Kept.refl w6 []).drew
  have S6 := iH (And.intro (kd6.heap (by simp) k6.hh) (kd6.heap (by simp) G6.out))
  have OPN := iH (copn_any (k6.keep kd6).cu OC.out n y0)
  have NT : RowKit.Hid (¬ xqR a d zt /\ w.heap.size <= zt /\ zt ≠ zb) := iH ⟨fun hk => by have := (S.out.lt zt hk).2; have := HZT.out; have := K3.out.size; have := ZW1.out; have := HZB.out; omega, by have := HZT.out; have := K3.out.size; have := ZW1.out; have := HZB.out; omega, by have := HZT.out; have := K3.out.size; have := ZW1.out; omega⟩
  have KQ6 := iH k6; have MG6 := iH (MG.out.keep (K3.out.trans K6.out (by simp))); have KD6 := iH kd6
  clear hs hp k6 kd6
  go_upto_region 9 with fail
  refine wp_region_held_drew (S := fun Z => Z.heap[a.h]? = some (.cells (kR a d) quT (0, 0)) /\ Z.heap[zt]? = some (.cells #[.int .i64 y0, .int .i64 y1, .slice y2 y4.length y3, .int .i64 y5] 38 (0, 0))) (by kernel_rfl) S6.out (fun hJ => ?_)
  refine wx 0 39 (.pointer (some ⟨a.h, 0, none⟩)) rfl hJ ?_
  refine wx 1 40 (.pointer (some ⟨a.h, 0, none⟩)) rfl hJ ?_
  refine wx 2 41 (.pointer (some ⟨a.h, 3, none⟩)) rfl hJ ?_
  refine wx 3 42 (.pointer (some ⟨a.hc, 0, none⟩)) rfl hJ ?_ (hy := fun V hV => by (obtain ⟨q0, q1, q2, q3, q4⟩ := xqY hV.1; clear hV; go_simp))
  refine wx 4 43 (.string n) rfl hJ ?_
  refine wx 5 44 (.pointer (some ⟨zt, 0, none⟩)) rfl hJ ?_
  refine wx 6 45 (.int .i64 y0) rfl hJ ?_ (hy := fun V hV => by (obtain ⟨q0, q1, q2, q3⟩ := xqc hV.2; clear hV; go_simp))
  refine wr1 7 rfl (fun K hK => ?_)
  go_simp
  go_at_call 94
  refine (OPN.out).mono ?_
  rintro r w9 ⟨rfl, V9, h1, h3⟩
  obtain ⟨k9, t9⟩ := (KQ6.out.keep KD6.out).ofCursors h1 h3
  have S9 : RowKit.Hid (w9.heap[a.h]? = some (.cells (kR a d) quT (0, 0)) /\ w9.heap[zt]? = some (.cells #[.int .i64 y0, .int .i64 y1, .slice y2 y4.length y3, .int .i64 y5] 38 (0, 0))) := iH ⟨k9.hh, t9.1.heap NT.out.1 S6.out.2⟩
  have PP9 := iH (KPost.of (q := { q with cs := opnL q.cs n y0 }) KQ6.out MG6.out ⟨k9, t9.afterK KD6.out⟩ E1.out E2.out)
  have GB9 := iH (t9.1.heap NF.out (KD6.out.heap (by simp) (K6.out.heap (by simp) GB.out)))
  have HR9 := iH ((HR6.out.keep KD6.out).fo t9.1 (KQ6.out.keep KD6.out).noI)
  generalize opnE q.cs n y0 = EE at *
  clear h1 h3 k9 t9
  go_wp2_with fail
  refine hK.out _ _ S9.out (fun hJ => ?_)
  clear hK K
  refine wd ?_
  clear hJ
  obtain ⟨x0, x1, x2, x3⟩ := xqc S9.out.2
  obtain ⟨y0', y1', y2', y3'⟩ := xqc GB9.out
  obtain ⟨f0, f1, f2, f3⟩ := xqf GB9.out
  have NE := NT.out.2.2
  clear c2
  go_wp2
  refine bodyPost_ret (v := .tuple #[.agg #[.int .i64 y0, .int .i64 y1, .slice y2 y4.length y3, .int .i64 y5], .int .i64 0]) (by simp [results, Tryz.results29, go_sem, *]) rfl ?_
  obtain ⟨r1, r2, r3⟩ := RR.out
  rw [r1, r2, r3]
  have f7 : Fo (fun k => k = zb) w9 (xqo w9 zb 0 [.int .i64 y0, .int .i64 y1, .slice y2 y4.length y3, .int .i64 y5]) := xqu (O := fun k => k = zb) _ w9 0 (Fo.refl _ w9) (.inl rfl)
  refine ⟨⟨y0, y1, y2, y3, y4, y5⟩, rfl, rfl, HR9.out.fo f7 (xqK GB9.out (by decide)), KPost.boxed S.out K1.out ?_ GB9.out (by decide) (by decide) (by rw [HZB.out]; omega) (by have := ZW1.out; omega) f7⟩
  obtain ⟨O', p1, p2⟩ := PP9.out
  exact ⟨O', p1, p2.afterK (K3.out.trans K6.out (by simp))⟩
 have r1 : nxtP q n = zeroP /\ nxtE q n = 7 /\ nxtQ q n = q := by
  have : 0 < b2 := by have := OP0.out; omega
  simp [nxtP, nxtE, nxtQ, nxtO, HG.out, this]
 have RR := iH r1
 have hb : (b2 == 0) = false := by rw [beq_eq_false_iff_ne]; exact h2
 clear r1 h2 c0 c1
 obtain ⟨x0, x1, x2, x3⟩ := xqc GB.out
 obtain ⟨f0, f1, f2, f3⟩ := xqf GB.out
 go_wp2
 refine bodyPost_ret (v := .tuple #[.agg #[.int .i64 0, .int .i64 0, .slice none 0 0, .int .i64 0], .int .i64 7]) (by simp [results, Tryz.results29, go_sem, *]) rfl ?_
 obtain ⟨r1, r2, r3⟩ := RR.out
 rw [r1, r2, r3]
 exact ⟨Tk.zero, rfl, rfl, RdT.nil _, KPost.same S.out (BX.out W3 _ _ _ _ K3.out)⟩
variable {w w' : World} {B : Nat} {a : Hk} {st : List Nat} {q : Qs} {O : Nat -> Prop}
theorem kbat_any (s : KS w B a st q O) {k : Nat} (z : SzQ k q) (hk : k <= 1000) (n : ByteArray) : Calls Tryz.prog 30 #[.pointer (some ⟨a.h, 0, none⟩), .string n] w fun e w' => ∃ v', e = .returned (.tuple #[v', .int .i64 (batE q n)]) /\ OwnE w' w.heap.size 50 v' (batV st q n) /\ Kept w w' [] := by
 have KC := iH (xqP s)
 have SN := iH (fun (m : Int) (Z : World) (hZ : Kept w Z []) => ksnap_any (s.keep hZ) z m)
 have MAN := iH (fun (Z : World) (hZ : Kept w Z []) => (s.keep hZ).man)
 obtain ⟨b, u, d, xs, kq, g, e1, e2, rfl⟩ := s.ex
 have GE := iH (cget_any kq.cu z.ok.okc n)
 have AL := iH (fun (Z : World) (hZ : Kept w Z []) => all_any (kq.keep hZ).sp (z.tabs hk))
 have SA := iH (show (allE q).length < 1000000 /\ ∀ e ∈ allE q, (Lit.int .i64 e.tx).wf = true from ⟨by have := z.all.1; omega, fun e he => (z.all.2 e he).wf⟩)
 have OP0 := iH (show ∀ x, getC q.cs n = some x -> 0 <= x.op from fun x hx => z.ok.okc.op0 x (getC_mem hx))
 have KQ := iH kq
 clear s z hk kq g e1 e2
 have hgv : getV q.cs n = .tuple #[.agg ((getC q.cs n).getD noCu).cs, .bool (getC q.cs n).isSome] := rfl
 rw [hgv] at GE
 clear hgv
 obtain ⟨ob, hob⟩ : ∃ ob, ob = (getC q.cs n).isSome := ⟨_, rfl⟩
 obtain ⟨x, hx⟩ : ∃ x, x = (getC q.cs n).getD noCu := ⟨_, rfl⟩
 rw [<- hob, <- hx] at GE
 have HOB := iH hob; have HX := iH hx
 clear hob hx
 obtain ⟨b0, b1, b2⟩ := x
 simp only [Cu.cs] at *
 go_enter Tryz.func30, Tryz.ntmps30
 go_wp2_with fail
 refine KC.out.mono ?_
 rintro e wx ⟨rfl, hw⟩
 have hw2 := hw.symm; clear hw; subst hw2
 go_wp2_with fail
 refine GE.out.mono ?_
 rintro e w2 ⟨rfl, k2⟩
 have K2 := iH k2; clear k2
 go_upto_region 2 with fail
 obtain ⟨W3, hW3⟩ : ∃ W3, W3 = w2.alloc (.cells #[.string b0, .int .i64 b1, .int .i64 b2] cuE) := ⟨_, rfl⟩
 obtain ⟨zc, hzc⟩ : ∃ zc, zc = w2.heap.size := ⟨_, rfl⟩
 rw [<- hW3, <- hzc]
 have k3 : Kept w2 W3 [] := by rw [hW3]; exact (Kept.refl w2 []).alloc _
 have K3 := iH (K2.out.trans k3 (by simp))
 have G3 := iH (show W3.heap[zc]? = some (.cells #[.string b0, .int .i64 b1, .int .i64 b2] cuE (0, 0)) by rw [hW3, hzc]; exact heap_alloc_new w2 _)
 clear k3 hW3 hzc
 cases ob with
 | false =>
 have RR : RowKit.Hid (batE q n = 4 /\ batV st q n = []) := iH (by
  have h := HOB.out
  cases hg : getC q.cs n with
  | none => simp [batE, batV, hg]
  | some y => rw [hg] at h; cases h)
 go_wp2
 refine bodyPost_ret (v := .tuple #[.slice none 0 0, .int .i64 4]) (by simp [results, Tryz.results30, go_sem]) rfl ?_
 obtain ⟨r1, r2⟩ := RR.out
 rw [r1, r2]
 exact ⟨_, rfl, OwnE.nil _ _ _, K3.out⟩
 | true =>
 have hg : getC q.cs n = some ⟨b0, b1, b2⟩ := by
  have h := HOB.out; have h2 := HX.out
  cases hg : getC q.cs n with
  | none => rw [hg] at h; cases h
  | some y => rw [hg] at h2; rw [h2]; rfl
 have HG := iH hg
 obtain ⟨c0, c1, c2⟩ : W3.cell? ⟨zc, 0, none⟩ = some (.string b0) /\ W3.cell? ⟨zc, 1, none⟩ = some (.int .i64 b1) /\ W3.cell? ⟨zc, 2, none⟩ = some (.int .i64 b2) := ⟨by rw [cell_of_row _ _ _ _ _ _ G3.out]; rfl, by rw [cell_of_row _ _ _ _ _ _ G3.out]; rfl, by rw [cell_of_row _ _ _ _ _ _ G3.out]; rfl⟩
 clear hg
 by_cases h2 : b2 = 0
 ·subst h2
  have RR : RowKit.Hid (batE q n = 7 /\ batV st q n = []) := iH (by simp [batE, batV, HG.out])
  clear c0 c1
  go_wp2
  refine bodyPost_ret (v := .tuple #[.slice none 0 0, .int .i64 7]) (by simp [results, Tryz.results30, go_sem]) rfl ?_
  obtain ⟨r1, r2⟩ := RR.out
  rw [r1, r2]
  exact ⟨_, rfl, OwnE.nil _ _ _, K3.out⟩
 have RR : RowKit.Hid (batE q n = 0 /\ batV st q n = srt byId ((allE q).filter (told st (tckP q b1).M (tckP q b1).l (tckP q b2).M (tckP q b2).l n))) := iH (by simp [batE, batV, HG.out, h2])
 have hb : (b2 == 0) = false := by rw [beq_eq_false_iff_ne]; exact h2
 have SN1 := iH (fun (Z : World) (hZ : Kept W3 Z []) => SN.out b1 Z (K3.out.trans hZ (by simp)))
 have SN2 := iH (fun (Z : World) (hZ : Kept W3 Z []) => SN.out b2 Z (K3.out.trans hZ (by simp)))
 obtain ⟨PA, hPA⟩ : ∃ P, P = tckP q b1 := ⟨_, rfl⟩
 obtain ⟨PB, hPB⟩ : ∃ P, P = tckP q b2 := ⟨_, rfl⟩
 rw [<- hPA] at SN1 RR
 rw [<- hPB] at SN2 RR
 have CF : RowKit.Hid (∀ Z, Kept W3 Z [] -> Z.heap[a.h]? = some (.cells (kR a d) quT (0, 0)) /\ Z.cell? ⟨zc, 1, none⟩ = some (.int .i64 b1) /\ Z.cell? ⟨zc, 2, none⟩ = some (.int .i64 b2)) := iH (fun Z hZ => ⟨(KQ.out.keep (K3.out.trans hZ (by simp))).hh, by rw [cell_of_row _ _ _ _ _ _ (hZ.heap (by simp) G3.out)]; rfl, by rw [cell_of_row _ _ _ _ _ _ (hZ.heap (by simp) G3.out)]; rfl⟩)
 clear c0 c1 h2 hPA hPB
 go_upto_region 6 with fail
 refine wp_region_held_drew (S := fun Z => Kept W3 Z []) (by kernel_rfl) (Kept.refl W3 []).drew (fun hJ => ?_)
 refine wx 0 22 (.pointer (some ⟨a.h, 0, none⟩)) rfl hJ ?_
 refine wx 1 23 (.pointer (some ⟨a.h, 0, none⟩)) rfl hJ ?_
 refine wx 2 24 (.pointer (some ⟨a.h, 1, none⟩)) rfl hJ ?_
 refine wx 3 25 (.pointer (some ⟨a.hs, 0, none⟩)) rfl hJ ?_ (hy := fun V hV => by (obtain ⟨q0, q1, q2, q3, q4⟩ := xqY (CF.out V hV).1; clear hV; go_simp))
 refine wx 5 27 (.pointer (some ⟨a.h, 0, none⟩)) rfl hJ ?_
 refine wx 6 28 (.pointer (some ⟨a.h, 0, none⟩)) rfl hJ ?_
 refine wx 7 29 (.pointer (some ⟨a.h, 0, none⟩)) rfl hJ ?_
 refine wx 8 30 (.pointer (some ⟨a.p, 0, none⟩)) rfl hJ ?_ (hy := fun V hV => by (obtain ⟨q0, q1, q2, q3, q4⟩ := xqY (CF.out V hV).1; clear hV; go_simp))
 refine wx 9 31 (.pointer (some ⟨a.h, 0, none⟩)) rfl hJ ?_
 refine wx 10 32 (.pointer (some ⟨zc, 1, none⟩)) rfl hJ ?_
 refine wx 11 33 (.int .i64 b1) rfl hJ ?_ (hy := fun V hV => by (have q0 := (CF.out V hV).2.1; clear hV; go_simp))
 refine wx 13 35 (.pointer (some ⟨a.h, 0, none⟩)) rfl hJ ?_
 refine wx 14 36 (.pointer (some ⟨zc, 2, none⟩)) rfl hJ ?_
 refine wx 15 37 (.int .i64 b2) rfl hJ ?_ (hy := fun V hV => by (have q0 := (CF.out V hV).2.2; clear hV; go_simp))
 refine wx 17 39 (.string n) rfl hJ ?_
 refine wr1 4 rfl (fun K hK => ?_)
 go_simp
 go_at_call 27
 refine (AL.out _ (K3.out.trans ((Kept.refl W3 []).drew) (by simp))).mono ?_
 rintro r wa ⟨v1, rfl, o1, ka⟩
 have KA := iH ((Kept.refl W3 []).drew.trans ka (by simp)); have O1 := iH o1
 clear o1 ka
 go_wp2_with fail
 refine hK.out _ _ KA.out (fun hJ => ?_)
 clear hK K
 refine wr1 12 rfl (fun K hK => ?_)
 go_simp
 go_at_call 96
 refine (SN1.out _ KA.out).mono ?_
 rintro r wb ⟨va, vc, rfl, ra, kb⟩
 have KB := iH (KA.out.trans kb (by simp)); have O2 := iH (O1.out.kept kb (by simp)); have RA := iH ra
 clear ra kb
 go_wp2_with fail
 refine hK.out _ _ KB.out (fun hJ => ?_)
 clear hK K
 refine wr1 16 rfl (fun K hK => ?_)
 go_simp
 go_at_call 96
 refine (SN2.out _ KB.out).mono ?_
 rintro r wc ⟨ua, uc, rfl, rb, kc⟩
 have KC4 := iH (KB.out.trans kc (by simp)); have O3 := iH (O2.out.kept kc (by simp)); have RA2 := iH (RA.out.keep kc); have RB := iH rb
 clear rb kc
 have BO := iH (bof_any (A := PA.M) (B := PB.M) n O3.out.rd SA.out.1 (MAN.out _ (K3.out.trans KC4.out (by simp))) RA2.out.1 RB.out.1 SA.out.2)
 go_wp2_with fail
 refine hK.out _ _ KC4.out (fun hJ => ?_)
 clear hK K
 refine wr1 18 rfl (fun K hK => ?_)
 go_simp
 go_at_call 95
 refine (BO.out).mono ?_
 rintro r wdd ⟨v5, rfl, o5, kd⟩
 have KD := iH (KC4.out.trans kd (by simp)); have OB := iH o5
 clear o5 kd
 go_wp2_with fail
 refine hK.out _ _ KD.out (fun hJ => ?_)
 clear hK K
 refine wx 19 4 (v5) rfl hJ ?_
 refine wx 20 5 (.int .i64 0) rfl hJ ?_
 refine wd ?_
 clear hJ
 go_wp2
 refine bodyPost_ret (v := .tuple #[v5, .int .i64 0]) (by simp [results, Tryz.results30, go_sem]) rfl ?_
 obtain ⟨r1, r2⟩ := RR.out
 rw [r1, r2]
 exact ⟨_, rfl, OB.out.mono (K3.out.trans KC4.out (by simp)).size, K3.out.trans KD.out (by simp)⟩
theorem krty_fn (e : Ev) (id : Int) (xb : Nat) (W : World) (hx : W.cell? ⟨xb, 0, none⟩ = some (.int .i64 id)) :
  Calls Tryz.prog 100 #[.agg e.cs, .pointer (some ⟨xb, 0, none⟩)] W fun r w' => r = .returned (.bool (e.id == id)) /\ Kept W w' [] := by
 have hy : (W.alloc (.cells e.cs 50)).cell? ⟨xb, 0, none⟩ = some (.int .i64 id) := ((Kept.refl W []).alloc _).cell (by simp) hx
 obtain ⟨b0, b1, b2, b3, b4, b5, b6, b7⟩ := e
 simp only [Ev.cs] at *
 go_enter Tryz.func100, Tryz.ntmps100
 go_wp2
 go_ret
 exact ⟨rfl, (Kept.refl W []).alloc _⟩
theorem idx_find {α : Type} (P : α -> Bool) (l : List α) : (l.find? P = none -> idxB P l = -1) /\ ∀ x, l.find? P = some x -> ∃ i : Nat, idxB P l = i /\ l[i]? = some x := by
 constructor
 ·intro h
  rw [List.find?_eq_none] at h
  exact idx_miss (fun j s hj hs => by simpa using h s (List.mem_of_getElem? hs))
 intro x h
 rw [List.find?_eq_some_iff_getElem] at h
 obtain ⟨hp, i, hi, e, hb⟩ := h
 refine ⟨i, idx_hit (List.getElem?_eq_getElem hi) (by rw [e]; exact hp) (fun j s hj hs => ?_), by rw [List.getElem?_eq_getElem hi, e]⟩
 have hjl : j < l.length := by omega
 rw [List.getElem?_eq_getElem hjl] at hs
 cases hs
 simpa using hb j hj
theorem OwnE.hit {base : Nat} {t : TypeId} {v : Value} {m : List Ev} (h : OwnE w base t v m) {i : Nat} {x : Ev} (hx : m[i]? = some x) : ∃ g c cur, v = .slice (some ⟨g, 0, none⟩) m.length c /\ base <= g /\ w.heap[g]? = some (.cells cur t (0, 0)) /\
  ∀ V : World, V.heap[g]? = w.heap[g]? -> V.cell? ⟨g, i * 8, none⟩ = some (.int .i64 x.id) /\ V.cell? ⟨g, i * 8 + 1, none⟩ = some (.int .i64 x.tx) /\ V.cell? ⟨g, i * 8 + 2, none⟩ = some (.string x.ow) /\ V.cell? ⟨g, i * 8 + 3, none⟩ = some (.int .i64 x.tr) /\
   V.cell? ⟨g, i * 8 + 4, none⟩ = some (.int .i64 x.tb) /\ V.cell? ⟨g, i * 8 + 5, none⟩ = some (.int .u8 x.kd) /\ V.cell? ⟨g, i * 8 + 6, none⟩ = some (.int .i64 x.key) /\ V.cell? ⟨g, i * 8 + 7, none⟩ = some (.string x.t) := by
 have r := h.rd
 obtain ⟨u, c, e⟩ := h.shape
 have hb := h.lt
 have ht := h.tag (k := (u.getD ⟨0, 0, none⟩).block)
 rw [e] at r
 obtain ⟨g, o, rfl, p⟩ := r.eight hx
 have ho : o = 0 := by
  rcases h.2 with ⟨h2, _⟩ | ⟨g', cap, cur, h2, _⟩
  ·rw [e] at h2; simp at h2
  rw [e] at h2
  simp only [Value.slice.injEq, Option.some.injEq, Addr.mk.injEq] at h2
  exact h2.1.2.1
 subst ho
 have hob : v.ownBlock = some g := by rw [e]; rfl
 obtain ⟨cur, hc⟩ := ht hob
 refine ⟨g, c, cur, e, (hb g hob).1, hc, fun V hV => ?_⟩
 simp only [Nat.zero_add] at p
 have q : ∀ k, V.cell? ⟨g, k, none⟩ = w.cell? ⟨g, k, none⟩ := fun k => World.cell?_of_block hV
 simp only [q]
 exact p
theorem krty_any (s : KS w B a st q O) {k : Nat} (z : SzQ k q) (hk : k <= 1000) (n : ByteArray) (id at' : Int) : Calls Tryz.prog 35 #[.pointer (some ⟨a.h, 0, none⟩), .string n, .int .i64 id, .int .i64 at'] w fun e w' => e = .returned (.int .i64 (rtyE st q n id)) /\ KPost w B a st O (rtyQ st q n id at') w' := by
 obtain ⟨zb, hzb⟩ : ∃ zb, zb = w.heap.size := ⟨_, rfl⟩
 obtain ⟨W1, hW1⟩ : ∃ W1, W1 = w.alloc (.cells #[.int .i64 id] 2) := ⟨_, rfl⟩
 have k1 : Kept w W1 [] := by rw [hW1]; exact (Kept.refl w []).alloc _
 have g1 : W1.heap[zb]? = some (.cells #[.int .i64 id] 2 (0, 0)) := by rw [hW1, hzb]; exact heap_alloc_new w _
 have KB := iH (kbat_any (s.keep k1) z hk n)
 have S := iH s; have S1 := iH (s.keep k1); have K1 := iH k1; have G1 := iH g1; have HW1 := iH hW1; have HZB := iH hzb
 have SB := iH (show (batV st q n).length < 1000000 /\ ∀ e ∈ batV st q n, EvW e from ⟨by have := (z.bat st n).1; omega, (z.bat st n).2⟩)
 have OI := iH z.oki
 obtain ⟨E, hE⟩ : ∃ E, E = batE q n := ⟨_, rfl⟩
 obtain ⟨m, hm⟩ : ∃ m, m = batV st q n := ⟨_, rfl⟩
 have RE : RowKit.Hid (rtyE st q n id = if E = 0 then (match m.find? (fun e => e.id == id) with | some e => adiE q.rs e.id n | none => 4) else E) := iH (by rw [hE, hm]; rfl)
 have RQ : RowKit.Hid (rtyQ st q n id at' = if E = 0 then (match m.find? (fun e => e.id == id) with | some e => { q with rs := adiL q.rs e n at' } | none => q) else q) := iH (by rw [hE, hm]; rfl)
 rw [<- hE, <- hm] at KB
 rw [<- hm] at SB
 clear s k1 g1 hW1 z hk hE hm
 go_enter Tryz.func35, Tryz.ntmps35
 go_upto_region 1 with fail
 rw [<- HW1.out, <- HZB.out]
 clear hzb
 go_wp2_with fail
 refine KB.out.mono ?_
 rintro e w2 ⟨v, rfl, ov, k2⟩
 have K2 := iH k2; have OV := iH ov
 clear k2
 by_cases h0 : E = 0
 ·subst h0
  have PV : PaysV w2 m 100 #[.pointer (some ⟨zb, 0, none⟩)] (fun e => e.id == id) := fun r V hr hV => krty_fn r id zb V (by rw [cell_of_row _ _ _ _ _ _ ((K2.out.trans hV (by simp)).heap (by simp) G1.out)]; rfl)
  have IX := iH (vindex_any ov.rd SB.out.1 _ _ _ (fun args w => by kernel_rfl) PV)
  obtain ⟨IF1, IF2⟩ := idx_find (fun e : Ev => e.id == id) m
  obtain ⟨N, hN⟩ : ∃ N, N = idxB (fun e : Ev => e.id == id) m := ⟨_, rfl⟩
  rw [<- hN] at IX IF1 IF2
  cases hf : m.find? (fun e => e.id == id) with
  | none =>
  have hN1 := IF1 hf
  subst hN1
  have RR : RowKit.Hid (rtyE st q n id = 4 /\ rtyQ st q n id at' = q) := iH (by rw [RE.out, RQ.out, hf]; exact ⟨rfl, rfl⟩)
  clear hf IF1 IF2 PV ov hN
  go_wp2_with fail
  refine IX.out.mono ?_
  rintro e w3 ⟨rfl, k3⟩
  have K3 := iH k3; clear k3
  go_wp2
  go_ret
  obtain ⟨r1, r2⟩ := RR.out
  rw [r1, r2]
  exact ⟨rfl, KPost.same S.out (K1.out.trans (K2.out.trans K3.out (by simp)) (by simp))⟩
  | some x =>
  obtain ⟨i, hi, hx⟩ := IF2 x hf
  subst hi
  have RR : RowKit.Hid (rtyE st q n id = adiE q.rs x.id n /\ rtyQ st q n id at' = { q with rs := adiL q.rs x n at' }) := iH (by rw [RE.out, RQ.out, hf]; exact ⟨rfl, rfl⟩)
  have HT := iH (SB.out.2 x (List.mem_of_getElem? hx)).tr0
  have hil : i < m.length := (List.getElem?_eq_some_iff.1 hx).1
  obtain ⟨g, c, cur, rfl, hbg, hgc, hcel⟩ := ov.hit hx
  have x2 : (i : Int) < (m.length : Int) := by omega
  have x3 : ¬ (i : Int) < 0 := by omega
  have HBG := iH hbg; have HGC := iH hgc; have HCEL := iH hcel; have HIL := iH hil; have SBL := iH (show i < 1000000 by have := SB.out.1; omega)
  clear hf IF1 IF2 PV ov hN hx hbg hgc hcel hil
  go_wp2_with fail
  refine IX.out.mono ?_
  rintro e w3 ⟨rfl, k3⟩
  have K3 := iH (K2.out.trans k3 (by simp)); have GC3 := iH (k3.heap (by simp) HGC.out)
  clear k3
  obtain ⟨b, u, d, xs, kq, mg, e1, e2, rfl⟩ := (S1.out.keep K3.out).ex
  have kd3 : Kept w3 w3.drew [] := (Kept.refl w3 []).drew
  have S3 := iH (And.intro (kd3.heap (by simp) kq.hh) (kd3.heap (by simp) GC3.out))
  have HC3 : RowKit.Hid (∀ V : World, V.heap[g]? = some (.cells cur 50 (0, 0)) -> _) := iH (fun V hV => HCEL.out V (by rw [hV, HGC.out]))
  have TA := iH (tadd_any (kq.keep kd3).rt OI.out x HT.out n at')
  have KQ := iH kq; have MG := iH mg; have E1 := iH e1; have E2 := iH e2; have KD := iH kd3
  have NF : RowKit.Hid (¬ xqR a d g) := iH (fun hk => by have := (S.out.lt g hk).2; have := HBG.out; have := K1.out.size; omega)
  obtain ⟨y0, y1, y2, y3, y4, y5, y6, y7⟩ := x
  simp only [encEv, Ev.cs] at TA HC3
  clear kq mg e1 e2 kd3
  have x4 : i < m.length := HIL.out
  go_upto_region 7 with fail
  refine wp_region_held_drew (S := fun Z => Z.heap[a.h]? = some (.cells (kR a d) quT (0, 0)) /\ Z.heap[g]? = some (.cells cur 50 (0, 0))) (by kernel_rfl) S3.out (fun hJ => ?_)
  refine wx 0 26 (.pointer (some ⟨a.h, 0, none⟩)) rfl hJ ?_
  refine wx 1 27 (.pointer (some ⟨a.h, 0, none⟩)) rfl hJ ?_
  refine wx 2 28 (.pointer (some ⟨a.h, 4, none⟩)) rfl hJ ?_
  refine wx 3 29 (.pointer (some ⟨a.hr, 0, none⟩)) rfl hJ ?_ (hy := fun V hV => by (obtain ⟨q0, q1, q2, q3, q4⟩ := xqY hV.1; clear hV; go_simp))
  refine wx 4 30 (.slice (some ⟨g, 0, none⟩) m.length c) rfl hJ ?_
  refine wx 5 31 (.int .i64 i) rfl hJ ?_
  refine wx 6 32 (.pointer (some ⟨g, i * 8, none⟩)) rfl hJ ?_
  refine wx 7 33 (.agg #[.int .i64 y0, .int .i64 y1, .string y2, .int .i64 y3, .int .i64 y4, .int .u8 y5, .int .i64 y6, .string y7]) rfl hJ ?_ (hy := fun V hV => by (obtain ⟨q0, q1, q2, q3, q4, q5, q6, q7⟩ := HC3.out V hV.2; clear hV; go_simp))
  refine wx 8 34 (.string n) rfl hJ ?_
  refine wx 9 35 (.int .i64 at') rfl hJ ?_
  refine wr1 10 rfl (fun K hK => ?_)
  go_simp
  go_at_call 101
  refine (TA.out).mono ?_
  rintro r w5 ⟨rfl, V9, h1, h3⟩
  obtain ⟨k5, t5⟩ := (KQ.out.keep KD.out).ofRetries h1 h3
  have PP := iH (KPost.of (q := { q with rs := adiL q.rs ⟨y0, y1, y2, y3, y4, y5, y6, y7⟩ n at' }) KQ.out MG.out ⟨k5, t5.afterK KD.out⟩ E1.out E2.out)
  have S5 := iH (And.intro (show w5.heap[a.h]? = some (.cells (kR a d) quT (0, 0)) from k5.hh) (t5.1.heap NF.out S3.out.2))
  obtain ⟨EE, hEE⟩ : ∃ EE, EE = adiE q.rs y0 n := ⟨_, rfl⟩
  rw [<- hEE]
  have HEE := iH hEE
  clear h1 h3 k5 t5 hEE
  go_wp2_with fail
  refine hK.out _ _ S5.out (fun hJ => ?_)
  clear hK K
  refine wx 11 8 (.int .i64 EE) rfl hJ ?_
  refine wd ?_
  clear hJ
  go_wp2
  go_ret
  obtain ⟨r1, r2⟩ := RR.out
  rw [r1, r2]
  obtain ⟨O', p1, p2⟩ := PP.out
  exact ⟨congrArg (fun x => Ending.returned (.int .i64 x)) HEE.out, O', p1, p2.afterK (K1.out.trans K3.out (by simp))⟩
 have hb : (E == 0) = false := by rw [beq_eq_false_iff_ne]; exact h0
 have RR : RowKit.Hid (rtyE st q n id = E /\ rtyQ st q n id at' = q) := iH (by rw [RE.out, RQ.out, if_neg h0, if_neg h0]; exact ⟨rfl, rfl⟩)
 obtain ⟨uu, cc, hv⟩ := ov.shape
 subst hv
 clear h0 ov
 go_wp2
 go_ret
 obtain ⟨r1, r2⟩ := RR.out
 rw [r1, r2]
 exact ⟨rfl, KPost.same S.out (K1.out.trans K2.out (by simp))⟩
end Go.Proofs.YticiofkiffgclaaGreat
