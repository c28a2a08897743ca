/-
  Zrb in one text.
-/
import Derived.Test.YticiofkiffgclaaGreatQu0
import Derived.Test.YticiofkiffgclaaGreatQu33
set_option linter.unusedVariables false
set_option maxHeartbeats 16000000
set_option maxRecDepth 100000
namespace Go.Proofs.YticiofkiffgclaaGreat
open Go.RowKit
variable {w w' : World} {B h m : Nat} {st : List Nat} {q : Qs} {O : Nat -> Prop}
theorem putT_keep {a w : World} (k : Kept a w []) {z : Nat} (hz : a.heap.size <= z) (u0 u1 u2 u3 : Value) : Kept a ((((w.setCell ⟨z, 0, none⟩ u0).setCell ⟨z, 1, none⟩ u1).setCell ⟨z, 2, none⟩ u2).setCell ⟨z, 3, none⟩ u3) [] := xqr k hz [u0, u1, u2, u3]
theorem opn_ok {l : List Cu} {n : ByteArray} {x : Cu} {nx : Int} (hg : getC l n = some x) (h0 : x.op = 0) (h1 : x.la < nx) : opnE l n nx = 0 := by
 rw [opnE, hg]
 show (if 0 < x.op then (7 : Int) else if nx <= x.la then 1 else 0) = 0
 rw [if_neg (by omega), if_neg (by omega)]
theorem daft_any (s : DS w B h m st q O) {k : Nat} (z : SzQ k q) (n : ByteArray) : Calls Tryz.prog 119 #[.pointer (some ⟨h, 0, none⟩), .string n] w fun e w' => ∃ y : Tk, e = .returned (.tuple #[.agg y.cs, .int .i64 (nxtE q n)]) /\ y.pl = nxtP q n /\ RdT w' y.op y.l /\ Kept w w' [] := by
 obtain ⟨zb, hzb⟩ : ∃ zb, zb = w.heap.size := ⟨_, rfl⟩
 obtain ⟨W1, hW1⟩ : ∃ W1, W1 = w.alloc zT4 := ⟨_, rfl⟩
 have k1 : Kept w W1 [] := by rw [hW1]; exact (Kept.refl w []).alloc _
 have g1 : W1.heap[zb]? = some zT4 := by rw [hW1, hzb]; exact heap_alloc_new w _
 obtain ⟨d, v, xs, kq, e0, e1, e2, e3, rfl⟩ := (s.keep k1).ex
 have few := z.ok.okc.few
 have FI := iH (yqp kq.dq.cursors n (by omega))
 have hxs : xs.length <= 1000 := by have := z.ok.okp.size; rw [<- e1, List.length_map] at this; omega
 have AF : RowKit.Hid (∀ (b1 : Int) Z, Kept W1 Z [] -> Calls Tryz.prog 168 #[.pointer (some ⟨h, 5, none⟩), .int .i64 b1] Z (RGetPost Z (aftS q.ps b1))) := iH (fun b1 Z hZ => by rw [<- e1]; exact rkaft_any (kq.dq.keep hZ).ticks hxs b1)
 have KQ := iH kq; have K1 := iH k1; have G1 := iH g1; have HW1 := iH hW1; have HZB := iH hzb
 have OP0 := iH z.ok.okc.op0
 clear s k1 g1 hW1 z kq e0 e1 e2 e3 hxs
 cases hp : plc q.cs n with
 | none =>
 have hg := xq0 hp
 have RR : RowKit.Hid (nxtP q n = zeroP /\ nxtE q n = 4) := iH (by simp [nxtP, nxtE, nxtO, hg])
 have hf : fnd q.cs n = -1 := by unfold fnd; rw [hp]
 rw [hf] at FI
 clear hp hg hf
 go_enter Tryz.func119, Tryz.ntmps119
 go_upto_region 1 with fail
 rw [<- HW1.out, <- HZB.out]
 clear hzb
 go_wp2_with fail
 refine FI.out.mono ?_
 rintro e wx ⟨rfl, hw⟩
 have hw2 := hw.symm; clear hw; subst hw2
 obtain ⟨x0, x1, x2, x3⟩ := xqc G1.out
 obtain ⟨f0, f1, f2, f3⟩ := xqf G1.out
 go_wp2
 refine bodyPost_ret (v := .tuple #[.agg #[.int .i64 0, .int .i64 0, .slice none 0 0, .int .i64 0], .int .i64 4]) (by simp [results, Tryz.results119, go_sem, *]) rfl ?_
 obtain ⟨r1, r2⟩ := RR.out
 rw [r1, r2]
 exact ⟨Tk.zero, rfl, rfl, RdT.nil _, putT_keep K1.out (by rw [HZB.out]; exact Nat.le_refl _) _ _ _ _⟩
 | some i =>
 obtain ⟨x, hx, hxn⟩ := xqV hp
 have hg := yql hp hx
 have hil : i < q.cs.length := (List.getElem?_eq_some_iff.1 hx).1
 have hf : fnd q.cs n = i := by unfold fnd; rw [hp]
 rw [hf] at FI
 have op0 := OP0.out x (List.mem_of_getElem? hx)
 obtain ⟨u, c, hv⟩ := KQ.out.dq.cu.shape
 have hat := KQ.out.dq.cu
 rw [hv] at hat
 obtain ⟨g, rfl, hc⟩ := hat.at hx
 have c7 : W1.cell? ⟨h, 7, none⟩ = some (.slice (some ⟨g, 0, none⟩) q.cs.length c) := by rw [<- hv]; exact (KQ.out.dq.cell (i := 7) rfl).1
 obtain ⟨b0, b1, b2⟩ := x
 have q1 : W1.cell? ⟨g, i * 3 + 1, none⟩ = some (.int .i64 b1) := (hc 1 (by decide)).1
 have q2 : W1.cell? ⟨g, i * 3 + 2, none⟩ = some (.int .i64 b2) := (hc 2 (by decide)).1
 have x2 : (i : Int) < (q.cs.length : Int) := by omega
 have x3' : ¬ (i : Int) < 0 := by omega
 have HG := iH hg
 simp only at op0
 clear hp hx hxn hg hf hv hat hc
 go_enter Tryz.func119, Tryz.ntmps119
 go_upto_region 1 with fail
 rw [<- HW1.out, <- HZB.out]
 clear hzb
 go_wp2_with fail
 refine FI.out.mono ?_
 rintro e wx ⟨rfl, hw⟩
 have hw2 := hw.symm; clear hw; subst hw2
 by_cases h2 : 0 < b2
 ·have RR : RowKit.Hid (nxtP q n = zeroP /\ nxtE q n = 7) := iH (by simp [nxtP, nxtE, nxtO, HG.out, h2])
  obtain ⟨x0, x1, x2', x3⟩ := xqc G1.out
  obtain ⟨f0, f1, f2, f3⟩ := xqf G1.out
  go_wp2
  refine bodyPost_ret (v := .tuple #[.agg #[.int .i64 0, .int .i64 0, .slice none 0 0, .int .i64 0], .int .i64 7]) (by simp [results, Tryz.results119, go_sem, *]) rfl ?_
  obtain ⟨r1, r2⟩ := RR.out
  rw [r1, r2]
  exact ⟨Tk.zero, rfl, rfl, RdT.nil _, putT_keep K1.out (by rw [HZB.out]; exact Nat.le_refl _) _ _ _ _⟩
 have HN2 := iH h2
 have CF : RowKit.Hid (∀ Z, Kept W1 Z [] -> Z.cell? ⟨h, 7, none⟩ = some (.slice (some ⟨g, 0, none⟩) q.cs.length c) /\ Z.cell? ⟨g, i * 3 + 1, none⟩ = some (.int .i64 b1)) := iH (fun Z hZ => ⟨hZ.cell (by simp) c7, hZ.cell (by simp) q1⟩)
 have AF1 := iH (fun Z hZ => AF.out b1 Z hZ)
 obtain ⟨ob2, ho2⟩ : ∃ ob2, ob2 = (aftS q.ps b1).isSome := ⟨_, rfl⟩
 have HOa := iH ho2
 clear ho2
 go_upto_region 6 with fail
 go_cut [7, 8] (fun sb so wx => ∃ (w6 : World) (zt : Nat) (y0 y1 : Int) (y2 : Option Addr) (y3 : Nat) (y4 : List Int) (y5 : Int), w6 = wx /\ sb = .pointer (some ⟨zt, 0, none⟩) /\ so = .bool ob2 /\ RowKit.Hid (Kept W1 w6 []) /\ RowKit.Hid (w6.heap[zt]? = some (.cells #[.int .i64 y0, .int .i64 y1, .slice y2 y4.length y3, .int .i64 y5] 38 (0, 0))) /\ RowKit.Hid (RdT w6 (.slice y2 y4.length y3) y4) /\ RowKit.Hid (W1.heap.size <= zt) /\ RowKit.Hid ((⟨y0, y1, y4, y5⟩ : Pt) = (aftS q.ps b1).getD ⟨0, 0, [], 0⟩))
 case first =>
  refine wp_region_held_drew (S := fun Z => Kept W1 Z []) (by kernel_rfl) (Kept.refl W1 []).drew (fun hJ => ?_)
  refine wx 0 29 (.pointer (some ⟨h, 0, none⟩)) rfl hJ ?_
  refine wx 1 30 (.pointer (some ⟨h, 0, none⟩)) rfl hJ ?_
  refine wx 2 31 (.pointer (some ⟨h, 5, none⟩)) rfl hJ ?_
  refine wx 3 32 (.pointer (some ⟨h, 0, none⟩)) rfl hJ ?_
  refine wx 4 33 (.pointer (some ⟨h, 0, none⟩)) rfl hJ ?_
  refine wx 5 34 (.pointer (some ⟨h, 7, none⟩)) rfl hJ ?_
  refine wx 6 35 (.pointer (some ⟨h, 7, none⟩)) rfl hJ ?_
  refine wx 7 36 (.slice (some ⟨g, 0, none⟩) q.cs.length c) rfl hJ ?_ (hy := fun V hV => by (have q0 := (CF.out V hV).1; clear hV; go_simp))
  refine wx 8 37 (.int .i64 i) rfl hJ ?_
  refine wx 9 38 (.pointer (some ⟨g, i * 3, none⟩)) rfl hJ ?_
  refine wx 10 39 (.pointer (some ⟨g, i * 3 + 1, none⟩)) rfl hJ ?_
  refine wx 11 40 (.int .i64 b1) rfl hJ ?_ (hy := fun V hV => by (have q0 := (CF.out V hV).2; clear hV; go_simp))
  refine wpAnyH_ready (rs := [12, 16]) (by kernel_rfl) (by simp) ?_
  refine (AllReadyH.cons (o := _) rfl (fun K hK => ?_) (AllReadyH.cons (o := _) rfl (fun K hK => ?_) AllReadyH.nil))
  ·go_simp
   go_at_call 168
   refine (AF1.out _ ((Kept.refl W1 []).drew)).mono ?_
   rintro r wa ⟨y, rfl, hpl, hry, ka⟩
   obtain ⟨y0, y1, y2, y3, y4, y5⟩ := y
   simp only [Tk.cs, Tk.op] at *
   have KA := iH (((Kept.refl W1 []).drew).trans ka (by simp)); have HRY := iH hry; have HPL := iH hpl
   rw [<- HOa.out]
   clear hpl hry ka
   go_wp2_with fail
   refine hK.out _ _ KA.out (fun hJ => ?_)
   clear hK K
   refine wx 13 28 (.tuple #[.agg #[.int .i64 y0, .int .i64 y1, .slice y2 y4.length y3, .int .i64 y5], .bool ob2]) rfl hJ ?_
   refine wx 14 42 (.agg #[.int .i64 y0, .int .i64 y1, .slice y2 y4.length y3, .int .i64 y5]) rfl hJ ?_
   refine wx 15 43 (.bool ob2) rfl hJ ?_
   refine wr1 16 rfl (fun K hK => ?_)
   go_simp
   refine hK.out _ _ (KA.out.alloc zT4) (fun hJ => ?_)
   clear hK K
   obtain ⟨zt, hzt⟩ : ∃ zt, zt = wa.heap.size := ⟨_, rfl⟩
   obtain ⟨w5, hw5⟩ : ∃ w5, w5 = wa.alloc zT4 := ⟨_, rfl⟩
   have k5 : Kept wa w5 [] := by rw [hw5]; exact (Kept.refl wa []).alloc zT4
   have G5 := iH (show w5.heap[zt]? = some zT4 by rw [hw5, hzt]; exact heap_alloc_new wa _)
   rw [<- hw5, <- hzt]
   have K5 := iH (KA.out.trans k5 (by simp)); have HR5 := iH (HRY.out.keep k5)
   have HZT := iH (show W1.heap.size <= zt by rw [hzt]; exact KA.out.size)
   clear hw5 hzt k5
   have hJ := K5.out
   obtain ⟨w6, hw6⟩ : ∃ w6, w6 = xqo w5 zt 0 [.int .i64 y0, .int .i64 y1, .slice y2 y4.length y3, .int .i64 y5] := ⟨_, rfl⟩
   have k6 : Kept W1 w6 [] := by rw [hw6]; exact xqr K5.out HZT.out _
   have K6 := iH k6; have HW6 := iH hw6
   have G6 := iH (show w6.heap[zt]? = some (.cells #[.int .i64 y0, .int .i64 y1, .slice y2 y4.length y3, .int .i64 y5] 38 (0, 0)) by rw [hw6]; exact xqH G5.out rfl)
   have HR6 := iH (HR5.out.fo (show Fo (fun k => k = zt) w5 w6 by rw [hw6]; exact xqu (O := fun k => k = zt) _ w5 0 (Fo.refl _ w5) (.inl rfl)) (xqK G5.out (by decide)))
   obtain ⟨x0, x1, x2, x3⟩ := xqc G5.out
   obtain ⟨f0, f1, f2, f3⟩ := xqf G5.out
   clear k6 hw6
   refine wr1 17 rfl (fun K hK => ?_)
   go_simp
   refine hK.out _ (xqo w5 zt 0 [.int .i64 y0, .int .i64 y1, .slice y2 y4.length y3, .int .i64 y5]) (by rw [<- HW6.out]; exact K6.out) (fun hJ => ?_)
   clear hK K
   rw [<- HW6.out] at hJ ⊢
   clear x0 x1 x2 x3 f0 f1 f2 f3
   refine wx 18 8 (.bool ob2) rfl hJ ?_
   refine wd ?_
   clear hJ
   go_wp2_with fail
   go_meet
   exact ⟨w6, zt, y0, y1, y2, y3, y4, y5, rfl, rfl, rfl, K6, G6, HR6, HZT, HPL⟩
  go_simp
  refine hK.out _ _ (((Kept.refl W1 []).drew).alloc zT4) (fun hJ => ?_)
  clear hK K
  obtain ⟨zt, hzt⟩ : ∃ zt, zt = W1.heap.size := ⟨_, rfl⟩
  obtain ⟨w4, hw4⟩ : ∃ w4, w4 = (W1.alloc zT4).drew := ⟨_, rfl⟩
  have K4 := iH (show Kept W1 w4 [] by rw [hw4]; exact ((Kept.refl W1 []).alloc zT4).drew)
  have G4 := iH (show w4.heap[zt]? = some zT4 by rw [hw4, hzt]; exact heap_alloc_new W1 _)
  have HZT := iH (show W1.heap.size <= zt by rw [hzt]; exact Nat.le_refl _)
  have hJ := K4.out
  rw [<- hw4, <- hzt]
  clear hw4 hzt
  refine wr1 12 rfl (fun K hK => ?_)
  go_simp
  go_at_call 168
  refine (AF1.out _ (K4.out)).mono ?_
  rintro r wa ⟨y, rfl, hpl, hry, ka⟩
  obtain ⟨y0, y1, y2, y3, y4, y5⟩ := y
  simp only [Tk.cs, Tk.op] at *
  have KA := iH ((K4.out).trans ka (by simp)); have HRY := iH hry; have HPL := iH hpl
  rw [<- HOa.out]
  have G5 := iH (ka.heap (by simp) G4.out)
  clear hpl hry ka
  go_wp2_with fail
  refine hK.out _ _ KA.out (fun hJ => ?_)
  clear hK K
  obtain ⟨w5, hw5⟩ : ∃ w5, w5 = wa := ⟨_, rfl⟩
  subst hw5
  have K5 := KA; have HR5 := HRY
  obtain ⟨w6, hw6⟩ : ∃ w6, w6 = xqo w5 zt 0 [.int .i64 y0, .int .i64 y1, .slice y2 y4.length y3, .int .i64 y5] := ⟨_, rfl⟩
  have k6 : Kept W1 w6 [] := by rw [hw6]; exact xqr K5.out HZT.out _
  have K6 := iH k6; have HW6 := iH hw6
  have G6 := iH (show w6.heap[zt]? = some (.cells #[.int .i64 y0, .int .i64 y1, .slice y2 y4.length y3, .int .i64 y5] 38 (0, 0)) by rw [hw6]; exact xqH G5.out rfl)
  have HR6 := iH (HR5.out.fo (show Fo (fun k => k = zt) w5 w6 by rw [hw6]; exact xqu (O := fun k => k = zt) _ w5 0 (Fo.refl _ w5) (.inl rfl)) (xqK G5.out (by decide)))
  obtain ⟨x0, x1, x2, x3⟩ := xqc G5.out
  obtain ⟨f0, f1, f2, f3⟩ := xqf G5.out
  clear k6 hw6
  refine wx 13 28 (.tuple #[.agg #[.int .i64 y0, .int .i64 y1, .slice y2 y4.length y3, .int .i64 y5], .bool ob2]) rfl hJ ?_
  refine wx 14 42 (.agg #[.int .i64 y0, .int .i64 y1, .slice y2 y4.length y3, .int .i64 y5]) rfl hJ ?_
  refine wx 15 43 (.bool ob2) rfl hJ ?_
  refine wr1 17 rfl (fun K hK => ?_)
  go_simp
  refine hK.out _ (xqo w5 zt 0 [.int .i64 y0, .int .i64 y1, .slice y2 y4.length y3, .int .i64 y5]) (by rw [<- HW6.out]; exact K6.out) (fun hJ => ?_)
  clear hK K
  rw [<- HW6.out] at hJ ⊢
  clear x0 x1 x2 x3 f0 f1 f2 f3
  refine wx 18 8 (.bool ob2) rfl hJ ?_
  refine wd ?_
  clear hJ
  go_wp2_with fail
  go_meet
  exact ⟨w6, zt, y0, y1, y2, y3, y4, y5, rfl, rfl, rfl, K6, G6, HR6, HZT, HPL⟩
 case' rest => obtain ⟨w6, zt, y0, y1, y2, y3, y4, y5, rfl, rfl, rfl, K6, G6, HR6, HZT, HPL⟩ := hcut
 clear c7 q1 q2
 cases hs : aftS q.ps b1 with
 | none =>
 have RR : RowKit.Hid (nxtP q n = zeroP /\ nxtE q n = 9) := iH (by simp [nxtP, nxtE, nxtO, HG.out, HN2.out, hs])
 have hob : ob2 = false := by rw [HOa.out, hs]; rfl
 subst hob
 clear hs
 obtain ⟨x0, x1, x2', x3⟩ := xqc (K6.out.heap (by simp) G1.out)
 obtain ⟨f0, f1, f2, f3⟩ := xqf (K6.out.heap (by simp) G1.out)
 go_wp2
 refine bodyPost_ret (v := .tuple #[.agg #[.int .i64 0, .int .i64 0, .slice none 0 0, .int .i64 0], .int .i64 9]) (by simp [results, Tryz.results119, go_sem, *]) rfl ?_
 obtain ⟨r1, r2⟩ := RR.out
 rw [r1, r2]
 exact ⟨Tk.zero, rfl, rfl, RdT.nil _, putT_keep (K1.out.trans K6.out (by simp)) (by rw [HZB.out]; exact Nat.le_refl _) _ _ _ _⟩
 | some p =>
 have hob : ob2 = true := by rw [HOa.out, hs]; rfl
 subst hob
 have hp : (⟨y0, y1, y4, y5⟩ : Pt) = p := by have := HPL.out; rw [hs] at this; exact this
 have RR : RowKit.Hid (nxtP q n = ⟨y0, y1, y4, y5⟩ /\ nxtE q n = 0) := iH (by
  subst hp
  have hn : ¬ 0 < b2 := by (have := HN2.out; omega)
  simp [nxtP, nxtE, nxtO, HG.out, if_neg hn, hs])
 have GB := iH (K6.out.heap (by simp) G1.out)
 have NE : zt ≠ zb := by have := HZT.out; have := xqh G1.out; omega
 clear hs hp
 obtain ⟨x0, x1, x2', x3⟩ := xqc G6.out
 obtain ⟨v0, v1, v2, v3⟩ := xqc GB.out
 obtain ⟨f0, f1, f2, f3⟩ := xqf GB.out
 go_wp2
 refine bodyPost_ret (v := .tuple #[.agg #[.int .i64 y0, .int .i64 y1, .slice y2 y4.length y3, .int .i64 y5], .int .i64 0]) (by simp [results, Tryz.results119, go_sem, *]) rfl ?_
 obtain ⟨r1, r2⟩ := RR.out
 rw [r1, r2]
 have f7 : Fo (fun k => k = zb) w6 (xqo w6 zb 0 [.int .i64 y0, .int .i64 y1, .slice y2 y4.length y3, .int .i64 y5]) := xqu (O := fun k => k = zb) _ w6 0 (Fo.refl _ w6) (.inl rfl)
 exact ⟨⟨y0, y1, y2, y3, y4, y5⟩, rfl, rfl, HR6.out.fo f7 (xqK GB.out (by decide)), putT_keep (K1.out.trans K6.out (by simp)) (by rw [HZB.out]; exact Nat.le_refl _) _ _ _ _⟩
theorem dopn_any (s : DS w B h m st q O) {k : Nat} (z : SzQ k q) (n : ByteArray) : Calls Tryz.prog 60 #[.pointer (some ⟨h, 0, none⟩), .string n] w (DkPost w B h m st O (nxtP q n) (nxtE q n) (nxtQ q n)) := by
 obtain ⟨zb, hzb⟩ : ∃ zb, zb = w.heap.size := ⟨_, rfl⟩
 obtain ⟨W1, hW1⟩ : ∃ W1, W1 = w.alloc zT4 := ⟨_, rfl⟩
 have k1 : Kept w W1 [] := by rw [hW1]; exact (Kept.refl w []).alloc _
 have g1 : W1.heap[zb]? = some zT4 := by rw [hW1, hzb]; exact heap_alloc_new w _
 have zW1 : W1.heap.size = zb + 1 := by rw [hW1, hzb]; simp
 have AF := iH (daft_any (s.keep k1) z n)
 have S := iH s; have S1 := iH (s.keep k1)
 have OC := iH z.ok.okc
 obtain ⟨E, hE⟩ : ∃ E, E = nxtE q n := ⟨_, rfl⟩
 rw [<- hE] at AF
 have HE := iH hE
 have K1 := iH k1; have G1 := iH g1; have HW1 := iH hW1; have HZB := iH hzb; have ZW1 := iH zW1
 clear s k1 g1 hW1 z hE zW1
 go_enter Tryz.func60, Tryz.ntmps60
 go_upto_region 1 with fail
 rw [<- HW1.out, <- HZB.out]
 clear hzb
 go_wp2_with fail
 refine AF.out.mono ?_
 rintro e w2 ⟨y, rfl, hpl, hry, k2⟩
 obtain ⟨y0, y1, y2, y3, y4, y5⟩ := y
 simp only [Tk.cs, Tk.op] at *
 have K2 := iH k2; have HPL := iH hpl; have HRY := iH hry
 clear k2 hpl hry
 obtain ⟨zt, hzt⟩ : ∃ zt, zt = w2.heap.size := ⟨_, rfl⟩
 obtain ⟨w3, hw3⟩ : ∃ w3, w3 = w2.alloc (.cells #[.int .i64 y0, .int .i64 y1, .slice y2 y4.length y3, .int .i64 y5] 38) := ⟨_, rfl⟩
 have k3 : Kept w2 w3 [] := by rw [hw3]; exact (Kept.refl w2 []).alloc _
 have G3 := iH (show w3.heap[zt]? = some (.cells #[.int .i64 y0, .int .i64 y1, .slice y2 y4.length y3, .int .i64 y5] 38 (0, 0)) by rw [hw3, hzt]; exact heap_alloc_new w2 _)
 have K3 := iH (K2.out.trans k3 (by simp)); have HR3 := iH (HRY.out.keep k3); have GB := iH (K3.out.heap (by simp) G1.out)
 have HZT := iH (show W1.heap.size <= zt by rw [hzt]; exact K2.out.size)
 have NE : zt ≠ zb := by have := HZT.out; have := ZW1.out; omega
 have HW3 := iH hw3; have HZTW := iH hzt
 clear k3 hw3 hzt
 go_upto_region 2 with fail
 rw [<- HW3.out, <- HZTW.out]
 by_cases h0 : E = 0
 ·subst h0
  obtain ⟨p, hp⟩ : ∃ p, nxtO q n = some p := by
   have h := HE.out
   cases hg : getC q.cs n with
   | none => simp [nxtE, hg] at h
   | some x =>
   by_cases hx : 0 < x.op
   ·simp [nxtE, hg, hx] at h
   cases hs : aftS q.ps x.la with
   | none => simp [nxtE, hg, hx, hs] at h
   | some p => exact ⟨p, by simp [nxtO, hg, hx, hs]⟩
  have HP := iH hp
  have hq : (⟨y0, y1, y4, y5⟩ : Pt) = p := by have := HPL.out; rw [nxtP, hp] at this; exact this
  have hy : p.n = y0 := by rw [<- hq]
  have NQ : RowKit.Hid (nxtQ q n = { q with cs := opnL q.cs n y0 } /\ opnE q.cs n y0 = 0) := iH (by
   constructor
   ·unfold nxtQ; rw [hp, <- hy]
   ·have h := hp
    unfold nxtO at h
    cases hg : getC q.cs n with
    | none => rw [hg] at h; cases h
    | some x =>
    rw [hg] at h
    by_cases hx : 0 < x.op
    ·simp [hx] at h
    simp only [hx, if_false] at h
    have hx0 := OC.out.op0 x (getC_mem hg)
    refine opn_ok hg (by omega) ?_
    rw [<- hy]
    exact (aftS_mem h).2)
  obtain ⟨d, v, xs, kq, e0, e1, e2, e3, rfl⟩ := (S1.out.keep K3.out).ex
  have kd : Kept w3 w3.drew [] := (Kept.refl w3 []).drew
  have OPN := iH (ropn_any (kq.dq.keep kd).cursors OC.out n y0)
  rw [NQ.out.2] at OPN
  have KQ := iH kq; have E0 := iH e0; have E1 := iH e1; have E2 := iH e2; have E3 := iH e3; have KD := iH kd
  have S3 := iH (kd.heap (by simp) G3.out)
  have NT : RowKit.Hid (¬ xqI h d zt /\ ¬ xqI h d zb) := iH ⟨fun hk => by have := (S.out.lt zt hk).2; have := HZT.out; have := K1.out.size; omega, fun hk => by have := (S.out.lt zb hk).2; have := HZB.out; omega⟩
  clear hp hq hy kq e0 e1 e2 e3 kd
  go_upto_region 3 with fail
  refine wp_region_held_drew (S := fun Z => Z.heap[zt]? = some (.cells #[.int .i64 y0, .int .i64 y1, .slice y2 y4.length y3, .int .i64 y5] 38 (0, 0))) (by kernel_rfl) S3.out (fun hJ => ?_)
  refine wx 0 16 (.pointer (some ⟨h, 0, none⟩)) rfl hJ ?_
  refine wx 1 17 (.pointer (some ⟨h, 0, none⟩)) rfl hJ ?_
  refine wx 2 18 (.pointer (some ⟨h, 7, none⟩)) rfl hJ ?_
  refine wx 3 19 (.string n) rfl hJ ?_
  refine wx 4 20 (.pointer (some ⟨zt, 0, none⟩)) rfl hJ ?_
  refine wx 5 21 (.int .i64 y0) rfl hJ ?_ (hy := fun V hV => by (obtain ⟨q0, q1, q2, q3⟩ := xqc hV; clear hV; go_simp))
  refine wr1 6 rfl (fun K hK => ?_)
  go_simp
  go_at_call 120
  refine (OPN.out).mono ?_
  rintro r w9 ⟨rfl, V9, h1, h3⟩
  obtain ⟨k9, t9⟩ := (KQ.out.dq.keep KD.out).ofCursors h1 h3
  have S9 := iH (t9.1.heap NT.out.1 S3.out)
  have PP9 := iH (DPost.of (q := { q with cs := opnL q.cs n y0 }) KQ.out ⟨k9, t9.afterK KD.out⟩ rfl E0.out E1.out E2.out E3.out)
  have GB9 := iH (t9.1.heap NT.out.2 (KD.out.heap (by simp) GB.out))
  have HR9 := iH ((HR3.out.keep KD.out).fo t9.1 (KQ.out.dq.keep KD.out).noI)
  clear h1 h3 k9 t9
  go_wp2_with fail
  refine hK.out _ _ S9.out (fun hJ => ?_)
  clear hK K
  refine wx 7 7 (.int .i64 0) rfl hJ ?_
  refine wd ?_
  clear hJ
  obtain ⟨x0, x1, x2', x3⟩ := xqc S9.out
  obtain ⟨v0, v1, v2, v3⟩ := xqc GB9.out
  obtain ⟨f0, f1, f2, f3⟩ := xqf GB9.out
  go_wp2
  refine bodyPost_ret (v := .tuple #[.agg #[.int .i64 y0, .int .i64 y1, .slice y2 y4.length y3, .int .i64 y5], .int .i64 0]) (by simp [results, Tryz.results60, go_sem, *]) rfl ?_
  have f7 : Fo (fun k => k = zb) w9 (xqo w9 zb 0 [.int .i64 y0, .int .i64 y1, .slice y2 y4.length y3, .int .i64 y5]) := xqu (O := fun k => k = zb) _ w9 0 (Fo.refl _ w9) (.inl rfl)
  rw [NQ.out.1]
  refine ⟨⟨y0, y1, y2, y3, y4, y5⟩, congrArg (fun x => Ending.returned (.tuple #[.agg #[.int .i64 y0, .int .i64 y1, .slice y2 y4.length y3, .int .i64 y5], .int .i64 x])) HE.out, HPL.out, HR9.out.fo f7 (xqK GB9.out (by decide)), DPost.boxed S.out K1.out (DPost.pre K3.out PP9.out) GB9.out (by decide) (by decide) (by rw [HZB.out]; omega) (by have := ZW1.out; omega) f7⟩
 have hb : (E == 0) = false := by rw [beq_eq_false_iff_ne]; exact h0
 have NQ : RowKit.Hid (nxtQ q n = q) := iH (by
  unfold nxtQ
  cases hp : nxtO q n with
  | none => rfl
  | some p =>
   exfalso
   have h := hp
   unfold nxtO at h
   cases hg : getC q.cs n with
   | none => rw [hg] at h; cases h
   | some x =>
   rw [hg] at h
   by_cases hx : 0 < x.op
   ·simp [hx] at h
   simp only [hx, if_false] at h
   exact h0 (by rw [HE.out]; simp [nxtE, hg, hx, h]))
 clear h0
 obtain ⟨x0, x1, x2', x3⟩ := xqc G3.out
 obtain ⟨v0, v1, v2, v3⟩ := xqc GB.out
 obtain ⟨f0, f1, f2, f3⟩ := xqf GB.out
 go_wp2
 refine bodyPost_ret (v := .tuple #[.agg #[.int .i64 y0, .int .i64 y1, .slice y2 y4.length y3, .int .i64 y5], .int .i64 E]) (by simp [results, Tryz.results60, go_sem, *]) rfl ?_
 have f7 : Fo (fun k => k = zb) w3 (xqo w3 zb 0 [.int .i64 y0, .int .i64 y1, .slice y2 y4.length y3, .int .i64 y5]) := xqu (O := fun k => k = zb) _ w3 0 (Fo.refl _ w3) (.inl rfl)
 rw [NQ.out]
 exact ⟨⟨y0, y1, y2, y3, y4, y5⟩, congrArg (fun x => Ending.returned (.tuple #[.agg #[.int .i64 y0, .int .i64 y1, .slice y2 y4.length y3, .int .i64 y5], .int .i64 x])) HE.out, HPL.out, HR3.out.fo f7 (xqK GB.out (by decide)), DPost.same S.out (putT_keep (K1.out.trans K3.out (by simp)) (by rw [HZB.out]; exact Nat.le_refl _) _ _ _ _)⟩
end Go.Proofs.YticiofkiffgclaaGreat
