/-
  Zrc in one text.
-/
import Derived.Test.YticiofkiffgclaaGreatQu0
import Derived.Test.YticiofkiffgclaaGreatQu34
set_option linter.unusedVariables false
set_option maxHeartbeats 16000000
set_option maxRecDepth 100000
namespace Go.Proofs.YticiofkiffgclaaGreat
open Go.RowKit
variable {w w' : World} {B h m : Nat} {st : List Nat} {q : Qs} {O : Nat -> Prop}
theorem dbat_any (s : DS w B h m st q O) {k : Nat} (z : SzQ k q) (hk : k <= 1000) (n : ByteArray) : Calls Tryz.prog 61 #[.pointer (some ⟨h, 0, none⟩), .string n] w fun e w' => ∃ v', e = .returned (.tuple #[v', .int .i64 (batE q n)]) /\ OwnE w' w.heap.size 50 v' (batV st q n) /\ Kept w w' [] := by
 have MAN := iH (fun (Z : World) (hZ : Kept w Z []) => (s.keep hZ).rman)
 have C0 := iH (fun (Z : World) (hZ : Kept w Z []) => (s.keep hZ).cells.1)
 obtain ⟨d, v, xs, kq, e0, e1, e2, e3, rfl⟩ := s.ex
 have few := z.ok.okc.few
 have FI := iH (yqp kq.dq.cursors n (by omega))
 have hxs : xs.length <= 1000 := by have := z.ok.okp.size; rw [<- e1, List.length_map] at this; omega
 have AF : RowKit.Hid (∀ (b1 : Int) Z, Kept w Z [] -> Calls Tryz.prog 33 #[.pointer (some ⟨h, 5, none⟩), .int .i64 b1] Z (RGetPost Z (getS q.ps b1))) := iH (fun b1 Z hZ => by rw [<- e1]; exact rkget_any (kq.dq.keep hZ).ticks hxs b1)
 have AL := iH (fun (Z : World) (hZ : Kept w Z []) => rall_any (kq.dq.keep hZ).spools (z.tabs hk) (by rw [pre_lenN]; have := z.len; omega))
 have SA := iH (show (allE q).length < 1000000 from by have := z.all.1; omega)
 have KQ := iH kq
 clear s z hk kq e0 e1 e2 e3 hxs
 cases hp : plc q.cs n with
 | none =>
 have hg := xq0 hp
 have RR : RowKit.Hid (batE q n = 4 /\ batV st q n = []) := iH (by simp [batE, batV, hg])
 have hf : fnd q.cs n = -1 := by unfold fnd; rw [hp]
 rw [hf] at FI
 clear hp hg hf
 go_enter Tryz.func61, Tryz.ntmps61
 go_wp2_with fail
 refine FI.out.mono ?_
 rintro e wx ⟨rfl, hw⟩
 have hw2 := hw.symm; clear hw; subst hw2
 go_wp2
 refine bodyPost_ret (v := .tuple #[.slice none 0 0, .int .i64 4]) (by simp [results, Tryz.results61, go_sem]) rfl ?_
 obtain ⟨r1, r2⟩ := RR.out
 rw [r1, r2]
 exact ⟨_, rfl, OwnE.nil _ _ _, Kept.refl _ _⟩
 | some i =>
 obtain ⟨x, hx, hxn⟩ := xqV hp
 have hg := yql hp hx
 have hil : i < q.cs.length := (List.getElem?_eq_some_iff.1 hx).1
 have hf : fnd q.cs n = i := by unfold fnd; rw [hp]
 rw [hf] at FI
 obtain ⟨u, c, hv⟩ := KQ.out.dq.cu.shape
 have hat := KQ.out.dq.cu
 rw [hv] at hat
 obtain ⟨g, rfl, hc⟩ := hat.at hx
 have c7 : w.cell? ⟨h, 7, none⟩ = some (.slice (some ⟨g, 0, none⟩) q.cs.length c) := by rw [<- hv]; exact (KQ.out.dq.cell (i := 7) rfl).1
 obtain ⟨b0, b1, b2⟩ := x
 have q0 : w.cell? ⟨g, i * 3, none⟩ = some (.string b0) := (hc 0 (by decide)).1
 have q1 : w.cell? ⟨g, i * 3 + 1, none⟩ = some (.int .i64 b1) := (hc 1 (by decide)).1
 have q2 : w.cell? ⟨g, i * 3 + 2, none⟩ = some (.int .i64 b2) := (hc 2 (by decide)).1
 have x2 : (i : Int) < (q.cs.length : Int) := by omega
 have x3' : ¬ (i : Int) < 0 := by omega
 have HG := iH hg
 clear hp hx hxn hg hf hv hat hc
 obtain ⟨zc, hzc⟩ : ∃ zc, zc = w.heap.size := ⟨_, rfl⟩
 obtain ⟨W3, hW3⟩ : ∃ W3, W3 = w.alloc (.cells #[.string b0, .int .i64 b1, .int .i64 b2] rcE) := ⟨_, rfl⟩
 have k3 : Kept w W3 [] := by rw [hW3]; exact (Kept.refl w []).alloc _
 have K3 := iH k3
 have G3 := iH (show W3.heap[zc]? = some (.cells #[.string b0, .int .i64 b1, .int .i64 b2] rcE (0, 0)) by rw [hW3, hzc]; exact heap_alloc_new w _)
 have HW3 := iH hW3; have HZC := iH hzc
 clear k3 hW3 hzc
 go_enter Tryz.func61, Tryz.ntmps61
 go_wp2_with fail
 refine FI.out.mono ?_
 rintro e wx ⟨rfl, hw⟩
 have hw2 := hw.symm; clear hw; subst hw2
 go_upto_region 5 with fail
 rw [<- HW3.out, <- HZC.out]
 clear c7 q0 q1 q2
 have p2 : W3.cell? ⟨zc, 2, none⟩ = some (.int .i64 b2) := by rw [cell_of_row _ _ _ _ _ _ G3.out]; rfl
 by_cases h2 : b2 = 0
 ·subst h2
  have RR : RowKit.Hid (batE q n = 7 /\ batV st q n = []) := iH (by simp [batE, batV, HG.out])
  go_wp2
  refine bodyPost_ret (v := .tuple #[.slice none 0 0, .int .i64 7]) (by simp [results, Tryz.results61, go_sem]) rfl ?_
  obtain ⟨r1, r2⟩ := RR.out
  rw [r1, r2]
  exact ⟨_, rfl, OwnE.nil _ _ _, K3.out⟩
 have RR : RowKit.Hid (batE q n = 0 /\ batV st q n = srt byId ((allE q).filter (told st (tckP q b1).M (tckP q b1).l (tckP q b2).M (tckP q b2).l n))) := iH (by simp [batE, batV, HG.out, h2])
 have hb : (b2 == 0) = false := by rw [beq_eq_false_iff_ne]; exact h2
 have CF : RowKit.Hid (∀ Z, Kept W3 Z [] -> Z.cell? ⟨zc, 1, none⟩ = some (.int .i64 b1) /\ Z.cell? ⟨zc, 2, none⟩ = some (.int .i64 b2)) := iH (fun Z hZ => ⟨by rw [cell_of_row _ _ _ _ _ _ (hZ.heap (by simp) G3.out)]; rfl, by rw [cell_of_row _ _ _ _ _ _ (hZ.heap (by simp) G3.out)]; rfl⟩)
 have AF1 := iH (fun Z (hZ : Kept W3 Z []) => AF.out b1 Z (K3.out.trans hZ (by simp)))
 clear h2
 obtain ⟨ob1, ho2⟩ : ∃ ob2, ob2 = (getS q.ps b1).isSome := ⟨_, rfl⟩
 have HOa := iH ho2
 clear ho2
 go_upto_region 7 with fail
 go_cut [8, 9] (fun sb so wx => ∃ (wq : World) (zt : Nat) (y0 y1 : Int) (y2 : Option Addr) (y3 : Nat) (y4 : List Int) (y5 : Int), wq = wx /\ sb = .pointer (some ⟨zt, 0, none⟩) /\ so = .bool ob1 /\ RowKit.Hid (Kept W3 wq []) /\ RowKit.Hid (wq.heap[zt]? = some (.cells #[.int .i64 y0, .int .i64 y1, .slice y2 y4.length y3, .int .i64 y5] 38 (0, 0))) /\ RowKit.Hid (RdT wq (.slice y2 y4.length y3) y4) /\ RowKit.Hid (W3.heap.size <= zt) /\ RowKit.Hid ((⟨y0, y1, y4, y5⟩ : Pt) = (getS q.ps b1).getD ⟨0, 0, [], 0⟩))
 case first =>
  refine wp_region_held_drew (S := fun Z => Kept W3 Z []) (by kernel_rfl) (Kept.refl W3 []).drew (fun hJ => ?_)
  refine wx 0 31 (.pointer (some ⟨h, 0, none⟩)) rfl hJ ?_
  refine wx 1 32 (.pointer (some ⟨h, 0, none⟩)) rfl hJ ?_
  refine wx 2 33 (.pointer (some ⟨h, 5, none⟩)) rfl hJ ?_
  refine wx 3 34 (.pointer (some ⟨zc, 1, none⟩)) rfl hJ ?_
  refine wx 4 35 (.int .i64 b1) rfl hJ ?_ (hy := fun V hV => by (have q0 := (CF.out V hV).1; clear hV; go_simp))
  refine wpAnyH_ready (rs := [5, 9]) (by kernel_rfl) (by simp) ?_
  refine (AllReadyH.cons (o := _) rfl (fun K hK => ?_) (AllReadyH.cons (o := _) rfl (fun K hK => ?_) AllReadyH.nil))
  ·go_simp
   go_at_call 33
   refine (AF1.out _ ((Kept.refl W3 []).drew)).mono ?_
   rintro r wa ⟨y, rfl, hpl, hry, ka⟩
   obtain ⟨y0, y1, y2, y3, y4, y5⟩ := y
   simp only [Tk.cs, Tk.op] at *
   have KA := iH (((Kept.refl W3 []).drew).trans ka (by simp)); have HRY := iH hry; have HPL := iH hpl
   rw [<- HOa.out]
   clear hpl hry ka
   go_wp2_with fail
   refine hK.out _ _ KA.out (fun hJ => ?_)
   clear hK K
   refine wx 6 30 (.tuple #[.agg #[.int .i64 y0, .int .i64 y1, .slice y2 y4.length y3, .int .i64 y5], .bool ob1]) rfl hJ ?_
   refine wx 7 37 (.agg #[.int .i64 y0, .int .i64 y1, .slice y2 y4.length y3, .int .i64 y5]) rfl hJ ?_
   refine wx 8 38 (.bool ob1) rfl hJ ?_
   refine wr1 9 rfl (fun K hK => ?_)
   go_simp
   refine hK.out _ _ (KA.out.alloc zT4) (fun hJ => ?_)
   clear hK K
   obtain ⟨zt, hzt⟩ : ∃ zt, zt = wa.heap.size := ⟨_, rfl⟩
   obtain ⟨w5, hw5⟩ : ∃ w5, w5 = wa.alloc zT4 := ⟨_, rfl⟩
   have k5 : Kept wa w5 [] := by rw [hw5]; exact (Kept.refl wa []).alloc zT4
   have G5 := iH (show w5.heap[zt]? = some zT4 by rw [hw5, hzt]; exact heap_alloc_new wa _)
   rw [<- hw5, <- hzt]
   have K5 := iH (KA.out.trans k5 (by simp)); have HR5 := iH (HRY.out.keep k5)
   have HZT := iH (show W3.heap.size <= zt by rw [hzt]; exact KA.out.size)
   clear hw5 hzt k5
   have hJ := K5.out
   obtain ⟨wq, hwq⟩ : ∃ wq, wq = xqo w5 zt 0 [.int .i64 y0, .int .i64 y1, .slice y2 y4.length y3, .int .i64 y5] := ⟨_, rfl⟩
   have k6 : Kept W3 wq [] := by rw [hwq]; exact xqr K5.out HZT.out _
   have K6 := iH k6; have HW6 := iH hwq
   have G6 := iH (show wq.heap[zt]? = some (.cells #[.int .i64 y0, .int .i64 y1, .slice y2 y4.length y3, .int .i64 y5] 38 (0, 0)) by rw [hwq]; exact xqH G5.out rfl)
   have HR6 := iH (HR5.out.fo (show Fo (fun k => k = zt) w5 wq by rw [hwq]; exact xqu (O := fun k => k = zt) _ w5 0 (Fo.refl _ w5) (.inl rfl)) (xqK G5.out (by decide)))
   obtain ⟨x0, x1, x2, x3⟩ := xqc G5.out
   obtain ⟨f0, f1, f2, f3⟩ := xqf G5.out
   clear k6 hwq
   refine wr1 10 rfl (fun K hK => ?_)
   go_simp
   refine hK.out _ (xqo w5 zt 0 [.int .i64 y0, .int .i64 y1, .slice y2 y4.length y3, .int .i64 y5]) (by rw [<- HW6.out]; exact K6.out) (fun hJ => ?_)
   clear hK K
   rw [<- HW6.out] at hJ ⊢
   clear x0 x1 x2 x3 f0 f1 f2 f3
   refine wx 11 9 (.bool ob1) rfl hJ ?_
   refine wd ?_
   clear hJ
   go_wp2_with fail
   go_meet
   exact ⟨wq, zt, y0, y1, y2, y3, y4, y5, rfl, rfl, rfl, K6, G6, HR6, HZT, HPL⟩
  go_simp
  refine hK.out _ _ (((Kept.refl W3 []).drew).alloc zT4) (fun hJ => ?_)
  clear hK K
  obtain ⟨zt, hzt⟩ : ∃ zt, zt = W3.heap.size := ⟨_, rfl⟩
  obtain ⟨w4, hw4⟩ : ∃ w4, w4 = (W3.alloc zT4).drew := ⟨_, rfl⟩
  have K4 := iH (show Kept W3 w4 [] by rw [hw4]; exact ((Kept.refl W3 []).alloc zT4).drew)
  have G4 := iH (show w4.heap[zt]? = some zT4 by rw [hw4, hzt]; exact heap_alloc_new W3 _)
  have HZT := iH (show W3.heap.size <= zt by rw [hzt]; exact Nat.le_refl _)
  have hJ := K4.out
  rw [<- hw4, <- hzt]
  clear hw4 hzt
  refine wr1 5 rfl (fun K hK => ?_)
  go_simp
  go_at_call 33
  refine (AF1.out _ (K4.out)).mono ?_
  rintro r wa ⟨y, rfl, hpl, hry, ka⟩
  obtain ⟨y0, y1, y2, y3, y4, y5⟩ := y
  simp only [Tk.cs, Tk.op] at *
  have KA := iH ((K4.out).trans ka (by simp)); have HRY := iH hry; have HPL := iH hpl
  rw [<- HOa.out]
  have G5 := iH (ka.heap (by simp) G4.out)
  clear hpl hry ka
  go_wp2_with fail
  refine hK.out _ _ KA.out (fun hJ => ?_)
  clear hK K
  obtain ⟨w5, hw5⟩ : ∃ w5, w5 = wa := ⟨_, rfl⟩
  subst hw5
  have K5 := KA; have HR5 := HRY
  obtain ⟨wq, hwq⟩ : ∃ wq, wq = xqo w5 zt 0 [.int .i64 y0, .int .i64 y1, .slice y2 y4.length y3, .int .i64 y5] := ⟨_, rfl⟩
  have k6 : Kept W3 wq [] := by rw [hwq]; exact xqr K5.out HZT.out _
  have K6 := iH k6; have HW6 := iH hwq
  have G6 := iH (show wq.heap[zt]? = some (.cells #[.int .i64 y0, .int .i64 y1, .slice y2 y4.length y3, .int .i64 y5] 38 (0, 0)) by rw [hwq]; exact xqH G5.out rfl)
  have HR6 := iH (HR5.out.fo (show Fo (fun k => k = zt) w5 wq by rw [hwq]; exact xqu (O := fun k => k = zt) _ w5 0 (Fo.refl _ w5) (.inl rfl)) (xqK G5.out (by decide)))
  obtain ⟨x0, x1, x2, x3⟩ := xqc G5.out
  obtain ⟨f0, f1, f2, f3⟩ := xqf G5.out
  clear k6 hwq
  refine wx 6 30 (.tuple #[.agg #[.int .i64 y0, .int .i64 y1, .slice y2 y4.length y3, .int .i64 y5], .bool ob1]) rfl hJ ?_
  refine wx 7 37 (.agg #[.int .i64 y0, .int .i64 y1, .slice y2 y4.length y3, .int .i64 y5]) rfl hJ ?_
  refine wx 8 38 (.bool ob1) rfl hJ ?_
  refine wr1 10 rfl (fun K hK => ?_)
  go_simp
  refine hK.out _ (xqo w5 zt 0 [.int .i64 y0, .int .i64 y1, .slice y2 y4.length y3, .int .i64 y5]) (by rw [<- HW6.out]; exact K6.out) (fun hJ => ?_)
  clear hK K
  rw [<- HW6.out] at hJ ⊢
  clear x0 x1 x2 x3 f0 f1 f2 f3
  refine wx 11 9 (.bool ob1) rfl hJ ?_
  refine wd ?_
  clear hJ
  go_wp2_with fail
  go_meet
  exact ⟨wq, zt, y0, y1, y2, y3, y4, y5, rfl, rfl, rfl, K6, G6, HR6, HZT, HPL⟩
 case' rest => obtain ⟨w6, zt, y0, y1, y2, y3, y4, y5, rfl, rfl, rfl, K6, G6, HR6, HZT, HPL⟩ := hcut
 clear p2
 have AF2 := iH (fun Z (hZ : Kept w6 Z []) => AF.out b2 Z (K3.out.trans (K6.out.trans hZ (by simp)) (by simp)))
 have CF2 : RowKit.Hid (∀ Z, Kept w6 Z [] -> Z.cell? ⟨zc, 2, none⟩ = some (.int .i64 b2)) := iH (fun Z hZ => (CF.out Z (K6.out.trans hZ (by simp))).2)
 obtain ⟨ob2, ho2⟩ : ∃ ob2, ob2 = (getS q.ps b2).isSome := ⟨_, rfl⟩
 have HOb := iH ho2
 clear ho2
 go_upto_region 8 with fail
 go_cut [10, 11] (fun sb so wx => ∃ (wq : World) (zt : Nat) (r0 r1 : Int) (r2 : Option Addr) (r3 : Nat) (r4 : List Int) (r5 : Int), wq = wx /\ sb = .pointer (some ⟨zt, 0, none⟩) /\ so = .bool ob2 /\ RowKit.Hid (Kept w6 wq []) /\ RowKit.Hid (wq.heap[zt]? = some (.cells #[.int .i64 r0, .int .i64 r1, .slice r2 r4.length r3, .int .i64 r5] 38 (0, 0))) /\ RowKit.Hid (RdT wq (.slice r2 r4.length r3) r4) /\ RowKit.Hid (w6.heap.size <= zt) /\ RowKit.Hid ((⟨r0, r1, r4, r5⟩ : Pt) = (getS q.ps b2).getD ⟨0, 0, [], 0⟩))
 case first =>
  refine wp_region_held_drew (S := fun Z => Kept w6 Z []) (by kernel_rfl) (Kept.refl w6 []).drew (fun hJ => ?_)
  refine wx 0 40 (.pointer (some ⟨h, 0, none⟩)) rfl hJ ?_
  refine wx 1 41 (.pointer (some ⟨h, 0, none⟩)) rfl hJ ?_
  refine wx 2 42 (.pointer (some ⟨h, 5, none⟩)) rfl hJ ?_
  refine wx 3 43 (.pointer (some ⟨zc, 2, none⟩)) rfl hJ ?_
  refine wx 4 44 (.int .i64 b2) rfl hJ ?_ (hy := fun V hV => by (have q0 := CF2.out V hV; clear hV; go_simp))
  refine wpAnyH_ready (rs := [5, 9]) (by kernel_rfl) (by simp) ?_
  refine (AllReadyH.cons (o := _) rfl (fun K hK => ?_) (AllReadyH.cons (o := _) rfl (fun K hK => ?_) AllReadyH.nil))
  ·go_simp
   go_at_call 33
   refine (AF2.out _ ((Kept.refl w6 []).drew)).mono ?_
   rintro r wa ⟨y, rfl, hpl, hry, ka⟩
   obtain ⟨r0, r1, r2, r3, r4, r5⟩ := y
   simp only [Tk.cs, Tk.op] at *
   have KA := iH (((Kept.refl w6 []).drew).trans ka (by simp)); have HRY := iH hry; have HPL := iH hpl
   rw [<- HOb.out]
   clear hpl hry ka
   go_wp2_with fail
   refine hK.out _ _ KA.out (fun hJ => ?_)
   clear hK K
   refine wx 6 39 (.tuple #[.agg #[.int .i64 r0, .int .i64 r1, .slice r2 r4.length r3, .int .i64 r5], .bool ob2]) rfl hJ ?_
   refine wx 7 46 (.agg #[.int .i64 r0, .int .i64 r1, .slice r2 r4.length r3, .int .i64 r5]) rfl hJ ?_
   refine wx 8 47 (.bool ob2) rfl hJ ?_
   refine wr1 9 rfl (fun K hK => ?_)
   go_simp
   refine hK.out _ _ (KA.out.alloc zT4) (fun hJ => ?_)
   clear hK K
   obtain ⟨zt, hzt⟩ : ∃ zt, zt = wa.heap.size := ⟨_, rfl⟩
   obtain ⟨w5, hw5⟩ : ∃ w5, w5 = wa.alloc zT4 := ⟨_, rfl⟩
   have k5 : Kept wa w5 [] := by rw [hw5]; exact (Kept.refl wa []).alloc zT4
   have G5 := iH (show w5.heap[zt]? = some zT4 by rw [hw5, hzt]; exact heap_alloc_new wa _)
   rw [<- hw5, <- hzt]
   have K5 := iH (KA.out.trans k5 (by simp)); have HR5 := iH (HRY.out.keep k5)
   have HZT := iH (show w6.heap.size <= zt by rw [hzt]; exact KA.out.size)
   clear hw5 hzt k5
   have hJ := K5.out
   obtain ⟨wq, hwq⟩ : ∃ wq, wq = xqo w5 zt 0 [.int .i64 r0, .int .i64 r1, .slice r2 r4.length r3, .int .i64 r5] := ⟨_, rfl⟩
   have k6 : Kept w6 wq [] := by rw [hwq]; exact xqr K5.out HZT.out _
   have K6 := iH k6; have HW6 := iH hwq
   have G6 := iH (show wq.heap[zt]? = some (.cells #[.int .i64 r0, .int .i64 r1, .slice r2 r4.length r3, .int .i64 r5] 38 (0, 0)) by rw [hwq]; exact xqH G5.out rfl)
   have HR6 := iH (HR5.out.fo (show Fo (fun k => k = zt) w5 wq by rw [hwq]; exact xqu (O := fun k => k = zt) _ w5 0 (Fo.refl _ w5) (.inl rfl)) (xqK G5.out (by decide)))
   obtain ⟨x0, x1, x2, x3⟩ := xqc G5.out
   obtain ⟨f0, f1, f2, f3⟩ := xqf G5.out
   clear k6 hwq
   refine wr1 10 rfl (fun K hK => ?_)
   go_simp
   refine hK.out _ (xqo w5 zt 0 [.int .i64 r0, .int .i64 r1, .slice r2 r4.length r3, .int .i64 r5]) (by rw [<- HW6.out]; exact K6.out) (fun hJ => ?_)
   clear hK K
   rw [<- HW6.out] at hJ ⊢
   clear x0 x1 x2 x3 f0 f1 f2 f3
   refine wx 11 11 (.bool ob2) rfl hJ ?_
   refine wd ?_
   clear hJ
   go_wp2_with fail
   go_meet
   exact ⟨wq, zt, r0, r1, r2, r3, r4, r5, rfl, rfl, rfl, K6, G6, HR6, HZT, HPL⟩
  go_simp
  refine hK.out _ _ (((Kept.refl w6 []).drew).alloc zT4) (fun hJ => ?_)
  clear hK K
  obtain ⟨zt, hzt⟩ : ∃ zt, zt = w6.heap.size := ⟨_, rfl⟩
  obtain ⟨w4, hw4⟩ : ∃ w4, w4 = (w6.alloc zT4).drew := ⟨_, rfl⟩
  have K4 := iH (show Kept w6 w4 [] by rw [hw4]; exact ((Kept.refl w6 []).alloc zT4).drew)
  have G4 := iH (show w4.heap[zt]? = some zT4 by rw [hw4, hzt]; exact heap_alloc_new w6 _)
  have HZT := iH (show w6.heap.size <= zt by rw [hzt]; exact Nat.le_refl _)
  have hJ := K4.out
  rw [<- hw4, <- hzt]
  clear hw4 hzt
  refine wr1 5 rfl (fun K hK => ?_)
  go_simp
  go_at_call 33
  refine (AF2.out _ (K4.out)).mono ?_
  rintro r wa ⟨y, rfl, hpl, hry, ka⟩
  obtain ⟨r0, r1, r2, r3, r4, r5⟩ := y
  simp only [Tk.cs, Tk.op] at *
  have KA := iH ((K4.out).trans ka (by simp)); have HRY := iH hry; have HPL := iH hpl
  rw [<- HOb.out]
  have G5 := iH (ka.heap (by simp) G4.out)
  clear hpl hry ka
  go_wp2_with fail
  refine hK.out _ _ KA.out (fun hJ => ?_)
  clear hK K
  obtain ⟨w5, hw5⟩ : ∃ w5, w5 = wa := ⟨_, rfl⟩
  subst hw5
  have K5 := KA; have HR5 := HRY
  obtain ⟨wq, hwq⟩ : ∃ wq, wq = xqo w5 zt 0 [.int .i64 r0, .int .i64 r1, .slice r2 r4.length r3, .int .i64 r5] := ⟨_, rfl⟩
  have k6 : Kept w6 wq [] := by rw [hwq]; exact xqr K5.out HZT.out _
  have K6 := iH k6; have HW6 := iH hwq
  have G6 := iH (show wq.heap[zt]? = some (.cells #[.int .i64 r0, .int .i64 r1, .slice r2 r4.length r3, .int .i64 r5] 38 (0, 0)) by rw [hwq]; exact xqH G5.out rfl)
  have HR6 := iH (HR5.out.fo (show Fo (fun k => k = zt) w5 wq by rw [hwq]; exact xqu (O := fun k => k = zt) _ w5 0 (Fo.refl _ w5) (.inl rfl)) (xqK G5.out (by decide)))
  obtain ⟨x0, x1, x2, x3⟩ := xqc G5.out
  obtain ⟨f0, f1, f2, f3⟩ := xqf G5.out
  clear k6 hwq
  refine wx 6 39 (.tuple #[.agg #[.int .i64 r0, .int .i64 r1, .slice r2 r4.length r3, .int .i64 r5], .bool ob2]) rfl hJ ?_
  refine wx 7 46 (.agg #[.int .i64 r0, .int .i64 r1, .slice r2 r4.length r3, .int .i64 r5]) rfl hJ ?_
  refine wx 8 47 (.bool ob2) rfl hJ ?_
  refine wr1 10 rfl (fun K hK => ?_)
  go_simp
  refine hK.out _ (xqo w5 zt 0 [.int .i64 r0, .int .i64 r1, .slice r2 r4.length r3, .int .i64 r5]) (by rw [<- HW6.out]; exact K6.out) (fun hJ => ?_)
  clear hK K
  rw [<- HW6.out] at hJ ⊢
  clear x0 x1 x2 x3 f0 f1 f2 f3
  refine wx 11 11 (.bool ob2) rfl hJ ?_
  refine wd ?_
  clear hJ
  go_wp2_with fail
  go_meet
  exact ⟨wq, zt, r0, r1, r2, r3, r4, r5, rfl, rfl, rfl, K6, G6, HR6, HZT, HPL⟩
 case' rest => obtain ⟨w7, zu, r0, r1, r2, r3, r4, r5, rfl, rfl, rfl, K7, G7, HR7, HZU, HPL7⟩ := hcut
 have KW := iH (K3.out.trans (K6.out.trans K7.out (by simp)) (by simp))
 have GT := iH (K7.out.heap (by simp) G6.out)
 have RA := iH (HR6.out.keep K7.out)
 have PE : RowKit.Hid (batV st q n = srt byId ((allE q).filter (told st y1 y4 r1 r4 n)) /\ batE q n = 0) := iH (by
  have h1 : tckP q b1 = ⟨y0, y1, y4, y5⟩ := by rw [HPL.out]; rfl
  have h2 : tckP q b2 = ⟨r0, r1, r4, r5⟩ := by rw [HPL7.out]; rfl
  rw [RR.out.2, h1, h2]
  exact ⟨rfl, RR.out.1⟩)
 have LF : RowKit.Hid (∀ Z, Kept w7 Z [] -> Z.cell? ⟨h, 0, none⟩ = some (.pointer (some ⟨m, 0, none⟩)) /\ Z.heap[zt]? = some (.cells #[.int .i64 y0, .int .i64 y1, .slice y2 y4.length y3, .int .i64 y5] 38 (0, 0)) /\ Z.heap[zu]? = some (.cells #[.int .i64 r0, .int .i64 r1, .slice r2 r4.length r3, .int .i64 r5] 38 (0, 0))) := iH (fun Z hZ => ⟨C0.out Z (KW.out.trans hZ (by simp)), hZ.heap (by simp) GT.out, hZ.heap (by simp) G7.out⟩)
 go_upto_region 9 with fail
 refine wp_region_held_drew (S := fun Z => Kept w7 Z []) (by kernel_rfl) (Kept.refl w7 []).drew (fun hJ => ?_)
 refine wx 0 48 (.pointer (some ⟨h, 0, none⟩)) rfl hJ ?_
 refine wx 1 49 (.pointer (some ⟨h, 0, none⟩)) rfl hJ ?_
 refine wx 2 50 (.pointer (some ⟨h, 1, none⟩)) rfl hJ ?_
 refine wx 4 52 (.pointer (some ⟨h, 0, none⟩)) rfl hJ ?_
 refine wx 5 53 (.pointer (some ⟨h, 0, none⟩)) rfl hJ ?_
 refine wx 6 54 (.pointer (some ⟨h, 0, none⟩)) rfl hJ ?_
 refine wx 7 55 (.pointer (some ⟨m, 0, none⟩)) rfl hJ ?_ (hy := fun V hV => by (have q0 := (LF.out V hV).1; clear hV; go_simp))
 refine wx 8 56 (.pointer (some ⟨zt, 1, none⟩)) rfl hJ ?_
 refine wx 9 57 (.agg #[.int .i64 y1, .slice y2 y4.length y3]) rfl hJ ?_ (hy := fun V hV => by (obtain ⟨q0, q1, q2, q3⟩ := xqc (LF.out V hV).2.1; clear hV; go_simp))
 refine wx 10 58 (.pointer (some ⟨zu, 1, none⟩)) rfl hJ ?_
 refine wx 11 59 (.agg #[.int .i64 r1, .slice r2 r4.length r3]) rfl hJ ?_ (hy := fun V hV => by (obtain ⟨q0, q1, q2, q3⟩ := xqc (LF.out V hV).2.2; clear hV; go_simp))
 refine wx 12 60 (.string n) rfl hJ ?_
 refine wr1 3 rfl (fun K hK => ?_)
 go_simp
 go_at_call 71
 refine (AL.out _ (KW.out.trans ((Kept.refl w7 []).drew) (by simp))).mono ?_
 rintro r wa ⟨v1, rfl, o1, ka⟩
 have KA := iH ((Kept.refl w7 []).drew.trans ka (by simp)); have O1 := iH o1
 have BO := iH (rof_any (A := y1) (B := r1) n o1.rd SA.out (MAN.out wa (KW.out.trans KA.out (by simp))) (RA.out.keep KA.out).1 (HR7.out.keep KA.out).1)
 clear o1 ka
 go_wp2_with fail
 refine hK.out _ _ KA.out (fun hJ => ?_)
 clear hK K
 refine wr1 13 rfl (fun K hK => ?_)
 go_simp
 go_at_call 122
 refine (BO.out).mono ?_
 rintro r wdd ⟨v5, rfl, o5, kd⟩
 have KD := iH (KA.out.trans kd (by simp)); have OB := iH o5
 clear o5 kd
 go_wp2_with fail
 refine hK.out _ _ KD.out (fun hJ => ?_)
 clear hK K
 refine wx 14 4 (v5) rfl hJ ?_
 refine wx 15 5 (.int .i64 0) rfl hJ ?_
 refine wd ?_
 clear hJ
 go_wp2
 refine bodyPost_ret (v := .tuple #[v5, .int .i64 0]) (by simp [results, Tryz.results61, go_sem]) rfl ?_
 rw [PE.out.1, PE.out.2]
 exact ⟨_, rfl, OB.out.mono (KW.out.trans KA.out (by simp)).size, KW.out.trans KD.out (by simp)⟩
def evZ : Ev := ⟨0, 0, ⟨#[]⟩, 0, 0, 0, 0, ⟨#[]⟩⟩
def agE (st : List Nat) (q : Qs) (n : ByteArray) (id : Int) : Int := if batE q n = 0 then (if (agnO st q n id).isSome then 0 else 4) else batE q n
def agV (st : List Nat) (q : Qs) (n : ByteArray) (id : Int) : Ev := if batE q n = 0 then (agnO st q n id).getD evZ else evZ
theorem find_hit {α : Type} {P : α -> Bool} {l : List α} {k : Nat} {r : α} (hr : l[k]? = some r) (hp : P r = true) (hb : ∀ j s, j < k -> l[j]? = some s -> P s = false) : l.find? P = some r := by
 obtain ⟨hk, e⟩ := List.getElem?_eq_some_iff.1 hr
 rw [List.find?_eq_some_iff_getElem]
 refine ⟨hp, k, hk, e, fun j hj => ?_⟩
 have := hb j l[j] hj (List.getElem?_eq_getElem _)
 simpa using this
theorem find_miss {α : Type} {P : α -> Bool} {l : List α} (hb : ∀ j s, j < l.length -> l[j]? = some s -> P s = false) : l.find? P = none := by
 rw [List.find?_eq_none]
 intro x hx
 obtain ⟨j, hj, e⟩ := List.mem_iff_getElem.1 hx
 have := hb j x hj (by rw [List.getElem?_eq_getElem hj, e])
 simp [this]
theorem put8_keep {a w : World} (k : Kept a w []) {z : Nat} (hz : a.heap.size <= z) (u0 u1 u2 u3 u4 u5 u6 u7 : Value) : Kept a ((((((((w.setCell ⟨z, 0, none⟩ u0).setCell ⟨z, 1, none⟩ u1).setCell ⟨z, 2, none⟩ u2).setCell ⟨z, 3, none⟩ u3).setCell ⟨z, 4, none⟩ u4).setCell ⟨z, 5, none⟩ u5).setCell ⟨z, 6, none⟩ u6).setCell ⟨z, 7, none⟩ u7) [] := xqr k hz [u0, u1, u2, u3, u4, u5, u6, u7]
theorem dagn_any (s : DS w B h m st q O) {k : Nat} (z : SzQ k q) (hk : k <= 1000) (n : ByteArray) (id : Int) : Calls Tryz.prog 124 #[.pointer (some ⟨h, 0, none⟩), .string n, .int .i64 id] w fun e w' => e = .returned (.tuple #[.agg (agV st q n id).cs, .int .i64 (agE st q n id)]) /\ Kept w w' [] := by
 obtain ⟨zb, hzb⟩ : ∃ zb, zb = w.heap.size := ⟨_, rfl⟩
 obtain ⟨W1, hW1⟩ : ∃ W1, W1 = w.alloc zE8 := ⟨_, rfl⟩
 have k1 : Kept w W1 [] := by rw [hW1]; exact (Kept.refl w []).alloc _
 have g1 : W1.heap[zb]? = some zE8 := by rw [hW1, hzb]; exact heap_alloc_new w _
 have zW1 : W1.heap.size = zb + 1 := by rw [hW1, hzb]; simp
 have KB := iH (dbat_any (s.keep k1) z hk n)
 have SB := iH (show (batV st q n).length < 1000000 from by have := (z.bat st n).1; omega)
 obtain ⟨E, hE⟩ : ∃ E, E = batE q n := ⟨_, rfl⟩
 obtain ⟨l, hl⟩ : ∃ l, l = batV st q n := ⟨_, rfl⟩
 have AE : RowKit.Hid (agE st q n id = if E = 0 then (if (l.find? (fun e => e.id == id)).isSome then 0 else 4) else E) := iH (by rw [hE, hl]; rfl)
 have AV : RowKit.Hid (agV st q n id = if E = 0 then (l.find? (fun e => e.id == id)).getD evZ else evZ) := iH (by rw [hE, hl]; rfl)
 rw [<- hE, <- hl] at KB
 rw [<- hl] at SB
 have K1 := iH k1; have G1 := iH g1; have HW1 := iH hW1; have HZB := iH hzb; have ZW1 := iH zW1
 clear s k1 g1 hW1 z hk hE hl zW1
 go_enter Tryz.func124, Tryz.ntmps124
 go_upto_region 1 with fail
 rw [<- HW1.out, <- HZB.out]
 clear hzb
 go_wp2_with fail
 refine KB.out.mono ?_
 rintro e w2 ⟨v, rfl, ov, k2⟩
 have K2 := iH k2; have OV := iH ov; have G2 := iH (k2.heap (by simp) G1.out)
 obtain ⟨u, c, hv⟩ := ov.shape
 subst hv
 clear k2 ov
 by_cases h0 : E = 0
 ·subst h0
  obtain ⟨N, hN⟩ : ∃ N, N = l.length := ⟨_, rfl⟩
  have HN := iH hN
  rw [<- hN] at OV
  have sb : N < 1000000 := by rw [hN]; exact SB.out
  rw [<- hN]
  clear hN
  go_wp2
  go_loopw [10] (fun s10 wr => ∃ k : Nat, s10 = .int .i64 k /\ k <= N /\ RowKit.Hid (∀ (j : Nat) (s : Ev), j < k -> l[j]? = some s -> (s.id == id) = false) /\ w2 = wr) (fun s10 _ => N - (intOf s10).toNat)
  case atStart => exact ⟨0, rfl, Nat.zero_le _, iH (fun j s hj => absurd hj (Nat.not_lt_zero _)), rfl⟩
  case round =>
  obtain ⟨k, rfl, hk, HB, rfl⟩ := hrel
  by_cases hlt : k < N
  ·have x1 : (k : Int) < (N : Int) := by omega
   obtain ⟨e, he⟩ : ∃ e, l[k]? = some e := ⟨_, List.getElem?_eq_getElem (by rw [<- HN.out]; exact hlt)⟩
   have ov := OV.out
   rw [show (Value.slice u N c) = .slice u l.length c by rw [HN.out]] at ov
   obtain ⟨g, c', cur, hv, hge, hgc, hcel⟩ := ov.hit he
   simp only [Value.slice.injEq] at hv
   obtain ⟨rfl, -, -⟩ := hv
   obtain ⟨p0, p1, p2, p3, p4, p5, p6, p7⟩ := hcel w2 rfl
   have HE := iH he
   have NG : g ≠ zb := fun e => by have := HZB.out; have := ZW1.out; omega
   clear ov he hgc hcel hge
   obtain ⟨y0, y1, y2, y3, y4, y5, y6, y7⟩ := e
   simp only at p0 p1 p2 p3 p4 p5 p6 p7
   by_cases hid : y0 = id
   ·subst hid
    have RR : RowKit.Hid (agV st q n y0 = ⟨y0, y1, y2, y3, y4, y5, y6, y7⟩ /\ agE st q n y0 = 0) := iH (by
     rw [AV.out, AE.out, find_hit HE.out (by simp) HB.out]; simp)
    obtain ⟨x0, x1', x2, x3, x4, x5, x6, x7⟩ := xqm G2.out
    obtain ⟨f0, f1, f2, f3, f4, f5, f6, f7⟩ := yqr G2.out
    have hbt : (y0 == y0) = true := by simp
    go_wp2
    refine bodyPost_ret (v := .tuple #[.agg #[.int .i64 y0, .int .i64 y1, .string y2, .int .i64 y3, .int .i64 y4, .int .u8 y5, .int .i64 y6, .string y7], .int .i64 0]) (by simp [results, Tryz.results124, go_sem, *]) rfl ?_
    obtain ⟨r1, r2⟩ := RR.out
    rw [r1, r2]
    exact ⟨rfl, put8_keep (K1.out.trans K2.out (by simp)) (by rw [HZB.out]; exact Nat.le_refl _) _ _ _ _ _ _ _ _⟩
   have hbf : (y0 == id) = false := by rw [beq_eq_false_iff_ne]; exact hid
   have HB2 : RowKit.Hid (∀ (j : Nat) (s : Ev), j < k + 1 -> l[j]? = some s -> (s.id == id) = false) := iH (fun j s hj hs => by
    by_cases ej : j = k
    ·subst ej; rw [HE.out] at hs; cases hs; exact hbf
    ·exact HB.out j s (by omega) hs)
   clear hid
   go_wp2
   go_roundw
   case rel => exact ⟨k + 1, by go_num, by omega, HB2, trivial⟩
   case measure => simp [intOf]; omega
  have x1 : ¬ (k : Int) < (N : Int) := by omega
  have RR : RowKit.Hid (agV st q n id = evZ /\ agE st q n id = 4) := iH (by
   rw [AV.out, AE.out, find_miss (fun j s hj hs => HB.out j s (by rw [<- HN.out] at hj; omega) hs)]; simp)
  obtain ⟨x0, x1', x2, x3, x4, x5, x6, x7⟩ := xqm G2.out
  obtain ⟨f0, f1, f2, f3, f4, f5, f6, f7⟩ := yqr G2.out
  go_wp2
  refine bodyPost_ret (v := .tuple #[.agg #[.int .i64 0, .int .i64 0, .string ⟨#[]⟩, .int .i64 0, .int .i64 0, .int .u8 0, .int .i64 0, .string ⟨#[]⟩], .int .i64 4]) (by simp [results, Tryz.results124, go_sem, *]) rfl ?_
  obtain ⟨r1, r2⟩ := RR.out
  rw [r1, r2]
  exact ⟨rfl, put8_keep (K1.out.trans K2.out (by simp)) (by rw [HZB.out]; exact Nat.le_refl _) _ _ _ _ _ _ _ _⟩
 have hb : (E == 0) = false := by rw [beq_eq_false_iff_ne]; exact h0
 have RR : RowKit.Hid (agV st q n id = evZ /\ agE st q n id = E) := iH (by rw [AV.out, AE.out, if_neg h0, if_neg h0]; exact ⟨rfl, rfl⟩)
 obtain ⟨x0, x1', x2, x3, x4, x5, x6, x7⟩ := xqm G2.out
 obtain ⟨f0, f1, f2, f3, f4, f5, f6, f7⟩ := yqr G2.out
 clear h0
 go_wp2
 refine bodyPost_ret (v := .tuple #[.agg #[.int .i64 0, .int .i64 0, .string ⟨#[]⟩, .int .i64 0, .int .i64 0, .int .u8 0, .int .i64 0, .string ⟨#[]⟩], .int .i64 E]) (by simp [results, Tryz.results124, go_sem, *]) rfl ?_
 obtain ⟨r1, r2⟩ := RR.out
 rw [r1, r2]
 exact ⟨rfl, put8_keep (K1.out.trans K2.out (by simp)) (by rw [HZB.out]; exact Nat.le_refl _) _ _ _ _ _ _ _ _⟩
theorem drty_any (s : DS w B h m st q O) {k : Nat} (z : SzQ k q) (hk : k <= 1000) (n : ByteArray) (id at' : Int) : Calls Tryz.prog 64 #[.pointer (some ⟨h, 0, none⟩), .string n, .int .i64 id, .int .i64 at'] w fun e w' => e = .returned (.int .i64 (rtyE st q n id)) /\ DPost w B h m st O (rtyQ st q n id at') w' := by
 have AG := iH (dagn_any s z hk n id)
 have S := iH s
 have OI := iH z.oki
 obtain ⟨E, hE⟩ : ∃ E, E = agE st q n id := ⟨_, rfl⟩
 obtain ⟨x, hx⟩ : ∃ x, x = agV st q n id := ⟨_, rfl⟩
 rw [<- hE, <- hx] at AG
 have X1 : RowKit.Hid (E ≠ 0 -> rtyE st q n id = E /\ rtyQ st q n id at' = q) := iH (fun h => by
  rw [hE] at h ⊢
  unfold agE rtyE rtyQ at *
  by_cases hb : batE q n = 0
  ·rw [if_pos hb] at h ⊢
   rw [if_pos hb, if_pos hb]
   cases ha : agnO st q n id with
   | none => exact ⟨rfl, rfl⟩
   | some e => rw [ha] at h; exact absurd rfl h
  ·rw [if_neg hb, if_neg hb, if_neg hb]; exact ⟨rfl, rfl⟩)
 have X2 : RowKit.Hid (E = 0 -> EvW x /\ rtyE st q n id = adiE q.rs x.id n /\ rtyQ st q n id at' = { q with rs := adiL q.rs x n at' }) := iH (fun h => by
  rw [hE] at h
  rw [hx]
  unfold agE at h
  unfold agV rtyE rtyQ
  by_cases hb : batE q n = 0
  ·rw [if_pos hb] at h
   rw [if_pos hb, if_pos hb, if_pos hb]
   cases ha : agnO st q n id with
   | none => rw [ha] at h; exact absurd h (by decide)
   | some e => exact ⟨(z.bat st n).2 e (agnO_mem ha).1, rfl, rfl⟩
  ·rw [if_neg hb] at h; exact absurd h hb)
 clear s z hk hE hx
 obtain ⟨y0, y1, y2, y3, y4, y5, y6, y7⟩ := x
 simp only [Ev.cs] at *
 go_enter Tryz.func64, Tryz.ntmps64
 go_wp2_with fail
 refine AG.out.mono ?_
 rintro e w2 ⟨rfl, k2⟩
 obtain ⟨zr, hzr⟩ : ∃ zr, zr = w2.heap.size := ⟨_, rfl⟩
 obtain ⟨w3, hw3⟩ : ∃ w3, w3 = w2.alloc (.cells #[.int .i64 y0, .int .i64 y1, .string y2, .int .i64 y3, .int .i64 y4, .int .u8 y5, .int .i64 y6, .string y7] 50) := ⟨_, rfl⟩
 have k3 : Kept w2 w3 [] := by rw [hw3]; exact (Kept.refl w2 []).alloc _
 have K3 := iH (k2.trans k3 (by simp))
 have G3 := iH (show w3.heap[zr]? = some (.cells #[.int .i64 y0, .int .i64 y1, .string y2, .int .i64 y3, .int .i64 y4, .int .u8 y5, .int .i64 y6, .string y7] 50 (0, 0)) by rw [hw3, hzr]; exact heap_alloc_new w2 _)
 have HZR := iH (show w.heap.size <= zr by rw [hzr]; exact k2.size)
 have HW3 := iH hw3; have HZ3 := iH hzr
 clear k2 k3 hw3 hzr
 go_upto_region 2 with fail
 rw [<- HW3.out, <- HZ3.out]
 by_cases h0 : E = 0
 ·subst h0
  obtain ⟨ew, r1, r2⟩ := X2.out rfl
  have RR := iH (And.intro r1 r2)
  obtain ⟨d, v, xs, kq, e0, e1, e2, e3, rfl⟩ := (S.out.keep K3.out).ex
  have kd : Kept w3 w3.drew [] := (Kept.refl w3 []).drew
  have TA := iH (radd_any (kq.dq.keep kd).retries OI.out ⟨y0, y1, y2, y3, y4, y5, y6, y7⟩ ew.tr0 n at')
  simp only [encEv, Ev.cs] at TA
  have KQ := iH kq; have E0 := iH e0; have E1 := iH e1; have E2 := iH e2; have E3 := iH e3; have KD := iH kd
  have S3 := iH (kd.heap (by simp) G3.out)
  have NT : RowKit.Hid (¬ xqI h d zr) := iH (fun hk => by have := (S.out.lt zr hk).2; have := HZR.out; omega)
  clear ew r1 r2 kq e0 e1 e2 e3 kd
  go_upto_region 4 with fail
  refine wp_region_held_drew (S := fun Z => Z.heap[zr]? = some (.cells #[.int .i64 y0, .int .i64 y1, .string y2, .int .i64 y3, .int .i64 y4, .int .u8 y5, .int .i64 y6, .string y7] 50 (0, 0))) (by kernel_rfl) S3.out (fun hJ => ?_)
  refine wx 0 21 (.pointer (some ⟨h, 0, none⟩)) rfl hJ ?_
  refine wx 1 22 (.pointer (some ⟨h, 0, none⟩)) rfl hJ ?_
  refine wx 2 23 (.pointer (some ⟨h, 8, none⟩)) rfl hJ ?_
  refine wx 3 24 (.agg #[.int .i64 y0, .int .i64 y1, .string y2, .int .i64 y3, .int .i64 y4, .int .u8 y5, .int .i64 y6, .string y7]) rfl hJ ?_ (hy := fun V hV => by (obtain ⟨q0, q1, q2, q3, q4, q5, q6, q7⟩ := xqm hV; clear hV; go_simp))
  refine wx 4 25 (.string n) rfl hJ ?_
  refine wx 5 26 (.int .i64 at') rfl hJ ?_
  refine wr1 6 rfl (fun K hK => ?_)
  go_simp
  go_at_call 125
  refine (TA.out).mono ?_
  rintro r w9 ⟨rfl, V9, h1, h3⟩
  obtain ⟨k9, t9⟩ := (KQ.out.dq.keep KD.out).ofRetries h1 h3
  have S9 := iH (t9.1.heap NT.out S3.out)
  have PP := iH (DPost.of (q := { q with rs := adiL q.rs ⟨y0, y1, y2, y3, y4, y5, y6, y7⟩ n at' }) KQ.out ⟨k9, t9.afterK KD.out⟩ rfl E0.out E1.out E2.out E3.out)
  obtain ⟨EE, hEE⟩ : ∃ EE, EE = adiE q.rs y0 n := ⟨_, rfl⟩
  rw [<- hEE]
  have HEE := iH hEE
  clear h1 h3 k9 t9 hEE
  go_wp2_with fail
  refine hK.out _ _ S9.out (fun hJ => ?_)
  clear hK K
  refine wx 7 8 (.int .i64 EE) rfl hJ ?_
  refine wd ?_
  clear hJ
  go_wp2
  go_ret
  obtain ⟨r1, r2⟩ := RR.out
  rw [r1, r2]
  exact ⟨congrArg (fun x => Ending.returned (.int .i64 x)) HEE.out, DPost.pre K3.out PP.out⟩
 obtain ⟨r1, r2⟩ := X1.out h0
 have RR := iH (And.intro r1 r2)
 have hb : (E == 0) = false := by rw [beq_eq_false_iff_ne]; exact h0
 clear r1 r2 h0
 go_wp2
 go_ret
 obtain ⟨r1, r2⟩ := RR.out
 rw [r1, r2]
 exact ⟨rfl, DPost.same S.out K3.out⟩
end Go.Proofs.YticiofkiffgclaaGreat
