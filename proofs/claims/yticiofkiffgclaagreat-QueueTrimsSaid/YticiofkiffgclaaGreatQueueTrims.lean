/-
 Proved: whatever the arguments are, carrierlaw15.QueueTrims answers true and leaves its arguments as they were. No condition.
-/
import Derived.Test.YticiofkiffgclaaGreatQu0
import Derived.Test.YticiofkiffgclaaGreatQu42
import Derived.Test.YticiofkiffgclaaGreatQu37
import Derived.Test.YticiofkiffgclaaGreatRows
import Derived.Test.YticiofkiffgclaaGreatChecked
import Derived.ProofKit
import Derived.OpenShut
import Derived.ChangeOld
import Derived.Below
set_option linter.unusedVariables false
set_option maxHeartbeats 16000000
set_option maxRecDepth 100000
namespace Go.Proofs.YticiofkiffgclaaGreat.queueTrims
open Go.ChangeShapes Go.WideShapes Go.ChangeAt Go.RowKit
theorem own : ownKnob Tryz.prog.godebug = none := by kernel_rfl
theorem laidOut : laidOutB Tryz.prog = true := by kernel_rfl
theorem bq_keep {w0 w w' : World} {a : Hk} {h m hx k : Nat} (b : Bq w0 w a h m hx k) (kp : Kept w w' []) : Bq w0 w' a h m hx k := by
 obtain ⟨st, q, O1, O2, b, z, hl⟩ := b
 exact ⟨st, q, O1, O2, b.keep kp, z, hl⟩
theorem bq_kept {w0 w : World} {a : Hk} {h m hx k : Nat} (b : Bq w0 w a h m hx k) : Kept w0 w [] := by
 obtain ⟨st, q, O1, O2, b, z, hl⟩ := b
 exact b.k0
theorem kget_any {w : World} {B : Nat} {a : Hk} {st : List Nat} {q : Qs} {O : Nat -> Prop} (s : KS w B a st q O) {k : Nat} (z : SzQ k q) (n : Int) : Calls Tryz.prog 40 #[.pointer (some ⟨a.ht, 0, none⟩), .int .i64 n] w (FirstPost w (getS q.ps n)) := by
 obtain ⟨b, u, d, xs, kq, g, e1, e2, rfl⟩ := s.ex
 have := z.ok.okp
 rw [<- e1] at this ⊢
 exact tkget_any kq.tk this n
theorem walk (a0 : Option Addr) (len cap : Nat) (f : Nat -> ActQ) (W : World) (w0 : IsActsQ W W.heap.size a0 len f /\ len <= maxLen) :
  Calls Tryz.prog 7 #[.slice a0 len cap] W fun e w' => e = .returned (.bool true) /\ Below W.heap.size W w' := by
 have HA := iH w0.1
 have hlm : len <= 9223372036854775807 := by have := w0.2; unfold maxLen at this; omega
 clear w0
 by_cases hg : 80 < len
 ·have xg : (80 : Int) < (len : Int) := by omega
  go_enter Tryz.func7, Tryz.ntmps7
  go_wp2_with fail
  refine (early_any W).mono ?_
  rintro e w1 ⟨rfl, k1⟩
  have K1 := iH k1; clear k1
  go_wp2_with fail
  refine (early_any w1).mono ?_
  rintro e w2 ⟨rfl, k2⟩
  have K2 := iH (K1.out.trans k2 (by simp)); clear k2
  go_wp2
  go_ret
  exact ⟨rfl, K2.out.below (Nat.le_refl _) (by simp)⟩
 ·have xg : ¬ (80 : Int) < (len : Int) := by omega
  go_enter Tryz.func7, Tryz.ntmps7
  go_wp2_with fail
  refine (early_any W).mono ?_
  rintro e w1 ⟨rfl, k1⟩
  have K1 := iH k1; clear k1
  go_wp2_with fail
  refine (start_any w1).mono ?_
  rintro e w2 ⟨a, h, m, hx, rfl, b2⟩
  have B2 := iH b2; clear b2
  go_wp2
  go_loopw [4] (fun s5 wr => ∃ i : Nat, s5 = .int .i64 i /\ i <= len /\ Hid (Bq w1 wr a h m hx i)) (fun s5 _ => len - (intOf s5).toNat)
  case atStart => exact ⟨0, rfl, Nat.zero_le _, B2⟩
  case round =>
  obtain ⟨i, rfl, hi, BE⟩ := hrel
  have BK := iH (K1.out.trans (bq_kept BE.out) (by simp))
  by_cases hlt : i < len
  ·have x1 : (i : Int) < (len : Int) := by omega
   obtain ⟨b, o, e0, -, hf⟩ := HA.out.kept BK.out (by omega)
   subst e0
   have at0 := hf i hlt
   have D0 := do_any BE.out (show i < 1000 by omega) (f i) at0.d8 at0.i8 at0.o8 at0.wa
   obtain ⟨c0, c1, c2, c3, -, -, -, -⟩ := at0
   generalize f i = x at D0 c0 c1 c2 c3
   obtain ⟨D, U, Ky, N⟩ := x
   simp only [ActQ.cs] at D0 c0 c1 c2 c3
   have DD := iH D0
   clear D0 hf
   go_wp2_with fail
   refine DD.out.mono ?_
   rintro e w5 ⟨rfl, b5⟩
   have B5 := iH b5; clear b5 c0 c1 c2 c3
   go_wp2
   go_roundw
   case rel => exact ⟨i + 1, by go_num, by omega, B5⟩
   case measure => simp [intOf]; omega
  have x1 : ¬ (i : Int) < (len : Int) := by omega
  obtain ⟨st, q, O1, O2, b, z, hl⟩ := BE.out
  have TR := iH (ktrm_any b.ks z (by omega))
  obtain ⟨u0, u1, u2, u3⟩ := xqd b.hx
  have BA := iH b; have ZA := iH z
  clear b z hl
  go_wp2_with fail
  refine TR.out.mono ?_
  rintro e w3 ⟨rfl, p⟩
  obtain ⟨O3, b3, -, -, -⟩ := BA.out.code p
  have B3 := iH b3; have ZZ := iH ZA.out.trm
  clear p b3 u0 u1 u2 u3
  obtain ⟨u0, u1, u2, u3⟩ := xqd B3.out.hx
  go_wp2_with fail
  refine (lkC (xqP B3.out.ks)).mono ?_
  rintro e w3b ⟨rfl, p⟩
  have BB3 := iH (B3.out.keep p)
  clear p u0 u1 u2 u3
  go_wp2_with fail
  refine (kcall_any BB3.out.ks ZZ.out).mono ?_
  rintro e w4 ⟨v4, rfl, o4, p⟩
  change OwnK encCu w4 _ cuE v4 q.cs at o4
  obtain ⟨u5, c5, e5⟩ := o4.shape
  subst e5
  have BB := iH (BB3.out.keep p); have O4 := iH o4
  clear p o4
  have few4 : q.cs.length <= 4 := ZZ.out.ok.okc.few
  go_wp2
  go_loopw [6] (fun s6 wr2 => ∃ i : Nat, s6 = .int .i64 i /\ i <= q.cs.length /\ Hid (Kept w4 wr2 [])) (fun s6 _ => q.cs.length - (intOf s6).toNat)
  case atStart => exact ⟨0, rfl, Nat.zero_le _, iH (Kept.refl _ _)⟩
  case round =>
  obtain ⟨i, rfl, hi2, KR⟩ := hrel
  by_cases hl2 : i < q.cs.length
  ·have x2 : (i : Int) < (q.cs.length : Int) := by omega
   obtain ⟨x, hx2⟩ : ∃ x, q.cs[i]? = some x := ⟨_, List.getElem?_eq_getElem hl2⟩
   have hm := List.mem_of_getElem? hx2
   have LA := iH (show (getS (trmQ q).ps x.la).isSome = true from ZZ.out.ok.hasLa hm)
   obtain ⟨bo, hbo⟩ : ∃ bo, bo = (getS (trmQ q).ps x.op).isSome := ⟨_, rfl⟩
   have OP := iH (show x.op ≠ 0 -> bo = true from fun h => by rw [hbo]; exact ZZ.out.ok.hasOp hm h)
   have OP0 := iH (ZZ.out.ok.okc.op0 x hm)
   have HBO := iH hbo
   obtain ⟨g, eg, -⟩ := O4.out.at hx2
   subst eg
   have OC := O4
   have HX := iH hx2
   obtain ⟨b0, b1, b2⟩ := x
   simp only at *
   clear hx2 hm hbo
   go_upto_region 14 with fail
   go_cut [7, 8] (fun sb so wx => ∃ (wq : World) (zt : Nat), wq = wx /\ sb = .pointer (some ⟨zt, 0, none⟩) /\ so = .bool true /\ Hid (Kept w4 wq []))
   case first =>
    obtain ⟨w30, hw30⟩ : ∃ w', w' = wr.drew := ⟨_, rfl⟩
    have K30 := iH (show Kept w4 w30 [] by rw [hw30]; exact KR.out.drew)
    refine wp_region_held_drew (S := fun Z => Kept w4 Z []) (by kernel_rfl) (by rw [<- hw30]; exact K30.out) (fun hJ => ?_)
    rw [<- hw30] at hJ ⊢
    clear hw30
    refine wx 0 53 (.pointer (some ⟨hx, 0, none⟩)) rfl hJ ?_
    refine wx 1 54 (.pointer (some ⟨hx, 0, none⟩)) rfl hJ ?_
    refine wx 2 55 (.pointer (some ⟨hx, 2, none⟩)) rfl hJ ?_
    refine wx 3 56 (.pointer (some ⟨a.h, 0, none⟩)) rfl hJ ?_ (hy := fun V hV => by (obtain ⟨u0, u1, u2, u3⟩ := xqd (BB.out.keep hV).hx; go_simp))
    refine wx 5 58 (.slice (some ⟨g, 0, none⟩) q.cs.length c5) rfl hJ ?_
    refine wx 6 59 (.int .i64 i) rfl hJ ?_
    refine wx 7 60 (.pointer (some ⟨g, i * 3, none⟩)) rfl hJ ?_
    refine wx 8 61 (.pointer (some ⟨g, i * 3 + 1, none⟩)) rfl hJ ?_
    refine wx 9 62 (.int .i64 b1) rfl hJ ?_ (hy := fun V hV => by (obtain ⟨p0, p1, p2⟩ := (OC.out.keep hV).three HX.out; simp only at p1 p2; go_simp))
    refine wpAnyH_ready (rs := [4, 14]) (by kernel_rfl) (by simp) ?_
    refine (AllReadyH.cons (o := _) rfl (fun K hK => ?_) (AllReadyH.cons (o := _) rfl (fun K hK => ?_) AllReadyH.nil))
    ·go_simp
     go_at_call 39
     refine (lkC (yqn (BB.out.keep K30.out).ks)).mono ?_
     rintro e w31 ⟨rfl, p⟩
     have K31 := iH (K30.out.trans p (by simp))
     clear p hJ
     go_wp2_with fail
     refine hK.out _ _ K31.out (fun hJ => ?_)
     clear hK K
     refine wpAnyH_ready (rs := [10, 14]) (by kernel_rfl) (by simp) ?_
     refine (AllReadyH.cons (o := _) rfl (fun K hK => ?_) (AllReadyH.cons (o := _) rfl (fun K hK => ?_) AllReadyH.nil))
     ·go_simp
      go_at_call 40
      refine (kget_any (BB.out.keep K31.out).ks ZZ.out (b1)).mono ?_
      rintro e w32 ⟨y, rfl, -, -, -, p⟩
      obtain ⟨y0, y1, y2, y3, y4, y5⟩ := y
      simp only [Tk.cs] at *
      have K32 := iH (K31.out.trans p (by simp))
      rw [LA.out]
      clear p hJ
      go_wp2_with fail
      refine hK.out _ _ K32.out (fun hJ => ?_)
      clear hK K
      refine wx 11 52 (.tuple #[.agg #[.int .i64 y0, .int .i64 y1, .slice y2 y4.length y3, .int .i64 y5], .bool true]) rfl hJ ?_
      refine wx 12 64 (.agg #[.int .i64 y0, .int .i64 y1, .slice y2 y4.length y3, .int .i64 y5]) rfl hJ ?_
      refine wx 13 65 (.bool true) rfl hJ ?_
      refine wr1 14 rfl (fun K hK => ?_)
      go_simp
      refine hK.out _ _ (K32.out.alloc zT4) (fun hJ => ?_)
      clear hK K
      obtain ⟨zt, hz⟩ : ∃ z, z = w32.heap.size := ⟨_, rfl⟩
      obtain ⟨w33, hw33⟩ : ∃ w', w' = w32.alloc zT4 := ⟨_, rfl⟩
      have GT33 := iH (show w33.heap[zt]? = some zT4 by rw [hw33, hz]; exact heap_alloc_new w32 _)
      have K33 := iH (show Kept w4 w33 [] by rw [hw33]; exact K32.out.alloc zT4)
      have HZT := iH (show w4.heap.size <= zt by rw [hz]; exact K32.out.size)
      rw [<- hw33, <- hz]
      have hJ := K33.out
      clear hw33 hz
      refine wr1 15 rfl (fun K hK => ?_)
      obtain ⟨w34, hw34⟩ : ∃ w', w' = xqo w33 zt 0 [.int .i64 y0, .int .i64 y1, .slice y2 y4.length y3, .int .i64 y5] := ⟨_, rfl⟩
      have K34 := iH (show Kept w4 w34 [] by rw [hw34]; exact xqr K33.out HZT.out _)
      have HW34 := iH hw34
      clear hw34
      obtain ⟨x0, x1', x2, x3⟩ := xqc GT33.out
      obtain ⟨f0, f1, f2, f3⟩ := xqf GT33.out
      go_simp
      refine hK.out _ (xqo w33 zt 0 [.int .i64 y0, .int .i64 y1, .slice y2 y4.length y3, .int .i64 y5]) (by rw [<- HW34.out]; exact K34.out) (fun hJ => ?_)
      clear hK K
      rw [<- HW34.out] at hJ ⊢
      clear x0 x1' x2 x3 f0 f1 f2 f3
      refine wx 16 8 (.bool true) rfl hJ ?_
      refine wd ?_
      clear hJ
      go_wp2_with fail
      go_meet
      exact ⟨w34, zt, rfl, rfl, rfl, K34⟩
     go_simp
     refine hK.out _ _ (K31.out.alloc zT4) (fun hJ => ?_)
     clear hK K
     obtain ⟨zt, hz⟩ : ∃ z, z = w31.heap.size := ⟨_, rfl⟩
     obtain ⟨w32, hw32⟩ : ∃ w', w' = w31.alloc zT4 := ⟨_, rfl⟩
     have GT32 := iH (show w32.heap[zt]? = some zT4 by rw [hw32, hz]; exact heap_alloc_new w31 _)
     have K32 := iH (show Kept w4 w32 [] by rw [hw32]; exact K31.out.alloc zT4)
     have HZT := iH (show w4.heap.size <= zt by rw [hz]; exact K31.out.size)
     rw [<- hw32, <- hz]
     have hJ := K32.out
     clear hw32 hz
     refine wr1 10 rfl (fun K hK => ?_)
     go_simp
     go_at_call 40
     refine (kget_any (BB.out.keep K32.out).ks ZZ.out (b1)).mono ?_
     rintro e w33 ⟨y, rfl, -, -, -, p⟩
     obtain ⟨y0, y1, y2, y3, y4, y5⟩ := y
     simp only [Tk.cs] at *
     have K33 := iH (K32.out.trans p (by simp))
     have GT33 := iH (p.heap (by simp) GT32.out)
     rw [LA.out]
     clear p hJ
     go_wp2_with fail
     refine hK.out _ _ K33.out (fun hJ => ?_)
     clear hK K
     refine wx 11 52 (.tuple #[.agg #[.int .i64 y0, .int .i64 y1, .slice y2 y4.length y3, .int .i64 y5], .bool true]) rfl hJ ?_
     refine wx 12 64 (.agg #[.int .i64 y0, .int .i64 y1, .slice y2 y4.length y3, .int .i64 y5]) rfl hJ ?_
     refine wx 13 65 (.bool true) rfl hJ ?_
     refine wr1 15 rfl (fun K hK => ?_)
     obtain ⟨w34, hw34⟩ : ∃ w', w' = xqo w33 zt 0 [.int .i64 y0, .int .i64 y1, .slice y2 y4.length y3, .int .i64 y5] := ⟨_, rfl⟩
     have K34 := iH (show Kept w4 w34 [] by rw [hw34]; exact xqr K33.out HZT.out _)
     have HW34 := iH hw34
     clear hw34
     obtain ⟨x0, x1', x2, x3⟩ := xqc GT33.out
     obtain ⟨f0, f1, f2, f3⟩ := xqf GT33.out
     go_simp
     refine hK.out _ (xqo w33 zt 0 [.int .i64 y0, .int .i64 y1, .slice y2 y4.length y3, .int .i64 y5]) (by rw [<- HW34.out]; exact K34.out) (fun hJ => ?_)
     clear hK K
     rw [<- HW34.out] at hJ ⊢
     clear x0 x1' x2 x3 f0 f1 f2 f3
     refine wx 16 8 (.bool true) rfl hJ ?_
     refine wd ?_
     clear hJ
     go_wp2_with fail
     go_meet
     exact ⟨w34, zt, rfl, rfl, rfl, K34⟩
    go_simp
    refine hK.out _ _ (K30.out.alloc zT4) (fun hJ => ?_)
    clear hK K
    obtain ⟨zt, hz⟩ : ∃ z, z = w30.heap.size := ⟨_, rfl⟩
    obtain ⟨w31, hw31⟩ : ∃ w', w' = w30.alloc zT4 := ⟨_, rfl⟩
    have GT31 := iH (show w31.heap[zt]? = some zT4 by rw [hw31, hz]; exact heap_alloc_new w30 _)
    have K31 := iH (show Kept w4 w31 [] by rw [hw31]; exact K30.out.alloc zT4)
    have HZT := iH (show w4.heap.size <= zt by rw [hz]; exact K30.out.size)
    rw [<- hw31, <- hz]
    have hJ := K31.out
    clear hw31 hz
    refine wr1 4 rfl (fun K hK => ?_)
    go_simp
    go_at_call 39
    refine (lkC (yqn (BB.out.keep K31.out).ks)).mono ?_
    rintro e w32 ⟨rfl, p⟩
    have K32 := iH (K31.out.trans p (by simp))
    have GT32 := iH (p.heap (by simp) GT31.out)
    clear p hJ
    go_wp2_with fail
    refine hK.out _ _ K32.out (fun hJ => ?_)
    clear hK K
    refine wr1 10 rfl (fun K hK => ?_)
    go_simp
    go_at_call 40
    refine (kget_any (BB.out.keep K32.out).ks ZZ.out (b1)).mono ?_
    rintro e w33 ⟨y, rfl, -, -, -, p⟩
    obtain ⟨y0, y1, y2, y3, y4, y5⟩ := y
    simp only [Tk.cs] at *
    have K33 := iH (K32.out.trans p (by simp))
    have GT33 := iH (p.heap (by simp) GT32.out)
    rw [LA.out]
    clear p hJ
    go_wp2_with fail
    refine hK.out _ _ K33.out (fun hJ => ?_)
    clear hK K
    refine wx 11 52 (.tuple #[.agg #[.int .i64 y0, .int .i64 y1, .slice y2 y4.length y3, .int .i64 y5], .bool true]) rfl hJ ?_
    refine wx 12 64 (.agg #[.int .i64 y0, .int .i64 y1, .slice y2 y4.length y3, .int .i64 y5]) rfl hJ ?_
    refine wx 13 65 (.bool true) rfl hJ ?_
    refine wr1 15 rfl (fun K hK => ?_)
    obtain ⟨w34, hw34⟩ : ∃ w', w' = xqo w33 zt 0 [.int .i64 y0, .int .i64 y1, .slice y2 y4.length y3, .int .i64 y5] := ⟨_, rfl⟩
    have K34 := iH (show Kept w4 w34 [] by rw [hw34]; exact xqr K33.out HZT.out _)
    have HW34 := iH hw34
    clear hw34
    obtain ⟨x0, x1', x2, x3⟩ := xqc GT33.out
    obtain ⟨f0, f1, f2, f3⟩ := xqf GT33.out
    go_simp
    refine hK.out _ (xqo w33 zt 0 [.int .i64 y0, .int .i64 y1, .slice y2 y4.length y3, .int .i64 y5]) (by rw [<- HW34.out]; exact K34.out) (fun hJ => ?_)
    clear hK K
    rw [<- HW34.out] at hJ ⊢
    clear x0 x1' x2 x3 f0 f1 f2 f3
    refine wx 16 8 (.bool true) rfl hJ ?_
    refine wd ?_
    clear hJ
    go_wp2_with fail
    go_meet
    exact ⟨w34, zt, rfl, rfl, rfl, K34⟩
   case' rest => obtain ⟨w40, zt, rfl, rfl, rfl, KR2⟩ := hcut
   go_upto_region 15 with fail
   go_cut [9, 10] (fun sb so wx => ∃ (wq : World) (zt : Nat), wq = wx /\ sb = .pointer (some ⟨zt, 0, none⟩) /\ so = .bool bo /\ Hid (Kept w4 wq []))
   case first =>
    obtain ⟨w30, hw30⟩ : ∃ w', w' = w40.drew := ⟨_, rfl⟩
    have K30 := iH (show Kept w4 w30 [] by rw [hw30]; exact KR2.out.drew)
    refine wp_region_held_drew (S := fun Z => Kept w4 Z []) (by kernel_rfl) (by rw [<- hw30]; exact K30.out) (fun hJ => ?_)
    rw [<- hw30] at hJ ⊢
    clear hw30
    refine wx 0 67 (.pointer (some ⟨hx, 0, none⟩)) rfl hJ ?_
    refine wx 1 68 (.pointer (some ⟨hx, 0, none⟩)) rfl hJ ?_
    refine wx 2 69 (.pointer (some ⟨hx, 2, none⟩)) rfl hJ ?_
    refine wx 3 70 (.pointer (some ⟨a.h, 0, none⟩)) rfl hJ ?_ (hy := fun V hV => by (obtain ⟨u0, u1, u2, u3⟩ := xqd (BB.out.keep hV).hx; go_simp))
    refine wx 5 72 (.slice (some ⟨g, 0, none⟩) q.cs.length c5) rfl hJ ?_
    refine wx 6 73 (.int .i64 i) rfl hJ ?_
    refine wx 7 74 (.pointer (some ⟨g, i * 3, none⟩)) rfl hJ ?_
    refine wx 8 75 (.pointer (some ⟨g, i * 3 + 2, none⟩)) rfl hJ ?_
    refine wx 9 76 (.int .i64 b2) rfl hJ ?_ (hy := fun V hV => by (obtain ⟨p0, p1, p2⟩ := (OC.out.keep hV).three HX.out; simp only at p1 p2; go_simp))
    refine wpAnyH_ready (rs := [4, 14]) (by kernel_rfl) (by simp) ?_
    refine (AllReadyH.cons (o := _) rfl (fun K hK => ?_) (AllReadyH.cons (o := _) rfl (fun K hK => ?_) AllReadyH.nil))
    ·go_simp
     go_at_call 39
     refine (lkC (yqn (BB.out.keep K30.out).ks)).mono ?_
     rintro e w31 ⟨rfl, p⟩
     have K31 := iH (K30.out.trans p (by simp))
     clear p hJ
     go_wp2_with fail
     refine hK.out _ _ K31.out (fun hJ => ?_)
     clear hK K
     refine wpAnyH_ready (rs := [10, 14]) (by kernel_rfl) (by simp) ?_
     refine (AllReadyH.cons (o := _) rfl (fun K hK => ?_) (AllReadyH.cons (o := _) rfl (fun K hK => ?_) AllReadyH.nil))
     ·go_simp
      go_at_call 40
      refine (kget_any (BB.out.keep K31.out).ks ZZ.out (b2)).mono ?_
      rintro e w32 ⟨y, rfl, -, -, -, p⟩
      obtain ⟨y0, y1, y2, y3, y4, y5⟩ := y
      simp only [Tk.cs] at *
      have K32 := iH (K31.out.trans p (by simp))
      rw [<- HBO.out]
      clear p hJ
      go_wp2_with fail
      refine hK.out _ _ K32.out (fun hJ => ?_)
      clear hK K
      refine wx 11 66 (.tuple #[.agg #[.int .i64 y0, .int .i64 y1, .slice y2 y4.length y3, .int .i64 y5], .bool bo]) rfl hJ ?_
      refine wx 12 78 (.agg #[.int .i64 y0, .int .i64 y1, .slice y2 y4.length y3, .int .i64 y5]) rfl hJ ?_
      refine wx 13 79 (.bool bo) rfl hJ ?_
      refine wr1 14 rfl (fun K hK => ?_)
      go_simp
      refine hK.out _ _ (K32.out.alloc zT4) (fun hJ => ?_)
      clear hK K
      obtain ⟨zt, hz⟩ : ∃ z, z = w32.heap.size := ⟨_, rfl⟩
      obtain ⟨w33, hw33⟩ : ∃ w', w' = w32.alloc zT4 := ⟨_, rfl⟩
      have GT33 := iH (show w33.heap[zt]? = some zT4 by rw [hw33, hz]; exact heap_alloc_new w32 _)
      have K33 := iH (show Kept w4 w33 [] by rw [hw33]; exact K32.out.alloc zT4)
      have HZT := iH (show w4.heap.size <= zt by rw [hz]; exact K32.out.size)
      rw [<- hw33, <- hz]
      have hJ := K33.out
      clear hw33 hz
      refine wr1 15 rfl (fun K hK => ?_)
      obtain ⟨w34, hw34⟩ : ∃ w', w' = xqo w33 zt 0 [.int .i64 y0, .int .i64 y1, .slice y2 y4.length y3, .int .i64 y5] := ⟨_, rfl⟩
      have K34 := iH (show Kept w4 w34 [] by rw [hw34]; exact xqr K33.out HZT.out _)
      have HW34 := iH hw34
      clear hw34
      obtain ⟨x0, x1', x2, x3⟩ := xqc GT33.out
      obtain ⟨f0, f1, f2, f3⟩ := xqf GT33.out
      go_simp
      refine hK.out _ (xqo w33 zt 0 [.int .i64 y0, .int .i64 y1, .slice y2 y4.length y3, .int .i64 y5]) (by rw [<- HW34.out]; exact K34.out) (fun hJ => ?_)
      clear hK K
      rw [<- HW34.out] at hJ ⊢
      clear x0 x1' x2 x3 f0 f1 f2 f3
      refine wx 16 10 (.bool bo) rfl hJ ?_
      refine wd ?_
      clear hJ
      go_wp2_with fail
      go_meet
      exact ⟨w34, zt, rfl, rfl, rfl, K34⟩
     go_simp
     refine hK.out _ _ (K31.out.alloc zT4) (fun hJ => ?_)
     clear hK K
     obtain ⟨zt, hz⟩ : ∃ z, z = w31.heap.size := ⟨_, rfl⟩
     obtain ⟨w32, hw32⟩ : ∃ w', w' = w31.alloc zT4 := ⟨_, rfl⟩
     have GT32 := iH (show w32.heap[zt]? = some zT4 by rw [hw32, hz]; exact heap_alloc_new w31 _)
     have K32 := iH (show Kept w4 w32 [] by rw [hw32]; exact K31.out.alloc zT4)
     have HZT := iH (show w4.heap.size <= zt by rw [hz]; exact K31.out.size)
     rw [<- hw32, <- hz]
     have hJ := K32.out
     clear hw32 hz
     refine wr1 10 rfl (fun K hK => ?_)
     go_simp
     go_at_call 40
     refine (kget_any (BB.out.keep K32.out).ks ZZ.out (b2)).mono ?_
     rintro e w33 ⟨y, rfl, -, -, -, p⟩
     obtain ⟨y0, y1, y2, y3, y4, y5⟩ := y
     simp only [Tk.cs] at *
     have K33 := iH (K32.out.trans p (by simp))
     have GT33 := iH (p.heap (by simp) GT32.out)
     rw [<- HBO.out]
     clear p hJ
     go_wp2_with fail
     refine hK.out _ _ K33.out (fun hJ => ?_)
     clear hK K
     refine wx 11 66 (.tuple #[.agg #[.int .i64 y0, .int .i64 y1, .slice y2 y4.length y3, .int .i64 y5], .bool bo]) rfl hJ ?_
     refine wx 12 78 (.agg #[.int .i64 y0, .int .i64 y1, .slice y2 y4.length y3, .int .i64 y5]) rfl hJ ?_
     refine wx 13 79 (.bool bo) rfl hJ ?_
     refine wr1 15 rfl (fun K hK => ?_)
     obtain ⟨w34, hw34⟩ : ∃ w', w' = xqo w33 zt 0 [.int .i64 y0, .int .i64 y1, .slice y2 y4.length y3, .int .i64 y5] := ⟨_, rfl⟩
     have K34 := iH (show Kept w4 w34 [] by rw [hw34]; exact xqr K33.out HZT.out _)
     have HW34 := iH hw34
     clear hw34
     obtain ⟨x0, x1', x2, x3⟩ := xqc GT33.out
     obtain ⟨f0, f1, f2, f3⟩ := xqf GT33.out
     go_simp
     refine hK.out _ (xqo w33 zt 0 [.int .i64 y0, .int .i64 y1, .slice y2 y4.length y3, .int .i64 y5]) (by rw [<- HW34.out]; exact K34.out) (fun hJ => ?_)
     clear hK K
     rw [<- HW34.out] at hJ ⊢
     clear x0 x1' x2 x3 f0 f1 f2 f3
     refine wx 16 10 (.bool bo) rfl hJ ?_
     refine wd ?_
     clear hJ
     go_wp2_with fail
     go_meet
     exact ⟨w34, zt, rfl, rfl, rfl, K34⟩
    go_simp
    refine hK.out _ _ (K30.out.alloc zT4) (fun hJ => ?_)
    clear hK K
    obtain ⟨zt, hz⟩ : ∃ z, z = w30.heap.size := ⟨_, rfl⟩
    obtain ⟨w31, hw31⟩ : ∃ w', w' = w30.alloc zT4 := ⟨_, rfl⟩
    have GT31 := iH (show w31.heap[zt]? = some zT4 by rw [hw31, hz]; exact heap_alloc_new w30 _)
    have K31 := iH (show Kept w4 w31 [] by rw [hw31]; exact K30.out.alloc zT4)
    have HZT := iH (show w4.heap.size <= zt by rw [hz]; exact K30.out.size)
    rw [<- hw31, <- hz]
    have hJ := K31.out
    clear hw31 hz
    refine wr1 4 rfl (fun K hK => ?_)
    go_simp
    go_at_call 39
    refine (lkC (yqn (BB.out.keep K31.out).ks)).mono ?_
    rintro e w32 ⟨rfl, p⟩
    have K32 := iH (K31.out.trans p (by simp))
    have GT32 := iH (p.heap (by simp) GT31.out)
    clear p hJ
    go_wp2_with fail
    refine hK.out _ _ K32.out (fun hJ => ?_)
    clear hK K
    refine wr1 10 rfl (fun K hK => ?_)
    go_simp
    go_at_call 40
    refine (kget_any (BB.out.keep K32.out).ks ZZ.out (b2)).mono ?_
    rintro e w33 ⟨y, rfl, -, -, -, p⟩
    obtain ⟨y0, y1, y2, y3, y4, y5⟩ := y
    simp only [Tk.cs] at *
    have K33 := iH (K32.out.trans p (by simp))
    have GT33 := iH (p.heap (by simp) GT32.out)
    rw [<- HBO.out]
    clear p hJ
    go_wp2_with fail
    refine hK.out _ _ K33.out (fun hJ => ?_)
    clear hK K
    refine wx 11 66 (.tuple #[.agg #[.int .i64 y0, .int .i64 y1, .slice y2 y4.length y3, .int .i64 y5], .bool bo]) rfl hJ ?_
    refine wx 12 78 (.agg #[.int .i64 y0, .int .i64 y1, .slice y2 y4.length y3, .int .i64 y5]) rfl hJ ?_
    refine wx 13 79 (.bool bo) rfl hJ ?_
    refine wr1 15 rfl (fun K hK => ?_)
    obtain ⟨w34, hw34⟩ : ∃ w', w' = xqo w33 zt 0 [.int .i64 y0, .int .i64 y1, .slice y2 y4.length y3, .int .i64 y5] := ⟨_, rfl⟩
    have K34 := iH (show Kept w4 w34 [] by rw [hw34]; exact xqr K33.out HZT.out _)
    have HW34 := iH hw34
    clear hw34
    obtain ⟨x0, x1', x2, x3⟩ := xqc GT33.out
    obtain ⟨f0, f1, f2, f3⟩ := xqf GT33.out
    go_simp
    refine hK.out _ (xqo w33 zt 0 [.int .i64 y0, .int .i64 y1, .slice y2 y4.length y3, .int .i64 y5]) (by rw [<- HW34.out]; exact K34.out) (fun hJ => ?_)
    clear hK K
    rw [<- HW34.out] at hJ ⊢
    clear x0 x1' x2 x3 f0 f1 f2 f3
    refine wx 16 10 (.bool bo) rfl hJ ?_
    refine wd ?_
    clear hJ
    go_wp2_with fail
    go_meet
    exact ⟨w34, zt, rfl, rfl, rfl, K34⟩
   case' rest => obtain ⟨w41, zu, rfl, rfl, rfl, KR3⟩ := hcut
   obtain ⟨p0, p1, p2⟩ := (OC.out.keep KR3.out).three HX.out
   simp only at p1 p2
   by_cases hz0 : b2 = 0
   ·have y0 : ¬ (0 : Int) < b2 := by omega
    go_wp2
    go_roundw
    case rel => exact ⟨i + 1, by go_num, by omega, KR3⟩
    case measure => simp [intOf]; omega
   have y0 : (0 : Int) < b2 := by have := OP0.out; omega
   have hb := OP.out hz0
   subst hb
   go_wp2
   go_roundw
   case rel => exact ⟨i + 1, by go_num, by omega, KR3⟩
   case measure => simp [intOf]; omega
  have x2 : ¬ (i : Int) < (q.cs.length : Int) := by omega
  have HL := iH ZZ.out.ok.hasLast
  obtain ⟨ln, hln⟩ : ∃ ln, ln = xqk (trmQ q).ps := ⟨_, rfl⟩
  have HLN := iH hln
  clear hln
  go_upto_region 18 with fail
  go_cut [11, 12] (fun sb so wx => ∃ (wq : World) (zt : Nat), wq = wx /\ sb = .pointer (some ⟨zt, 0, none⟩) /\ so = .bool (decide (0 < xqk (trmQ q).ps)) /\ Hid (Kept w4 wq []))
  case first =>
   obtain ⟨w30, hw30⟩ : ∃ w', w' = wr.drew := ⟨_, rfl⟩
   have K30 := iH (show Kept w4 w30 [] by rw [hw30]; exact KR.out.drew)
   refine wp_region_held_drew (S := fun Z => Kept w4 Z []) (by kernel_rfl) (by rw [<- hw30]; exact K30.out) (fun hJ => ?_)
   rw [<- hw30] at hJ ⊢
   clear hw30
   refine wx 0 95 (.pointer (some ⟨hx, 0, none⟩)) rfl hJ ?_
   refine wx 1 96 (.pointer (some ⟨hx, 0, none⟩)) rfl hJ ?_
   refine wx 2 97 (.pointer (some ⟨hx, 2, none⟩)) rfl hJ ?_
   refine wx 3 98 (.pointer (some ⟨a.h, 0, none⟩)) rfl hJ ?_ (hy := fun V hV => by (obtain ⟨u0, u1, u2, u3⟩ := xqd (BB.out.keep hV).hx; go_simp))
   refine wx 5 100 (.pointer (some ⟨hx, 0, none⟩)) rfl hJ ?_
   refine wx 6 101 (.pointer (some ⟨hx, 0, none⟩)) rfl hJ ?_
   refine wx 7 102 (.pointer (some ⟨hx, 2, none⟩)) rfl hJ ?_
   refine wx 8 103 (.pointer (some ⟨a.h, 0, none⟩)) rfl hJ ?_ (hy := fun V hV => by (obtain ⟨u0, u1, u2, u3⟩ := xqd (BB.out.keep hV).hx; go_simp))
   refine wpAnyH_ready (rs := [4, 15]) (by kernel_rfl) (by simp) ?_
   refine (AllReadyH.cons (o := _) rfl (fun K hK => ?_) (AllReadyH.cons (o := _) rfl (fun K hK => ?_) AllReadyH.nil))
   ·go_simp
    go_at_call 39
    refine (lkC (yqn (BB.out.keep K30.out).ks)).mono ?_
    rintro e w31 ⟨rfl, p⟩
    have K31 := iH (K30.out.trans p (by simp))
    clear p hJ
    go_wp2_with fail
    refine hK.out _ _ K31.out (fun hJ => ?_)
    clear hK K
    refine wpAnyH_ready (rs := [9, 15]) (by kernel_rfl) (by simp) ?_
    refine (AllReadyH.cons (o := _) rfl (fun K hK => ?_) (AllReadyH.cons (o := _) rfl (fun K hK => ?_) AllReadyH.nil))
    ·go_simp
     go_at_call 39
     refine (lkC (yqn (BB.out.keep K31.out).ks)).mono ?_
     rintro e w32 ⟨rfl, p⟩
     have K32 := iH (K31.out.trans p (by simp))
     clear p hJ
     go_wp2_with fail
     refine hK.out _ _ K32.out (fun hJ => ?_)
     clear hK K
     refine wpAnyH_ready (rs := [10, 15]) (by kernel_rfl) (by simp) ?_
     refine (AllReadyH.cons (o := _) rfl (fun K hK => ?_) (AllReadyH.cons (o := _) rfl (fun K hK => ?_) AllReadyH.nil))
     ·go_simp
      go_at_call 41
      refine (ktlast_any (BB.out.keep K32.out).ks ZZ.out).mono ?_
      rintro e w33 ⟨rfl, p⟩
      have K33 := iH (K32.out.trans p (by simp))
      clear p hJ
      go_wp2_with fail
      refine hK.out _ _ K33.out (fun hJ => ?_)
      clear hK K
      refine wpAnyH_ready (rs := [11, 15]) (by kernel_rfl) (by simp) ?_
      refine (AllReadyH.cons (o := _) rfl (fun K hK => ?_) (AllReadyH.cons (o := _) rfl (fun K hK => ?_) AllReadyH.nil))
      ·go_simp
       go_at_call 40
       refine (kget_any (BB.out.keep K33.out).ks ZZ.out (xqk (trmQ q).ps)).mono ?_
       rintro e w34 ⟨y, rfl, -, -, -, p⟩
       obtain ⟨y0, y1, y2, y3, y4, y5⟩ := y
       simp only [Tk.cs] at *
       have K34 := iH (K33.out.trans p (by simp))
       rw [HL.out]
       clear p hJ
       go_wp2_with fail
       refine hK.out _ _ K34.out (fun hJ => ?_)
       clear hK K
       refine wx 12 94 (.tuple #[.agg #[.int .i64 y0, .int .i64 y1, .slice y2 y4.length y3, .int .i64 y5], .bool (decide (0 < xqk (trmQ q).ps))]) rfl hJ ?_
       refine wx 13 107 (.agg #[.int .i64 y0, .int .i64 y1, .slice y2 y4.length y3, .int .i64 y5]) rfl hJ ?_
       refine wx 14 108 (.bool (decide (0 < xqk (trmQ q).ps))) rfl hJ ?_
       refine wr1 15 rfl (fun K hK => ?_)
       go_simp
       refine hK.out _ _ (K34.out.alloc zT4) (fun hJ => ?_)
       clear hK K
       obtain ⟨zt, hz⟩ : ∃ z, z = w34.heap.size := ⟨_, rfl⟩
       obtain ⟨w35, hw35⟩ : ∃ w', w' = w34.alloc zT4 := ⟨_, rfl⟩
       have GT35 := iH (show w35.heap[zt]? = some zT4 by rw [hw35, hz]; exact heap_alloc_new w34 _)
       have K35 := iH (show Kept w4 w35 [] by rw [hw35]; exact K34.out.alloc zT4)
       have HZT := iH (show w4.heap.size <= zt by rw [hz]; exact K34.out.size)
       rw [<- hw35, <- hz]
       have hJ := K35.out
       clear hw35 hz
       refine wr1 16 rfl (fun K hK => ?_)
       obtain ⟨w36, hw36⟩ : ∃ w', w' = xqo w35 zt 0 [.int .i64 y0, .int .i64 y1, .slice y2 y4.length y3, .int .i64 y5] := ⟨_, rfl⟩
       have K36 := iH (show Kept w4 w36 [] by rw [hw36]; exact xqr K35.out HZT.out _)
       have HW36 := iH hw36
       clear hw36
       obtain ⟨x0, x1', x2, x3⟩ := xqc GT35.out
       obtain ⟨f0, f1, f2, f3⟩ := xqf GT35.out
       go_simp
       refine hK.out _ (xqo w35 zt 0 [.int .i64 y0, .int .i64 y1, .slice y2 y4.length y3, .int .i64 y5]) (by rw [<- HW36.out]; exact K36.out) (fun hJ => ?_)
       clear hK K
       rw [<- HW36.out] at hJ ⊢
       clear x0 x1' x2 x3 f0 f1 f2 f3
       refine wx 17 12 (.bool (decide (0 < xqk (trmQ q).ps))) rfl hJ ?_
       refine wd ?_
       clear hJ
       go_wp2_with fail
       go_meet
       exact ⟨w36, zt, rfl, rfl, rfl, K36⟩
      go_simp
      refine hK.out _ _ (K33.out.alloc zT4) (fun hJ => ?_)
      clear hK K
      obtain ⟨zt, hz⟩ : ∃ z, z = w33.heap.size := ⟨_, rfl⟩
      obtain ⟨w34, hw34⟩ : ∃ w', w' = w33.alloc zT4 := ⟨_, rfl⟩
      have GT34 := iH (show w34.heap[zt]? = some zT4 by rw [hw34, hz]; exact heap_alloc_new w33 _)
      have K34 := iH (show Kept w4 w34 [] by rw [hw34]; exact K33.out.alloc zT4)
      have HZT := iH (show w4.heap.size <= zt by rw [hz]; exact K33.out.size)
      rw [<- hw34, <- hz]
      have hJ := K34.out
      clear hw34 hz
      refine wr1 11 rfl (fun K hK => ?_)
      go_simp
      go_at_call 40
      refine (kget_any (BB.out.keep K34.out).ks ZZ.out (xqk (trmQ q).ps)).mono ?_
      rintro e w35 ⟨y, rfl, -, -, -, p⟩
      obtain ⟨y0, y1, y2, y3, y4, y5⟩ := y
      simp only [Tk.cs] at *
      have K35 := iH (K34.out.trans p (by simp))
      have GT35 := iH (p.heap (by simp) GT34.out)
      rw [HL.out]
      clear p hJ
      go_wp2_with fail
      refine hK.out _ _ K35.out (fun hJ => ?_)
      clear hK K
      refine wx 12 94 (.tuple #[.agg #[.int .i64 y0, .int .i64 y1, .slice y2 y4.length y3, .int .i64 y5], .bool (decide (0 < xqk (trmQ q).ps))]) rfl hJ ?_
      refine wx 13 107 (.agg #[.int .i64 y0, .int .i64 y1, .slice y2 y4.length y3, .int .i64 y5]) rfl hJ ?_
      refine wx 14 108 (.bool (decide (0 < xqk (trmQ q).ps))) rfl hJ ?_
      refine wr1 16 rfl (fun K hK => ?_)
      obtain ⟨w36, hw36⟩ : ∃ w', w' = xqo w35 zt 0 [.int .i64 y0, .int .i64 y1, .slice y2 y4.length y3, .int .i64 y5] := ⟨_, rfl⟩
      have K36 := iH (show Kept w4 w36 [] by rw [hw36]; exact xqr K35.out HZT.out _)
      have HW36 := iH hw36
      clear hw36
      obtain ⟨x0, x1', x2, x3⟩ := xqc GT35.out
      obtain ⟨f0, f1, f2, f3⟩ := xqf GT35.out
      go_simp
      refine hK.out _ (xqo w35 zt 0 [.int .i64 y0, .int .i64 y1, .slice y2 y4.length y3, .int .i64 y5]) (by rw [<- HW36.out]; exact K36.out) (fun hJ => ?_)
      clear hK K
      rw [<- HW36.out] at hJ ⊢
      clear x0 x1' x2 x3 f0 f1 f2 f3
      refine wx 17 12 (.bool (decide (0 < xqk (trmQ q).ps))) rfl hJ ?_
      refine wd ?_
      clear hJ
      go_wp2_with fail
      go_meet
      exact ⟨w36, zt, rfl, rfl, rfl, K36⟩
     go_simp
     refine hK.out _ _ (K32.out.alloc zT4) (fun hJ => ?_)
     clear hK K
     obtain ⟨zt, hz⟩ : ∃ z, z = w32.heap.size := ⟨_, rfl⟩
     obtain ⟨w33, hw33⟩ : ∃ w', w' = w32.alloc zT4 := ⟨_, rfl⟩
     have GT33 := iH (show w33.heap[zt]? = some zT4 by rw [hw33, hz]; exact heap_alloc_new w32 _)
     have K33 := iH (show Kept w4 w33 [] by rw [hw33]; exact K32.out.alloc zT4)
     have HZT := iH (show w4.heap.size <= zt by rw [hz]; exact K32.out.size)
     rw [<- hw33, <- hz]
     have hJ := K33.out
     clear hw33 hz
     refine wr1 10 rfl (fun K hK => ?_)
     go_simp
     go_at_call 41
     refine (ktlast_any (BB.out.keep K33.out).ks ZZ.out).mono ?_
     rintro e w34 ⟨rfl, p⟩
     have K34 := iH (K33.out.trans p (by simp))
     have GT34 := iH (p.heap (by simp) GT33.out)
     clear p hJ
     go_wp2_with fail
     refine hK.out _ _ K34.out (fun hJ => ?_)
     clear hK K
     refine wr1 11 rfl (fun K hK => ?_)
     go_simp
     go_at_call 40
     refine (kget_any (BB.out.keep K34.out).ks ZZ.out (xqk (trmQ q).ps)).mono ?_
     rintro e w35 ⟨y, rfl, -, -, -, p⟩
     obtain ⟨y0, y1, y2, y3, y4, y5⟩ := y
     simp only [Tk.cs] at *
     have K35 := iH (K34.out.trans p (by simp))
     have GT35 := iH (p.heap (by simp) GT34.out)
     rw [HL.out]
     clear p hJ
     go_wp2_with fail
     refine hK.out _ _ K35.out (fun hJ => ?_)
     clear hK K
     refine wx 12 94 (.tuple #[.agg #[.int .i64 y0, .int .i64 y1, .slice y2 y4.length y3, .int .i64 y5], .bool (decide (0 < xqk (trmQ q).ps))]) rfl hJ ?_
     refine wx 13 107 (.agg #[.int .i64 y0, .int .i64 y1, .slice y2 y4.length y3, .int .i64 y5]) rfl hJ ?_
     refine wx 14 108 (.bool (decide (0 < xqk (trmQ q).ps))) rfl hJ ?_
     refine wr1 16 rfl (fun K hK => ?_)
     obtain ⟨w36, hw36⟩ : ∃ w', w' = xqo w35 zt 0 [.int .i64 y0, .int .i64 y1, .slice y2 y4.length y3, .int .i64 y5] := ⟨_, rfl⟩
     have K36 := iH (show Kept w4 w36 [] by rw [hw36]; exact xqr K35.out HZT.out _)
     have HW36 := iH hw36
     clear hw36
     obtain ⟨x0, x1', x2, x3⟩ := xqc GT35.out
     obtain ⟨f0, f1, f2, f3⟩ := xqf GT35.out
     go_simp
     refine hK.out _ (xqo w35 zt 0 [.int .i64 y0, .int .i64 y1, .slice y2 y4.length y3, .int .i64 y5]) (by rw [<- HW36.out]; exact K36.out) (fun hJ => ?_)
     clear hK K
     rw [<- HW36.out] at hJ ⊢
     clear x0 x1' x2 x3 f0 f1 f2 f3
     refine wx 17 12 (.bool (decide (0 < xqk (trmQ q).ps))) rfl hJ ?_
     refine wd ?_
     clear hJ
     go_wp2_with fail
     go_meet
     exact ⟨w36, zt, rfl, rfl, rfl, K36⟩
    go_simp
    refine hK.out _ _ (K31.out.alloc zT4) (fun hJ => ?_)
    clear hK K
    obtain ⟨zt, hz⟩ : ∃ z, z = w31.heap.size := ⟨_, rfl⟩
    obtain ⟨w32, hw32⟩ : ∃ w', w' = w31.alloc zT4 := ⟨_, rfl⟩
    have GT32 := iH (show w32.heap[zt]? = some zT4 by rw [hw32, hz]; exact heap_alloc_new w31 _)
    have K32 := iH (show Kept w4 w32 [] by rw [hw32]; exact K31.out.alloc zT4)
    have HZT := iH (show w4.heap.size <= zt by rw [hz]; exact K31.out.size)
    rw [<- hw32, <- hz]
    have hJ := K32.out
    clear hw32 hz
    refine wr1 9 rfl (fun K hK => ?_)
    go_simp
    go_at_call 39
    refine (lkC (yqn (BB.out.keep K32.out).ks)).mono ?_
    rintro e w33 ⟨rfl, p⟩
    have K33 := iH (K32.out.trans p (by simp))
    have GT33 := iH (p.heap (by simp) GT32.out)
    clear p hJ
    go_wp2_with fail
    refine hK.out _ _ K33.out (fun hJ => ?_)
    clear hK K
    refine wr1 10 rfl (fun K hK => ?_)
    go_simp
    go_at_call 41
    refine (ktlast_any (BB.out.keep K33.out).ks ZZ.out).mono ?_
    rintro e w34 ⟨rfl, p⟩
    have K34 := iH (K33.out.trans p (by simp))
    have GT34 := iH (p.heap (by simp) GT33.out)
    clear p hJ
    go_wp2_with fail
    refine hK.out _ _ K34.out (fun hJ => ?_)
    clear hK K
    refine wr1 11 rfl (fun K hK => ?_)
    go_simp
    go_at_call 40
    refine (kget_any (BB.out.keep K34.out).ks ZZ.out (xqk (trmQ q).ps)).mono ?_
    rintro e w35 ⟨y, rfl, -, -, -, p⟩
    obtain ⟨y0, y1, y2, y3, y4, y5⟩ := y
    simp only [Tk.cs] at *
    have K35 := iH (K34.out.trans p (by simp))
    have GT35 := iH (p.heap (by simp) GT34.out)
    rw [HL.out]
    clear p hJ
    go_wp2_with fail
    refine hK.out _ _ K35.out (fun hJ => ?_)
    clear hK K
    refine wx 12 94 (.tuple #[.agg #[.int .i64 y0, .int .i64 y1, .slice y2 y4.length y3, .int .i64 y5], .bool (decide (0 < xqk (trmQ q).ps))]) rfl hJ ?_
    refine wx 13 107 (.agg #[.int .i64 y0, .int .i64 y1, .slice y2 y4.length y3, .int .i64 y5]) rfl hJ ?_
    refine wx 14 108 (.bool (decide (0 < xqk (trmQ q).ps))) rfl hJ ?_
    refine wr1 16 rfl (fun K hK => ?_)
    obtain ⟨w36, hw36⟩ : ∃ w', w' = xqo w35 zt 0 [.int .i64 y0, .int .i64 y1, .slice y2 y4.length y3, .int .i64 y5] := ⟨_, rfl⟩
    have K36 := iH (show Kept w4 w36 [] by rw [hw36]; exact xqr K35.out HZT.out _)
    have HW36 := iH hw36
    clear hw36
    obtain ⟨x0, x1', x2, x3⟩ := xqc GT35.out
    obtain ⟨f0, f1, f2, f3⟩ := xqf GT35.out
    go_simp
    refine hK.out _ (xqo w35 zt 0 [.int .i64 y0, .int .i64 y1, .slice y2 y4.length y3, .int .i64 y5]) (by rw [<- HW36.out]; exact K36.out) (fun hJ => ?_)
    clear hK K
    rw [<- HW36.out] at hJ ⊢
    clear x0 x1' x2 x3 f0 f1 f2 f3
    refine wx 17 12 (.bool (decide (0 < xqk (trmQ q).ps))) rfl hJ ?_
    refine wd ?_
    clear hJ
    go_wp2_with fail
    go_meet
    exact ⟨w36, zt, rfl, rfl, rfl, K36⟩
   go_simp
   refine hK.out _ _ (K30.out.alloc zT4) (fun hJ => ?_)
   clear hK K
   obtain ⟨zt, hz⟩ : ∃ z, z = w30.heap.size := ⟨_, rfl⟩
   obtain ⟨w31, hw31⟩ : ∃ w', w' = w30.alloc zT4 := ⟨_, rfl⟩
   have GT31 := iH (show w31.heap[zt]? = some zT4 by rw [hw31, hz]; exact heap_alloc_new w30 _)
   have K31 := iH (show Kept w4 w31 [] by rw [hw31]; exact K30.out.alloc zT4)
   have HZT := iH (show w4.heap.size <= zt by rw [hz]; exact K30.out.size)
   rw [<- hw31, <- hz]
   have hJ := K31.out
   clear hw31 hz
   refine wr1 4 rfl (fun K hK => ?_)
   go_simp
   go_at_call 39
   refine (lkC (yqn (BB.out.keep K31.out).ks)).mono ?_
   rintro e w32 ⟨rfl, p⟩
   have K32 := iH (K31.out.trans p (by simp))
   have GT32 := iH (p.heap (by simp) GT31.out)
   clear p hJ
   go_wp2_with fail
   refine hK.out _ _ K32.out (fun hJ => ?_)
   clear hK K
   refine wr1 9 rfl (fun K hK => ?_)
   go_simp
   go_at_call 39
   refine (lkC (yqn (BB.out.keep K32.out).ks)).mono ?_
   rintro e w33 ⟨rfl, p⟩
   have K33 := iH (K32.out.trans p (by simp))
   have GT33 := iH (p.heap (by simp) GT32.out)
   clear p hJ
   go_wp2_with fail
   refine hK.out _ _ K33.out (fun hJ => ?_)
   clear hK K
   refine wr1 10 rfl (fun K hK => ?_)
   go_simp
   go_at_call 41
   refine (ktlast_any (BB.out.keep K33.out).ks ZZ.out).mono ?_
   rintro e w34 ⟨rfl, p⟩
   have K34 := iH (K33.out.trans p (by simp))
   have GT34 := iH (p.heap (by simp) GT33.out)
   clear p hJ
   go_wp2_with fail
   refine hK.out _ _ K34.out (fun hJ => ?_)
   clear hK K
   refine wr1 11 rfl (fun K hK => ?_)
   go_simp
   go_at_call 40
   refine (kget_any (BB.out.keep K34.out).ks ZZ.out (xqk (trmQ q).ps)).mono ?_
   rintro e w35 ⟨y, rfl, -, -, -, p⟩
   obtain ⟨y0, y1, y2, y3, y4, y5⟩ := y
   simp only [Tk.cs] at *
   have K35 := iH (K34.out.trans p (by simp))
   have GT35 := iH (p.heap (by simp) GT34.out)
   rw [HL.out]
   clear p hJ
   go_wp2_with fail
   refine hK.out _ _ K35.out (fun hJ => ?_)
   clear hK K
   refine wx 12 94 (.tuple #[.agg #[.int .i64 y0, .int .i64 y1, .slice y2 y4.length y3, .int .i64 y5], .bool (decide (0 < xqk (trmQ q).ps))]) rfl hJ ?_
   refine wx 13 107 (.agg #[.int .i64 y0, .int .i64 y1, .slice y2 y4.length y3, .int .i64 y5]) rfl hJ ?_
   refine wx 14 108 (.bool (decide (0 < xqk (trmQ q).ps))) rfl hJ ?_
   refine wr1 16 rfl (fun K hK => ?_)
   obtain ⟨w36, hw36⟩ : ∃ w', w' = xqo w35 zt 0 [.int .i64 y0, .int .i64 y1, .slice y2 y4.length y3, .int .i64 y5] := ⟨_, rfl⟩
   have K36 := iH (show Kept w4 w36 [] by rw [hw36]; exact xqr K35.out HZT.out _)
   have HW36 := iH hw36
   clear hw36
   obtain ⟨x0, x1', x2, x3⟩ := xqc GT35.out
   obtain ⟨f0, f1, f2, f3⟩ := xqf GT35.out
   go_simp
   refine hK.out _ (xqo w35 zt 0 [.int .i64 y0, .int .i64 y1, .slice y2 y4.length y3, .int .i64 y5]) (by rw [<- HW36.out]; exact K36.out) (fun hJ => ?_)
   clear hK K
   rw [<- HW36.out] at hJ ⊢
   clear x0 x1' x2 x3 f0 f1 f2 f3
   refine wx 17 12 (.bool (decide (0 < xqk (trmQ q).ps))) rfl hJ ?_
   refine wd ?_
   clear hJ
   go_wp2_with fail
   go_meet
   exact ⟨w36, zt, rfl, rfl, rfl, K36⟩
  case' rest => obtain ⟨w42, zt, rfl, rfl, rfl, KR4⟩ := hcut
  have B5 := iH (BB.out.keep KR4.out)
  obtain ⟨u0, u1, u2, u3⟩ := xqd B5.out.hx
  rw [<- HLN.out]
  go_wp2_with fail
  refine (lkC (yqn B5.out.ks)).mono ?_
  rintro e w5 ⟨rfl, p⟩
  have B6 := iH (B5.out.keep p)
  clear p u0 u1 u2 u3
  go_wp2_with fail
  refine (ktlast_any B6.out.ks ZZ.out).mono ?_
  rintro e w6 ⟨rfl, p⟩
  have B7 := iH (B6.out.keep p)
  clear p
  rw [<- HLN.out]
  obtain ⟨u0, u1, u2, u3⟩ := xqd B7.out.hx
  have TR2 := ktrm_any B7.out.ks ZZ.out (by omega)
  rw [trm_again] at TR2
  have TT := iH TR2
  clear TR2
  go_wp2_with fail
  refine TT.out.mono ?_
  rintro e w8 ⟨rfl, p⟩
  obtain ⟨O8, b8, -, -, -⟩ := B7.out.code p
  have K8 := iH (K1.out.trans b8.k0 (by simp))
  clear p b8
  go_wp2
  go_ret
  exact ⟨rfl, K8.out.below (Nat.le_refl _) (by simp)⟩
theorem lifted (os : Os) (started : os.Started) (H : Type) (enc : TypeId × Value -> H) :
  ReturnsInHanded {} Tryz.checked os 7 .any (Rows.queueTrimsSpec.pre6 enc Tryz.prog Tryz.f7 Rows.queueTrimsRow.domain false) (Rows.queueTrimsSpec.post enc Tryz.prog Tryz.f7 false true false false) := by
 refine returnsInHanded_of_change (C := Tryz.checked) own started (by kernel_rfl) Tryz.func7
  (ChangeSpec.witness6 (enc := enc) (C := Tryz.checked) false ⟨#[], #[.slice none 0 0], []⟩ 8 (by kernel_rfl) (by kernel_rfl) (by kernel_rfl) (by kernel_rfl)) ?_
 intro W base args ds gs before hval0 hW hcnd _
 have hval : ∀ (j : Nat) t v, Tryz.f7.params[j]? = some t -> args[j]? = some v -> Value.okWide Tryz.prog W .any base t v := hval0
 have hW' := hW
 obtain ⟨p, q, hA0, hV, rfl, hfz, hnd⟩ := hW
 have hA : DataW.TrodAll enc Tryz.prog W 0 (fun _ => true) true Tryz.f7.params.toList args.toList ds p := hA0
 rw [Tryz.params7] at hA hval
 obtain ⟨v0, vs0, d0, ds0, p0, q0, hargs, rfl, rfl, h0, r0⟩ := trodAll_cons hA
 obtain ⟨rfl, rfl, rfl⟩ := trodAll_nil r0
 obtain rfl : args = #[v0] := by cases args; simp_all
 obtain ⟨rfl, rfl⟩ := trodVars_none hV
 obtain ⟨a0, len0, cap0, rfl⟩ := okWide_slice Tryz.underlying22 (hval 0 22 v0 rfl rfl)
 have k0 := h0
 have lt0 : ∀ x ∈ p0, x.block < W.heap.size := by obtain ⟨m, hm⟩ := k0; exact DataW.trod_lt m _ _ _ hm
 obtain ⟨z0, w0⟩ : ∃ f, IsActsQ W W.heap.size a0 len0 f /\ len0 <= maxLen := by
  obtain ⟨fuel, hf⟩ := h0
  exact actsq_open (by simpa [Value.cells] using hf)
 clear hA0 hval0
 refine (walk a0 len0 cap0 z0 W w0).mono fun e W' ⟨he, bel⟩ => ?_
 subst he
 exact ⟨_, rfl, _, _, _, [], _, [], hW', trodAll_mk1 (shut_bool Tryz.underlying4 _), (trodAll_cons_mk (Below.trod laidOut (by kernel_rfl) (of_decide_eq_true (by kernel_rfl)) k0 bel lt0) trodAll_mk0), rfl, bel.frame _, fun h => by cases h⟩
theorem over : Rows.queueTrimsRow.holds Tryz.pinned (OpenSpec.ofChange Rows.queueTrimsSpec) :=
 OpenClaim.holds_of_wide 7 Tryz.f7 rfl rfl rfl rfl rfl rfl rfl ⟨rfl, rfl, rfl, rfl, rfl⟩ rfl rfl rfl rfl rfl (by kernel_rfl) Tryz.func7 (by kernel_rfl)
  (of_decide_eq_true (by kernel_rfl)) (by unfold Func.isWrapper; first | (rw [if_pos (by decide +kernel)]; kernel_rfl) | (rw [if_neg (by decide +kernel)]; exact ⟨rfl, rfl⟩))
  (fun os started H enc _ => lifted os started H enc)
theorem proved : Rows.QueueTrimsSaid :=
 over
end Go.Proofs.YticiofkiffgclaaGreat.queueTrims
namespace Go.Proofs.YticiofkiffgclaaGreat
theorem queueTrims_holds : Rows.QueueTrimsSaid := queueTrims.proved
#print axioms queueTrims_holds
end Go.Proofs.YticiofkiffgclaaGreat
