/-
 Proved: whatever the arguments are, carrierlaw16.EntryBack answers true and leaves its arguments as they were. No condition.
-/
import Derived.Test.YtjdbmlifekghfaaEt0
import Derived.Test.YtjdbmlifekghfaaEt35
import Derived.Test.YtjdbmlifekghfaaEt1
import Derived.ProofKit
import Derived.OpenShut
import Derived.ShutString
import Derived.ChangeOld
import Derived.Below
set_option linter.unusedVariables false
set_option maxHeartbeats 16000000
set_option maxRecDepth 100000
namespace Go.Proofs.Ytjdbmlifekghfaa.entryBack
open Go.ChangeShapes Go.WideShapes Go.ChangeAt Go.RowKit
theorem own : ownKnob Try.prog.godebug = none := by kernel_rfl
theorem laidOut : laidOutB Try.prog = true := by kernel_rfl
theorem walk (r : Rw) (vl vk vg vs : Value) (bl bg bs : List UInt8) (W : World) (d : RdW W r vl vk vg vs bl bg bs) (u : r.Num) :
  Calls Try.prog 3 #[.agg (r.cs vl vk vg vs)] W fun e w' => e = .returned (.bool true) /\ Below W.heap.size W w' := by
 obtain ⟨la, lc, rfl, _⟩ := id d.l
 obtain ⟨ka, kc, rfl, _⟩ := id d.k
 obtain ⟨ga, gc, rfl, _⟩ := id d.g
 obtain ⟨sa, sc, rfl, _⟩ := id d.s
 obtain ⟨rk, rtx, rn, ra, rnm, rM, rl, rks, rt, rgs, rss⟩ := r
 by_cases sm : (⟨rk, rtx, rn, ra, rnm, rM, rl, rks, rt, rgs, rss⟩ : Rw).Small bl bg bs
 case neg =>
  have HN := fun (V : World) (hV : Kept W V []) => small_no (⟨rk, rtx, rn, ra, rnm, rM, rl, rks, rt, rgs, rss⟩ : Rw) (.slice la bl.length lc) (.slice ka rks.length kc) (.slice ga bg.length gc) (.slice sa bs.length sc) bl bg bs V (d.keep hV) sm
  simp only [Rw.cs_eq] at HN
  have HN := iH HN
  clear d u sm
  rw [Rw.cs_eq]
  go_enter Try.func3, Try.ntmps3
  go_wp2_with fail
  refine (nine_any _).mono ?_
  rintro e w1 ⟨rfl, hk⟩
  have K1 := iH (((Kept.refl W []).alloc _).trans hk (by simp))
  have B1 := iH (hk.heap (by simp) (heap_alloc_new W (.cells #[.int .u8 (rk : Nat), .int .i64 rtx, .int .i64 rn, .int .i64 ra, .string rnm, .int .u8 (rM : Nat), .slice la bl.length lc, .slice ka rks.length kc, .string rt, .slice ga bg.length gc, .slice sa bs.length sc] 25)))
  clear hk
  have pp := fun j => cell_of_row w1 W.heap.size j _ _ _ B1.out
  have p0 := pp 0
  have p1 := pp 1
  have p2 := pp 2
  have p3 := pp 3
  have p4 := pp 4
  have p5 := pp 5
  have p6 := pp 6
  have p7 := pp 7
  have p8 := pp 8
  have p9 := pp 9
  have p10 := pp 10
  simp only [List.getElem?_toArray, List.getElem?_cons_zero, List.getElem?_cons_succ] at p0 p1 p2 p3 p4 p5 p6 p7 p8 p9 p10
  clear pp
  go_wp2_with fail
  refine (HN.out _ K1.out).mono ?_
  rintro e w2 ⟨rfl, hk⟩
  have K2 := iH (K1.out.trans hk (by simp)); have B2 := iH (hk.heap (by simp) B1.out)
  clear hk
  clear p0 p1 p2 p3 p4 p5 p6 p7 p8 p9 p10
  go_wp2_with fail
  refine (nine_any _).mono ?_
  rintro e w9 ⟨rfl, hk⟩
  have K9 := iH (K2.out.trans hk (by simp)); clear hk
  go_wp2
  go_ret
  exact ⟨rfl, K9.out.below (Nat.le_refl _) (by simp)⟩
 have HY := fun (V : World) (hV : Kept W V []) => small_yes (⟨rk, rtx, rn, ra, rnm, rM, rl, rks, rt, rgs, rss⟩ : Rw) (.slice la bl.length lc) (.slice ka rks.length kc) (.slice ga bg.length gc) (.slice sa bs.length sc) bl bg bs V (d.keep hV) sm
 simp only [Rw.cs_eq] at HY
 have HY := iH HY
 have HOF := fun (V : World) (hV : Kept W V []) => of_lit (⟨rk, rtx, rn, ra, rnm, rM, rl, rks, rt, rgs, rss⟩ : Rw) (.slice la bl.length lc) (.slice ka rks.length kc) (.slice ga bg.length gc) (.slice sa bs.length sc) bl bg bs V (d.keep hV) u sm
 simp only [Rw.cs_eq] at HOF
 have HOF := iH HOF
 clear d u sm
 rw [Rw.cs_eq]
 go_enter Try.func3, Try.ntmps3
 go_wp2_with fail
 refine (nine_any _).mono ?_
 rintro e w1 ⟨rfl, hk⟩
 have K1 := iH (((Kept.refl W []).alloc _).trans hk (by simp))
 have B1 := iH (hk.heap (by simp) (heap_alloc_new W (.cells #[.int .u8 (rk : Nat), .int .i64 rtx, .int .i64 rn, .int .i64 ra, .string rnm, .int .u8 (rM : Nat), .slice la bl.length lc, .slice ka rks.length kc, .string rt, .slice ga bg.length gc, .slice sa bs.length sc] 25)))
 clear hk
 have pp := fun j => cell_of_row w1 W.heap.size j _ _ _ B1.out
 have p0 := pp 0
 have p1 := pp 1
 have p2 := pp 2
 have p3 := pp 3
 have p4 := pp 4
 have p5 := pp 5
 have p6 := pp 6
 have p7 := pp 7
 have p8 := pp 8
 have p9 := pp 9
 have p10 := pp 10
 simp only [List.getElem?_toArray, List.getElem?_cons_zero, List.getElem?_cons_succ] at p0 p1 p2 p3 p4 p5 p6 p7 p8 p9 p10
 clear pp
 go_wp2_with fail
 refine (HY.out _ K1.out).mono ?_
 rintro e w2 ⟨rfl, hk⟩
 have K2 := iH (K1.out.trans hk (by simp)); have B2 := iH (hk.heap (by simp) B1.out)
 clear hk
 clear p0 p1 p2 p3 p4 p5 p6 p7 p8 p9 p10
 have pp := fun j => cell_of_row w2 W.heap.size j _ _ _ B2.out
 have p0 := pp 0
 have p1 := pp 1
 have p2 := pp 2
 have p3 := pp 3
 have p4 := pp 4
 have p5 := pp 5
 have p6 := pp 6
 have p7 := pp 7
 have p8 := pp 8
 have p9 := pp 9
 have p10 := pp 10
 simp only [List.getElem?_toArray, List.getElem?_cons_zero, List.getElem?_cons_succ] at p0 p1 p2 p3 p4 p5 p6 p7 p8 p9 p10
 clear pp
 go_wp2_with fail
 refine (HOF.out _ K2.out).mono ?_
 rintro e w3 ⟨k, tx, nx, id1, ops, evs, tn, tm, op, ta, nm, n, at1, ao, ao1, ae, ae1, ai, ai1, M, l, rfl, rd3, lw3, hr3, hn3, hE3, hM3, k3⟩
 clear p0 p1 p2 p3 p4 p5 p6 p7 p8 p9 p10
 have K3 := iH (K2.out.trans k3 (by simp))
 clear hE3 hM3 k3
 have hlen := encL_len hr3
 have hops := hr3.nops; have hevs := hr3.nevs
 dsimp only at hops hevs
 have hbk := en_back hr3
 rw [hn3] at hbk
 have HFE := fun (V : World) (zo : Option Addr) (zo1 : Nat) (ze : Option Addr) (ze1 : Nat) (zi : Option Addr) (zi1 : Nat) (r : RdN V (⟨k, tx, nx, id1, ops, evs, tn, tm, op, ta, nm, n, at1⟩ : En) (.slice zo ops.length zo1) (.slice ze evs.length ze1) (.slice zi op.length zi1)) => rencode16_any (⟨k, tx, nx, id1, ops, evs, tn, tm, op, ta, nm, n, at1⟩ : En) (.slice zo ops.length zo1) (.slice ze evs.length ze1) (.slice zi op.length zi1) V hr3 r
 simp only [En.cs] at HFE
 have HEN := fun (V : World) (zo : Option Addr) (zo1 : Nat) (ze : Option Addr) (ze1 : Nat) (zi : Option Addr) (zi1 : Nat) (r : RdN V (⟨k, tx, nx, id1, ops, evs, tn, tm, op, ta, nm, n, at1⟩ : En) (.slice zo ops.length zo1) (.slice ze evs.length ze1) (.slice zi op.length zi1)) (lw : LowN V (.slice zo ops.length zo1) (.slice ze evs.length ze1) (.slice zi op.length zi1)) => eencode_any (⟨k, tx, nx, id1, ops, evs, tn, tm, op, ta, nm, n, at1⟩ : En) (.slice zo ops.length zo1) (.slice ze evs.length ze1) (.slice zi op.length zi1) V hr3 r lw.1 lw.2.1 lw.2.2
 simp only [En.cs] at HEN
 obtain ⟨L, hL⟩ : ∃ L, L = En.encL (⟨k, tx, nx, id1, ops, evs, tn, tm, op, ta, nm, n, at1⟩ : En) := ⟨_, rfl⟩
 rw [<- hL] at HFE HEN hlen hbk
 have HFE := iH HFE; have HEN := iH HEN; have HLL := iH hlen.1
 have HD := iH (fun v V (h : Rd V v L) => ed_any k tx nx id1 ops evs tn tm op ta nm n at1 v L 0 V h (by omega) hbk.1 hbk.2)
 have HRD := iH (fun v V (h : Rd V v L) => rd_any k tx nx id1 ops evs tn tm op ta nm n at1 v L 0 V h (by omega) hbk.1 hbk.2)
 have HTU := iH (fun V (zo : Option Addr) (zo1 : Nat) (ze : Option Addr) (ze1 : Nat) (zi : Option Addr) (zi1 : Nat) (r : RdN V (⟨k, tx, nx, id1, ops, evs, tn, tm, op, ta, nm, n, at1⟩ : En) (.slice zo ops.length zo1) (.slice ze evs.length ze1) (.slice zi op.length zi1)) (fi : ∀ b, (Value.slice zi op.length zi1).ownBlock = some b -> b < V.heap.size) => tu_any k tx nx id1 ops evs tn tm op ta nm n at1 zo zo1 ze ze1 zi zi1 V r fi (by omega) (by omega))
 have HBA := iH (fun V (zo : Option Addr) (zo1 : Nat) (ze : Option Addr) (ze1 : Nat) (zi : Option Addr) (zi1 : Nat) (r : RdN V (⟨k, tx, nx, id1, ops, evs, tn, tm, op, ta, nm, n, at1⟩ : En) (.slice zo ops.length zo1) (.slice ze evs.length ze1) (.slice zi op.length zi1)) => ba_any k tx nx id1 ops evs tn tm op ta nm n at1 zo zo1 ze ze1 zi zi1 V r (by omega) (by omega))
 have HSE : RowKit.Hid (∀ V (yo : Option Addr) (yo1 : Nat) (ye : Option Addr) (ye1 : Nat) (yi : Option Addr) (yi1 : Nat) (zo : Option Addr) (zo1 : Nat) (ze : Option Addr) (ze1 : Nat) (zi : Option Addr) (zi1 : Nat), RdN V (⟨k, tx, nx, id1, ops, evs, tn, tm, op, ta, nm, n, at1⟩ : En) (.slice yo ops.length yo1) (.slice ye evs.length ye1) (.slice yi op.length yi1) -> RdN V (⟨k, tx, nx, id1, ops, evs, tn, tm, op, ta, nm, n, at1⟩ : En) (.slice zo ops.length zo1) (.slice ze evs.length ze1) (.slice zi op.length zi1) -> Calls Try.prog 18 #[.agg #[.int .u8 k, .int .i64 tx, .int .i64 nx, .int .i64 id1, .slice yo ops.length yo1, .slice ye evs.length ye1, .int .i64 tn, .int .i64 tm, .slice yi op.length yi1, .int .i64 ta, .string nm, .int .i64 n, .int .i64 at1], .agg #[.int .u8 k, .int .i64 tx, .int .i64 nx, .int .i64 id1, .slice zo ops.length zo1, .slice ze evs.length ze1, .int .i64 tn, .int .i64 tm, .slice zi op.length zi1, .int .i64 ta, .string nm, .int .i64 n, .int .i64 at1]] V fun e w' => e = .returned (.bool true) /\ Kept V w' []) := iH (fun V yo yo1 ye ye1 yi yi1 zo zo1 ze ze1 zi zi1 r1 r2 => EqP.ye (w := V) (esame_any (⟨k, tx, nx, id1, ops, evs, tn, tm, op, ta, nm, n, at1⟩ : En) (⟨k, tx, nx, id1, ops, evs, tn, tm, op, ta, nm, n, at1⟩ : En) (.slice yo ops.length yo1) (.slice ye evs.length ye1) (.slice yi op.length yi1) (.slice zo ops.length zo1) (.slice ze evs.length ze1) (.slice zi op.length zi1) V r1 r2 ⟨by dsimp only; omega, by dsimp only; omega⟩ ⟨by dsimp only; omega, by dsimp only; omega⟩) rfl)
 have HSR : RowKit.Hid (∀ V (yo : Option Addr) (yo1 : Nat) (ye : Option Addr) (ye1 : Nat) (yi : Option Addr) (yi1 : Nat) (zo : Option Addr) (zo1 : Nat) (ze : Option Addr) (ze1 : Nat) (zi : Option Addr) (zi1 : Nat), RdN V (⟨k, tx, nx, id1, ops, evs, tn, tm, op, ta, nm, n, at1⟩ : En) (.slice yo ops.length yo1) (.slice ye evs.length ye1) (.slice yi op.length yi1) -> RdN V (⟨k, tx, nx, id1, ops, evs, tn, tm, op, ta, nm, n, at1⟩ : En) (.slice zo ops.length zo1) (.slice ze evs.length ze1) (.slice zi op.length zi1) -> Calls Try.prog 19 #[.agg #[.int .u8 k, .int .i64 tx, .int .i64 nx, .int .i64 id1, .slice yo ops.length yo1, .slice ye evs.length ye1, .int .i64 tn, .int .i64 tm, .slice yi op.length yi1, .int .i64 ta, .string nm, .int .i64 n, .int .i64 at1], .agg #[.int .u8 k, .int .i64 tx, .int .i64 nx, .int .i64 id1, .slice zo ops.length zo1, .slice ze evs.length ze1, .int .i64 tn, .int .i64 tm, .slice zi op.length zi1, .int .i64 ta, .string nm, .int .i64 n, .int .i64 at1]] V fun e w' => e = .returned (.bool true) /\ Kept V w' []) := iH (fun V yo yo1 ye ye1 yi yi1 zo zo1 ze ze1 zi zi1 r1 r2 => EqP.ye (w := V) (rsame_any (⟨k, tx, nx, id1, ops, evs, tn, tm, op, ta, nm, n, at1⟩ : En) (⟨k, tx, nx, id1, ops, evs, tn, tm, op, ta, nm, n, at1⟩ : En) (.slice yo ops.length yo1) (.slice ye evs.length ye1) (.slice yi op.length yi1) (.slice zo ops.length zo1) (.slice ze evs.length ze1) (.slice zi op.length zi1) V r1 r2 ⟨by dsimp only; omega, by dsimp only; omega⟩) rfl)
 clear hL hlen hbk hops hevs hr3 hn3
 have LW3 := iH lw3
 have R4 := iH (rd3.keep ((Kept.refl w3 []).alloc (.cells #[.int .u8 k, .int .i64 tx, .int .i64 nx, .int .i64 id1, .slice ao ops.length ao1, .slice ae evs.length ae1, .int .i64 tn, .int .i64 tm, .slice ai op.length ai1, .int .i64 ta, .string nm, .int .i64 n, .int .i64 at1] 35)))
 have B4 := iH (heap_alloc_new w3 (.cells #[.int .u8 k, .int .i64 tx, .int .i64 nx, .int .i64 id1, .slice ao ops.length ao1, .slice ae evs.length ae1, .int .i64 tn, .int .i64 tm, .slice ai op.length ai1, .int .i64 ta, .string nm, .int .i64 n, .int .i64 at1] 35))
 obtain ⟨q, hq⟩ : ∃ q, q = w3.heap.size := ⟨_, rfl⟩
 obtain ⟨w4, hw4⟩ : ∃ w4, w4 = w3.alloc (.cells #[.int .u8 k, .int .i64 tx, .int .i64 nx, .int .i64 id1, .slice ao ops.length ao1, .slice ae evs.length ae1, .int .i64 tn, .int .i64 tm, .slice ai op.length ai1, .int .i64 ta, .string nm, .int .i64 n, .int .i64 at1] 35) := ⟨_, rfl⟩
 have LW4 : RowKit.Hid (∀ b, (Value.slice ai op.length ai1).ownBlock = some b -> b < w4.heap.size) := iH (fun b hb => by have := LW3.out.2.2 b hb; rw [hw4]; simp; omega)
 have K4 : RowKit.Hid (Kept W w4 []) := iH (by rw [hw4]; exact K3.out.alloc _)
 rw [<- hw4] at R4 B4
 rw [<- hq] at B4
 clear rd3 lw3
 go_upto_region 4 with fail
 rw [<- hw4, <- hq]
 clear hw4 hq
 have pp := fun j => cell_of_row w4 q j _ _ _ B4.out
 have p0 := pp 0
 have p1 := pp 1
 have p2 := pp 2
 have p3 := pp 3
 have p4 := pp 4
 have p5 := pp 5
 have p6 := pp 6
 have p7 := pp 7
 have p8 := pp 8
 have p9 := pp 9
 have p10 := pp 10
 have p11 := pp 11
 have p12 := pp 12
 simp only [List.getElem?_toArray, List.getElem?_cons_zero, List.getElem?_cons_succ] at p0 p1 p2 p3 p4 p5 p6 p7 p8 p9 p10 p11 p12
 clear pp
 go_wp2_with fail
 refine (HTU.out _ _ _ _ _ _ _ R4.out LW4.out).mono ?_
 rintro e w5 ⟨b5o, b5o1, b5e, b5e1, rfl, r5, lw5, k5⟩
 have K5 := iH (K4.out.trans k5 (by simp)); have R5 := iH r5; have LW5 := iH lw5; have R4b := iH (R4.out.keep k5); have B5 := iH (k5.heap (by simp) B4.out)
 have KQ5 := iH k5
 clear r5 lw5 k5
 clear p0 p1 p2 p3 p4 p5 p6 p7 p8 p9 p10 p11 p12
 go_wp2_with fail
 refine (HEN.out _ _ _ _ _ _ _ R5.out LW5.out).mono ?_
 rintro e w6 ⟨v6, rfl, o6, k6⟩
 obtain ⟨a6, n6, c6, e6⟩ := o6.shape3
 subst e6
 have K6 := iH (K5.out.trans k6 (by simp)); have O6 := iH o6.rd; have R6 := iH (R4b.out.keep k6); have B6 := iH (k6.heap (by simp) B5.out)
 have LW6 : RowKit.Hid (∀ b, (Value.slice ai op.length ai1).ownBlock = some b -> b < w6.heap.size) := iH (fun b hb => Nat.lt_of_lt_of_le (LW5.out.2.2 b hb) k6.size)
 clear k6 o6
 go_wp2_with fail
 refine (HD.out _ _ O6.out).mono ?_
 rintro e w7 ⟨xo, xo1, xe, xe1, xi, xi1, rfl, r7, k7⟩
 have K7 := iH (K6.out.trans k7 (by simp)); have O7 := iH (O6.out.kept k7 (by simp)); have R7 := iH (R6.out.keep k7); have X7 := iH r7; have B7 := iH (k7.heap (by simp) B6.out)
 have S7 := iH k7.size
 clear r7 k7
 go_wp2_with fail
 refine (HRD.out _ _ (O7.out.kept ((Kept.refl w7 []).alloc _) (by simp))).mono ?_
 rintro e w8 ⟨yo, yo1, ye, ye1, yi, yi1, rfl, r8, k8⟩
 have kk := (((Kept.refl w7 []).alloc (.cells #[.int .u8 k, .int .i64 tx, .int .i64 nx, .int .i64 id1, .slice xo ops.length xo1, .slice xe evs.length xe1, .int .i64 tn, .int .i64 tm, .slice xi op.length xi1, .int .i64 ta, .string nm, .int .i64 n, .int .i64 at1] 41)).trans k8 (by simp)).alloc (.cells #[.int .u8 k, .int .i64 tx, .int .i64 nx, .int .i64 id1, .slice yo ops.length yo1, .slice ye evs.length ye1, .int .i64 tn, .int .i64 tm, .slice yi op.length yi1, .int .i64 ta, .string nm, .int .i64 n, .int .i64 at1] 35)
 obtain ⟨W9, hW9⟩ : ∃ W9, W9 = w8.alloc (.cells #[.int .u8 k, .int .i64 tx, .int .i64 nx, .int .i64 id1, .slice yo ops.length yo1, .slice ye evs.length ye1, .int .i64 tn, .int .i64 tm, .slice yi op.length yi1, .int .i64 ta, .string nm, .int .i64 n, .int .i64 at1] 35) := ⟨_, rfl⟩
 rw [<- hW9] at kk
 have K9 : RowKit.Hid (Kept W W9 []) := iH (K7.out.trans kk (by simp)); have O9 := iH (O7.out.kept kk (by simp)); have R9 := iH (R7.out.keep kk); have X9 := iH (X7.out.keep kk); have Y9 : RowKit.Hid (RdN W9 (⟨k, tx, nx, id1, ops, evs, tn, tm, op, ta, nm, n, at1⟩ : En) (.slice yo ops.length yo1) (.slice ye evs.length ye1) (.slice yi op.length yi1)) := iH (by rw [hW9]; exact r8.keep ((Kept.refl w8 []).alloc _))
 have B9 := iH (kk.heap (by simp) B7.out)
 have BX9 : RowKit.Hid (W9.heap[w7.heap.size]? = some (.cells #[.int .u8 k, .int .i64 tx, .int .i64 nx, .int .i64 id1, .slice xo ops.length xo1, .slice xe evs.length xe1, .int .i64 tn, .int .i64 tm, .slice xi op.length xi1, .int .i64 ta, .string nm, .int .i64 n, .int .i64 at1] 41 (0, 0))) := iH (by rw [hW9]; exact ((Kept.refl w8 []).alloc _).heap (by simp) (k8.heap (by simp) (heap_alloc_new w7 _)))
 have BY9 : RowKit.Hid (W9.heap[w8.heap.size]? = some (.cells #[.int .u8 k, .int .i64 tx, .int .i64 nx, .int .i64 id1, .slice yo ops.length yo1, .slice ye evs.length ye1, .int .i64 tn, .int .i64 tm, .slice yi op.length yi1, .int .i64 ta, .string nm, .int .i64 n, .int .i64 at1] 35 (0, 0))) := iH (by rw [hW9]; exact heap_alloc_new w8 _)
 have LW9 : RowKit.Hid (∀ b, (Value.slice ai op.length ai1).ownBlock = some b -> b < W9.heap.size) := iH (fun b hb => Nat.lt_of_lt_of_le (LW6.out b hb) (Nat.le_trans S7.out kk.size))
 clear k8 kk r8
 go_upto_region 7 with fail
 rw [<- hW9]
 clear hW9
 have RE := iH (fun V (hV : Kept W9 V []) => R9.out.keep hV); have RX := iH (fun V (hV : Kept W9 V []) => X9.out.keep hV); have RY := iH (fun V (hV : Kept W9 V []) => Y9.out.keep hV); have RO := iH (fun V (hV : Kept W9 V []) => O9.out.kept hV (by simp)); have LWV := iH (fun V (hV : Kept W9 V []) => fun b hb => Nat.lt_of_lt_of_le (LW9.out b hb) hV.size)
 refine wp_region_held_drew (S := fun Z => Kept W9 Z []) (by kernel_rfl) (Kept.refl W9 []).drew (fun hJ => ?_)
 refine wx 0 32 (.slice a6 n6 c6) rfl hJ ?_
 refine wx 1 33 (.agg #[.int .u8 k, .int .i64 tx, .int .i64 nx, .int .i64 id1, .slice ao ops.length ao1, .slice ae evs.length ae1, .int .i64 tn, .int .i64 tm, .slice ai op.length ai1, .int .i64 ta, .string nm, .int .i64 n, .int .i64 at1]) rfl hJ ?_ (hy := fun V hV => by (have hh := hV.heap (by simp) B9.out; have q0 := cell_of_row V _ 0 _ _ _ hh; have q1 := cell_of_row V _ 1 _ _ _ hh; have q2 := cell_of_row V _ 2 _ _ _ hh; have q3 := cell_of_row V _ 3 _ _ _ hh; have q4 := cell_of_row V _ 4 _ _ _ hh; have q5 := cell_of_row V _ 5 _ _ _ hh; have q6 := cell_of_row V _ 6 _ _ _ hh; have q7 := cell_of_row V _ 7 _ _ _ hh; have q8 := cell_of_row V _ 8 _ _ _ hh; have q9 := cell_of_row V _ 9 _ _ _ hh; have q10 := cell_of_row V _ 10 _ _ _ hh; have q11 := cell_of_row V _ 11 _ _ _ hh; have q12 := cell_of_row V _ 12 _ _ _ hh; clear hV hh; simp only [List.getElem?_toArray, List.getElem?_cons_zero, List.getElem?_cons_succ] at q0 q1 q2 q3 q4 q5 q6 q7 q8 q9 q10 q11 q12; go_simp))
 refine wr1 2 rfl (fun KZ hK => ?_)
 go_simp
 go_at_call 17
 refine (HFE.out _ _ _ _ _ _ _ (RE.out _ (Kept.refl W9 []).drew)).mono ?_
 rintro e w10 ⟨v10, rfl, o10, k10⟩
 obtain ⟨a10, n10, c10, e10⟩ := o10.shape3
 subst e10
 have k10 := ((Kept.refl W9 []).drew).trans k10 (by simp)
 have o10 := o10.rd
 go_wp2_with fail
 refine hK.out _ _ k10 (fun hJ => ?_)
 clear hK KZ
 refine wr1 3 rfl (fun KZ hK => ?_)
 go_simp
 go_at_call 16
 refine (alike_any _ _ L L _ (RO.out _ k10) o10 (by have := HLL.out; omega)).mono ?_
 rintro e w11 ⟨rfl, k11⟩
 have k11 := k10.trans k11 (by simp)
 clear k10 o10
 have hLL : (L == L) = true := by simp
 go_wp2_with fail
 refine hK.out _ _ k11 (fun hJ => ?_)
 clear hK KZ
 refine wx 4 36 (.bool true) rfl hJ ?_
 clear hLL
 refine wx 5 37 (.int .i64 0) rfl hJ ?_
 refine wx 6 38 (.bool true) rfl hJ ?_
 refine wx 7 39 (.bool true) rfl hJ ?_
 refine wx 8 40 (.bool true) rfl hJ ?_
 refine wx 9 41 (.int .i64 0) rfl hJ ?_
 refine wx 10 42 (.bool true) rfl hJ ?_
 refine wx 11 43 (.bool true) rfl hJ ?_
 refine wx 12 44 (.bool true) rfl hJ ?_
 refine wx 13 45 (.agg #[.int .u8 k, .int .i64 tx, .int .i64 nx, .int .i64 id1, .slice xo ops.length xo1, .slice xe evs.length xe1, .int .i64 tn, .int .i64 tm, .slice xi op.length xi1, .int .i64 ta, .string nm, .int .i64 n, .int .i64 at1]) rfl hJ ?_ (hy := fun V hV => by (have hh := hV.heap (by simp) BX9.out; have q0 := cell_of_row V _ 0 _ _ _ hh; have q1 := cell_of_row V _ 1 _ _ _ hh; have q2 := cell_of_row V _ 2 _ _ _ hh; have q3 := cell_of_row V _ 3 _ _ _ hh; have q4 := cell_of_row V _ 4 _ _ _ hh; have q5 := cell_of_row V _ 5 _ _ _ hh; have q6 := cell_of_row V _ 6 _ _ _ hh; have q7 := cell_of_row V _ 7 _ _ _ hh; have q8 := cell_of_row V _ 8 _ _ _ hh; have q9 := cell_of_row V _ 9 _ _ _ hh; have q10 := cell_of_row V _ 10 _ _ _ hh; have q11 := cell_of_row V _ 11 _ _ _ hh; have q12 := cell_of_row V _ 12 _ _ _ hh; clear hV hh; simp only [List.getElem?_toArray, List.getElem?_cons_zero, List.getElem?_cons_succ] at q0 q1 q2 q3 q4 q5 q6 q7 q8 q9 q10 q11 q12; go_simp))
 refine wx 14 46 (.agg #[.int .u8 k, .int .i64 tx, .int .i64 nx, .int .i64 id1, .slice ao ops.length ao1, .slice ae evs.length ae1, .int .i64 tn, .int .i64 tm, .slice ai op.length ai1, .int .i64 ta, .string nm, .int .i64 n, .int .i64 at1]) rfl hJ ?_ (hy := fun V hV => by (have hh := hV.heap (by simp) B9.out; have q0 := cell_of_row V _ 0 _ _ _ hh; have q1 := cell_of_row V _ 1 _ _ _ hh; have q2 := cell_of_row V _ 2 _ _ _ hh; have q3 := cell_of_row V _ 3 _ _ _ hh; have q4 := cell_of_row V _ 4 _ _ _ hh; have q5 := cell_of_row V _ 5 _ _ _ hh; have q6 := cell_of_row V _ 6 _ _ _ hh; have q7 := cell_of_row V _ 7 _ _ _ hh; have q8 := cell_of_row V _ 8 _ _ _ hh; have q9 := cell_of_row V _ 9 _ _ _ hh; have q10 := cell_of_row V _ 10 _ _ _ hh; have q11 := cell_of_row V _ 11 _ _ _ hh; have q12 := cell_of_row V _ 12 _ _ _ hh; clear hV hh; simp only [List.getElem?_toArray, List.getElem?_cons_zero, List.getElem?_cons_succ] at q0 q1 q2 q3 q4 q5 q6 q7 q8 q9 q10 q11 q12; go_simp))
 refine wr1 15 rfl (fun KZ hK => ?_)
 go_simp
 go_at_call 13
 refine (HTU.out _ _ _ _ _ _ _ (RE.out _ k11) (LWV.out _ k11)).mono ?_
 rintro e w12 ⟨so, so1, se, se1, rfl, r12, _, k12⟩
 have k12 := k11.trans k12 (by simp)
 clear k11
 go_wp2_with fail
 refine hK.out _ _ k12 (fun hJ => ?_)
 clear hK KZ
 refine wr1 16 rfl (fun KZ hK => ?_)
 go_simp
 go_at_call 18
 refine (HSE.out _ _ _ _ _ _ _ _ _ _ _ _ _ (RX.out _ k12) r12).mono ?_
 rintro e w13 ⟨rfl, k13⟩
 have k13 := k12.trans k13 (by simp)
 clear k12 r12
 go_wp2_with fail
 refine hK.out _ _ k13 (fun hJ => ?_)
 clear hK KZ
 refine wx 17 49 (.bool true) rfl hJ ?_
 refine wx 18 50 (.bool true) rfl hJ ?_
 refine wx 19 51 (.agg #[.int .u8 k, .int .i64 tx, .int .i64 nx, .int .i64 id1, .slice xo ops.length xo1, .slice xe evs.length xe1, .int .i64 tn, .int .i64 tm, .slice xi op.length xi1, .int .i64 ta, .string nm, .int .i64 n, .int .i64 at1]) rfl hJ ?_ (hy := fun V hV => by (have hh := hV.heap (by simp) BX9.out; have q0 := cell_of_row V _ 0 _ _ _ hh; have q1 := cell_of_row V _ 1 _ _ _ hh; have q2 := cell_of_row V _ 2 _ _ _ hh; have q3 := cell_of_row V _ 3 _ _ _ hh; have q4 := cell_of_row V _ 4 _ _ _ hh; have q5 := cell_of_row V _ 5 _ _ _ hh; have q6 := cell_of_row V _ 6 _ _ _ hh; have q7 := cell_of_row V _ 7 _ _ _ hh; have q8 := cell_of_row V _ 8 _ _ _ hh; have q9 := cell_of_row V _ 9 _ _ _ hh; have q10 := cell_of_row V _ 10 _ _ _ hh; have q11 := cell_of_row V _ 11 _ _ _ hh; have q12 := cell_of_row V _ 12 _ _ _ hh; clear hV hh; simp only [List.getElem?_toArray, List.getElem?_cons_zero, List.getElem?_cons_succ] at q0 q1 q2 q3 q4 q5 q6 q7 q8 q9 q10 q11 q12; go_simp))
 refine wx 21 53 (.agg #[.int .u8 k, .int .i64 tx, .int .i64 nx, .int .i64 id1, .slice yo ops.length yo1, .slice ye evs.length ye1, .int .i64 tn, .int .i64 tm, .slice yi op.length yi1, .int .i64 ta, .string nm, .int .i64 n, .int .i64 at1]) rfl hJ ?_ (hy := fun V hV => by (have hh := hV.heap (by simp) BY9.out; have q0 := cell_of_row V _ 0 _ _ _ hh; have q1 := cell_of_row V _ 1 _ _ _ hh; have q2 := cell_of_row V _ 2 _ _ _ hh; have q3 := cell_of_row V _ 3 _ _ _ hh; have q4 := cell_of_row V _ 4 _ _ _ hh; have q5 := cell_of_row V _ 5 _ _ _ hh; have q6 := cell_of_row V _ 6 _ _ _ hh; have q7 := cell_of_row V _ 7 _ _ _ hh; have q8 := cell_of_row V _ 8 _ _ _ hh; have q9 := cell_of_row V _ 9 _ _ _ hh; have q10 := cell_of_row V _ 10 _ _ _ hh; have q11 := cell_of_row V _ 11 _ _ _ hh; have q12 := cell_of_row V _ 12 _ _ _ hh; clear hV hh; simp only [List.getElem?_toArray, List.getElem?_cons_zero, List.getElem?_cons_succ] at q0 q1 q2 q3 q4 q5 q6 q7 q8 q9 q10 q11 q12; go_simp))
 refine wr1 20 rfl (fun KZ hK => ?_)
 go_simp
 go_at_call 20
 refine (HBA.out _ _ _ _ _ _ _ (RX.out _ k13)).mono ?_
 rintro e w14 ⟨uo, uo1, ue, ue1, rfl, r14, k14⟩
 have k14 := k13.trans k14 (by simp)
 clear k13
 go_wp2_with fail
 refine hK.out _ _ k14 (fun hJ => ?_)
 clear hK KZ
 refine wr1 22 rfl (fun KZ hK => ?_)
 go_simp
 go_at_call 19
 refine (HSR.out _ _ _ _ _ _ _ _ _ _ _ _ _ r14 (RY.out _ k14)).mono ?_
 rintro e w15 ⟨rfl, k15⟩
 have k15 := k14.trans k15 (by simp)
 clear k14 r14
 go_wp2_with fail
 refine hK.out _ _ k15 (fun hJ => ?_)
 clear hK KZ
 refine wx 23 55 (.bool true) rfl hJ ?_
 refine wx 24 56 (.bool true) rfl hJ ?_
 refine wx 25 57 (.agg #[.int .u8 k, .int .i64 tx, .int .i64 nx, .int .i64 id1, .slice yo ops.length yo1, .slice ye evs.length ye1, .int .i64 tn, .int .i64 tm, .slice yi op.length yi1, .int .i64 ta, .string nm, .int .i64 n, .int .i64 at1]) rfl hJ ?_ (hy := fun V hV => by (have hh := hV.heap (by simp) BY9.out; have q0 := cell_of_row V _ 0 _ _ _ hh; have q1 := cell_of_row V _ 1 _ _ _ hh; have q2 := cell_of_row V _ 2 _ _ _ hh; have q3 := cell_of_row V _ 3 _ _ _ hh; have q4 := cell_of_row V _ 4 _ _ _ hh; have q5 := cell_of_row V _ 5 _ _ _ hh; have q6 := cell_of_row V _ 6 _ _ _ hh; have q7 := cell_of_row V _ 7 _ _ _ hh; have q8 := cell_of_row V _ 8 _ _ _ hh; have q9 := cell_of_row V _ 9 _ _ _ hh; have q10 := cell_of_row V _ 10 _ _ _ hh; have q11 := cell_of_row V _ 11 _ _ _ hh; have q12 := cell_of_row V _ 12 _ _ _ hh; clear hV hh; simp only [List.getElem?_toArray, List.getElem?_cons_zero, List.getElem?_cons_succ] at q0 q1 q2 q3 q4 q5 q6 q7 q8 q9 q10 q11 q12; go_simp))
 refine wx 26 58 (.agg #[.int .u8 k, .int .i64 tx, .int .i64 nx, .int .i64 id1, .slice ao ops.length ao1, .slice ae evs.length ae1, .int .i64 tn, .int .i64 tm, .slice ai op.length ai1, .int .i64 ta, .string nm, .int .i64 n, .int .i64 at1]) rfl hJ ?_ (hy := fun V hV => by (have hh := hV.heap (by simp) B9.out; have q0 := cell_of_row V _ 0 _ _ _ hh; have q1 := cell_of_row V _ 1 _ _ _ hh; have q2 := cell_of_row V _ 2 _ _ _ hh; have q3 := cell_of_row V _ 3 _ _ _ hh; have q4 := cell_of_row V _ 4 _ _ _ hh; have q5 := cell_of_row V _ 5 _ _ _ hh; have q6 := cell_of_row V _ 6 _ _ _ hh; have q7 := cell_of_row V _ 7 _ _ _ hh; have q8 := cell_of_row V _ 8 _ _ _ hh; have q9 := cell_of_row V _ 9 _ _ _ hh; have q10 := cell_of_row V _ 10 _ _ _ hh; have q11 := cell_of_row V _ 11 _ _ _ hh; have q12 := cell_of_row V _ 12 _ _ _ hh; clear hV hh; simp only [List.getElem?_toArray, List.getElem?_cons_zero, List.getElem?_cons_succ] at q0 q1 q2 q3 q4 q5 q6 q7 q8 q9 q10 q11 q12; go_simp))
 refine wr1 27 rfl (fun KZ hK => ?_)
 go_simp
 go_at_call 19
 refine (HSR.out _ _ _ _ _ _ _ _ _ _ _ _ _ (RY.out _ k15) (RE.out _ k15)).mono ?_
 rintro e w16 ⟨rfl, k16⟩
 have k16 := k15.trans k16 (by simp)
 clear k15
 go_wp2_with fail
 refine hK.out _ _ k16 (fun hJ => ?_)
 clear hK KZ
 refine wx 28 60 (.bool true) rfl hJ ?_
 refine wx 29 2 (.bool true) rfl hJ ?_
 refine wd ?_
 have K16 := iH (K9.out.trans k16 (by simp))
 clear k16 hJ
 go_wp2
 go_ret
 exact ⟨rfl, K16.out.below (Nat.le_refl _) (by simp)⟩
theorem lifted (os : Os) (started : os.Started) (H : Type) (enc : TypeId × Value -> H) :
  ReturnsInHanded {} Try.checked os 3 .any (Rows.entryBackSpec.pre6 enc Try.prog Try.f3 Rows.entryBackRow.domain false) (Rows.entryBackSpec.post enc Try.prog Try.f3 false true false false) := by
 refine returnsInHanded_of_change (C := Try.checked) own started (by kernel_rfl) Try.func3
  (ChangeSpec.witness6 (enc := enc) (C := Try.checked) false ⟨#[], #[.agg #[.int .u8 0, .int .i64 0, .int .i64 0, .int .i64 0, .string ByteArray.empty, .int .u8 0, .slice none 0 0, .slice none 0 0, .string ByteArray.empty, .slice none 0 0, .slice none 0 0]], []⟩ 8 (by kernel_rfl) (by kernel_rfl) (by kernel_rfl) (by kernel_rfl)) ?_
 intro W base args ds gs before hval0 hW hcnd _
 have hval : ∀ (j : Nat) t v, Try.f3.params[j]? = some t -> args[j]? = some v -> Value.okWide Try.prog W .any base t v := hval0
 have hW' := hW
 obtain ⟨p, q, hA0, hV, rfl, hfz, hnd⟩ := hW
 have hA : DataW.TrodAll enc Try.prog W 0 (fun _ => true) true Try.f3.params.toList args.toList ds p := hA0
 rw [Try.params3] at hA hval
 obtain ⟨v0, vs0, d0, ds0, p0, q0, hargs, rfl, rfl, h0, r0⟩ := trodAll_cons hA
 obtain ⟨rfl, rfl, rfl⟩ := trodAll_nil r0
 obtain rfl : args = #[v0] := by cases args; simp_all
 obtain ⟨rfl, rfl⟩ := trodVars_none hV
 have k0 := h0
 have lt0 : ∀ x ∈ p0, x.block < W.heap.size := by obtain ⟨m, hm⟩ := k0; exact DataW.trod_lt m _ _ _ hm
 obtain ⟨raw0, vl0, vk0, vg0, vs0, bl0, bg0, bs0, rfl, w0, u0⟩ := raw_open (hval 0 25 v0 rfl rfl) h0
 clear hA0 hval0
 refine (walk raw0 vl0 vk0 vg0 vs0 bl0 bg0 bs0 W w0 u0).mono fun e W' ⟨he, bel⟩ => ?_
 subst he
 exact ⟨_, rfl, _, _, _, [], _, [], hW', trodAll_mk1 (shut_bool Try.underlying4 _), (trodAll_cons_mk (Below.trod laidOut (by kernel_rfl) (of_decide_eq_true (by kernel_rfl)) k0 bel lt0) trodAll_mk0), rfl, bel.frame _, fun h => by cases h⟩
theorem over : Rows.entryBackRow.holds Try.pinned (OpenSpec.ofChange Rows.entryBackSpec) :=
 OpenClaim.holds_of_wide 3 Try.f3 rfl rfl rfl rfl rfl rfl rfl ⟨rfl, rfl, rfl, rfl, rfl⟩ rfl rfl rfl rfl rfl (by kernel_rfl) Try.func3 (by kernel_rfl)
  (of_decide_eq_true (by kernel_rfl)) (by unfold Func.isWrapper; first | (rw [if_pos (by decide +kernel)]; kernel_rfl) | (rw [if_neg (by decide +kernel)]; exact ⟨rfl, rfl⟩))
  (fun os started H enc _ => lifted os started H enc)
theorem proved : Rows.EntryBackSaid :=
 over
end Go.Proofs.Ytjdbmlifekghfaa.entryBack
namespace Go.Proofs.Ytjdbmlifekghfaa
theorem entryBack_holds : Rows.EntryBackSaid := entryBack.proved
#print axioms entryBack_holds
end Go.Proofs.Ytjdbmlifekghfaa
