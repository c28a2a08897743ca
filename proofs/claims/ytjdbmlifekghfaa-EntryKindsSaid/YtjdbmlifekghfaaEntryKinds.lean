/-
 Proved: whatever the arguments are, carrierlaw16.EntryKinds answers true and leaves its arguments as they were. No condition.
-/
import Derived.Test.YtjdbmlifekghfaaEt0
import Derived.Test.YtjdbmlifekghfaaEt35
import Derived.Test.YtjdbmlifekghfaaEt1
import Derived.ProofKit
import Derived.OpenShut
import Derived.ShutString
import Derived.ChangeOld
import Derived.Below
import Derived.Deep.DeepCutAuto
set_option linter.unusedVariables false
set_option maxHeartbeats 16000000
set_option maxRecDepth 100000
namespace Go.Proofs.Ytjdbmlifekghfaa.entryKinds
open Go.ChangeShapes Go.WideShapes Go.ChangeAt Go.RowKit
theorem own : ownKnob Try.prog.godebug = none := by kernel_rfl
theorem laidOut : laidOutB Try.prog = true := by kernel_rfl
def set11 (w : World) (b : Nat) (c0 c1 c2 c3 c4 c5 c6 c7 c8 c9 c10 : Value) : World :=
 ((((((((((w.setCell ⟨b, 0, none⟩ c0).setCell ⟨b, 1, none⟩ c1).setCell ⟨b, 2, none⟩ c2).setCell ⟨b, 3, none⟩ c3).setCell ⟨b, 4, none⟩ c4).setCell ⟨b, 5, none⟩ c5).setCell ⟨b, 6, none⟩ c6).setCell ⟨b, 7, none⟩ c7).setCell ⟨b, 8, none⟩ c8).setCell ⟨b, 9, none⟩ c9).setCell ⟨b, 10, none⟩ c10
theorem put11 {w : World} {b : Nat} {z0 z1 z2 z3 z4 z5 z6 z7 z8 z9 z10 : Value} {T : TypeId} {fz : Nat × Nat} (h : w.heap[b]? = some (.cells #[z0, z1, z2, z3, z4, z5, z6, z7, z8, z9, z10] T fz)) (c0 c1 c2 c3 c4 c5 c6 c7 c8 c9 c10 : Value) :
  (set11 w b c0 c1 c2 c3 c4 c5 c6 c7 c8 c9 c10).heap[b]? = some (.cells #[c0, c1, c2, c3, c4, c5, c6, c7, c8, c9, c10] T fz) /\ Kept w (set11 w b c0 c1 c2 c3 c4 c5 c6 c7 c8 c9 c10) [b] := by
 refine ⟨?_, ((((((((((((Kept.refl w [b]).setCell (.inl (by simp)) _).setCell (.inl (by simp)) _).setCell (.inl (by simp)) _).setCell (.inl (by simp)) _).setCell (.inl (by simp)) _).setCell (.inl (by simp)) _).setCell (.inl (by simp)) _).setCell (.inl (by simp)) _).setCell (.inl (by simp)) _).setCell (.inl (by simp)) _).setCell (.inl (by simp)) _)⟩
 have g := xqa (xqa (xqa (xqa (xqa (xqa (xqa (xqa (xqa (xqa (xqa h 0 c0) 1 c1) 2 c2) 3 c3) 4 c4) 5 c5) 6 c6) 7 c7) 8 c8) 9 c9) 10 c10
 simp only [List.setIfInBounds_toArray, List.set_cons_zero, List.set_cons_succ] at g
 exact g
theorem kinds_y {k tx nx id1 : Int} {ops : List Ox} {evs : List Px} {tn tm : Int} {op : List Int} {ta : Int} {nm : ByteArray} {n at1 c1 c2 c3 c6 c12 : Int} (hr : (⟨k, tx, nx, id1, ops, evs, tn, tm, op, ta, nm, n, at1⟩ : En).Right) (hn : (⟨k, tx, nx, id1, ops, evs, tn, tm, op, ta, nm, n, at1⟩ : En).norm = (⟨k, tx, nx, id1, ops, evs, tn, tm, op, ta, nm, n, at1⟩ : En))
  (e1 : (k = 1 ∨ k = 8) -> c1 = tx /\ c2 = nx /\ c3 = id1) (e2 : k = 2 -> c6 = tn) (e3 : 7 <= k /\ k <= 8 -> c12 = at1) (w1 : whole c1) (w2 : whole c2) (w3 : whole c3) (w6 : whole c6) (w12 : -9223372036854775808 <= c12 /\ c12 <= 9223372036854775807) :
  (⟨k, c1, c2, c3, ops, evs, c6, tm, op, ta, nm, n, c12⟩ : En).Right /\ (⟨k, c1, c2, c3, ops, evs, c6, tm, op, ta, nm, n, c12⟩ : En).norm = (⟨k, tx, nx, id1, ops, evs, tn, tm, op, ta, nm, n, at1⟩ : En) := by
 refine ⟨⟨hr.k, w1, w2, w3, hr.ops, hr.nops, hr.evs, hr.nevs, w6, hr.tm, hr.op, hr.nop, hr.ta, hr.nm, hr.n, w12⟩, ?_⟩
 have hk := hr.k
 rw [<- hn]
 clear hr hn
 dsimp only at hk
 unfold En.norm
 dsimp only
 by_cases h1 : k = 1
 ·obtain ⟨rfl, rfl, rfl⟩ := e1 (.inl h1)
  simp [h1]
 by_cases h8 : k = 8
 ·obtain ⟨rfl, rfl, rfl⟩ := e1 (.inr h8)
  obtain rfl := e3 (by omega)
  simp [h8]
 by_cases h2 : k = 2
 ·obtain rfl := e2 h2
  simp [h2]
 by_cases h7 : k = 7
 ·obtain rfl := e3 (by omega)
  simp [h7]
 simp only [h1, h8, h2, h7, if_false]
theorem walk (r : Rw) (vl vk vg vs : Value) (bl bg bs : List UInt8) (a1 : Int) (W : World) (d : RdW W r vl vk vg vs bl bg bs) (u : r.Num) (w1 : (Lit.int .u8 a1).wf = true) :
  Calls Try.prog 8 #[.agg (r.cs vl vk vg vs), .int .u8 a1] W fun e w' => e = .returned (.bool true) /\ Below W.heap.size W w' := by
 obtain ⟨la, lc, rfl, _⟩ := id d.l
 obtain ⟨ka, kc, rfl, _⟩ := id d.k
 obtain ⟨ga, gc, rfl, _⟩ := id d.g
 obtain ⟨sa, sc, rfl, _⟩ := id d.s
 obtain ⟨rk, rtx, rn, ra, rnm, rM, rl, rks, rt, rgs, rss⟩ := r
 obtain ⟨kq, hkq⟩ := Int.eq_ofNat_of_zero_le (bounds_u8 w1).1
 have hk255 := (bounds_u8 w1).2
 subst hkq
 clear w1
 by_cases sm : (⟨rk, rtx, rn, ra, rnm, rM, rl, rks, rt, rgs, rss⟩ : Rw).Small bl bg bs
 case neg =>
  have HN := fun (V : World) (hV : Kept W V []) => small_no (⟨rk, rtx, rn, ra, rnm, rM, rl, rks, rt, rgs, rss⟩ : Rw) (.slice la bl.length lc) (.slice ka rks.length kc) (.slice ga bg.length gc) (.slice sa bs.length sc) bl bg bs V (d.keep hV) sm
  simp only [Rw.cs_eq] at HN
  have HN := iH HN
  clear d u sm
  rw [Rw.cs_eq]
  go_enter Try.func8, Try.ntmps8
  go_wp2_with fail
  refine (nine_any _).mono ?_
  rintro e w1 ⟨rfl, hk⟩
  have K1 := iH (((Kept.refl W []).alloc _).trans hk (by simp))
  have B1 := iH (hk.heap (by simp) (heap_alloc_new W (.cells #[.int .u8 (rk : Nat), .int .i64 rtx, .int .i64 rn, .int .i64 ra, .string rnm, .int .u8 (rM : Nat), .slice la bl.length lc, .slice ka rks.length kc, .string rt, .slice ga bg.length gc, .slice sa bs.length sc] 25)))
  clear hk
  have pp := fun j => cell_of_row w1 W.heap.size j _ _ _ B1.out
  have p0 := pp 0
  have p1 := pp 1
  have p2 := pp 2
  have p3 := pp 3
  have p4 := pp 4
  have p5 := pp 5
  have p6 := pp 6
  have p7 := pp 7
  have p8 := pp 8
  have p9 := pp 9
  have p10 := pp 10
  simp only [List.getElem?_toArray, List.getElem?_cons_zero, List.getElem?_cons_succ] at p0 p1 p2 p3 p4 p5 p6 p7 p8 p9 p10
  clear pp
  go_wp2_with fail
  refine (HN.out _ K1.out).mono ?_
  rintro e w2 ⟨rfl, hk⟩
  have K2 := iH (K1.out.trans hk (by simp)); have B2 := iH (hk.heap (by simp) B1.out)
  clear hk
  clear p0 p1 p2 p3 p4 p5 p6 p7 p8 p9 p10
  go_wp2_with fail
  refine (nine_any _).mono ?_
  rintro e w9 ⟨rfl, hk⟩
  have K9 := iH (K2.out.trans hk (by simp)); clear hk
  go_wp2
  go_ret
  exact ⟨rfl, K9.out.below (Nat.le_refl _) (by simp)⟩
 have HY := fun (V : World) (hV : Kept W V []) => small_yes (⟨rk, rtx, rn, ra, rnm, rM, rl, rks, rt, rgs, rss⟩ : Rw) (.slice la bl.length lc) (.slice ka rks.length kc) (.slice ga bg.length gc) (.slice sa bs.length sc) bl bg bs V (d.keep hV) sm
 simp only [Rw.cs_eq] at HY
 have HY := iH HY
 have HOF := fun (V : World) (hV : Kept W V []) => of_lit (⟨kq, rtx, rn, ra, rnm, rM, rl, rks, rt, rgs, rss⟩ : Rw) (.slice la bl.length lc) (.slice ka rks.length kc) (.slice ga bg.length gc) (.slice sa bs.length sc) bl bg bs V ⟨(d.keep hV).l, (d.keep hV).k, (d.keep hV).g, (d.keep hV).s, d.eg, d.es⟩ ⟨by dsimp only; omega, u.M, u.tx, u.n, u.a, u.ks⟩ ⟨sm.nm, sm.l, sm.k, sm.t, sm.g, sm.s⟩
 simp only [Rw.cs_eq] at HOF
 have HOF := iH HOF
 clear d u sm hk255
 rw [Rw.cs_eq]
 go_enter Try.func8, Try.ntmps8
 go_wp2_with fail
 refine (nine_any _).mono ?_
 rintro e w1 ⟨rfl, hk⟩
 have K1 := iH (((Kept.refl W []).alloc _).trans hk (by simp))
 have B1 := iH (hk.heap (by simp) (heap_alloc_new W (.cells #[.int .u8 (rk : Nat), .int .i64 rtx, .int .i64 rn, .int .i64 ra, .string rnm, .int .u8 (rM : Nat), .slice la bl.length lc, .slice ka rks.length kc, .string rt, .slice ga bg.length gc, .slice sa bs.length sc] 25)))
 clear hk
 have pp := fun j => cell_of_row w1 W.heap.size j _ _ _ B1.out
 have p0 := pp 0
 have p1 := pp 1
 have p2 := pp 2
 have p3 := pp 3
 have p4 := pp 4
 have p5 := pp 5
 have p6 := pp 6
 have p7 := pp 7
 have p8 := pp 8
 have p9 := pp 9
 have p10 := pp 10
 simp only [List.getElem?_toArray, List.getElem?_cons_zero, List.getElem?_cons_succ] at p0 p1 p2 p3 p4 p5 p6 p7 p8 p9 p10
 clear pp
 go_wp2_with fail
 refine (HY.out _ K1.out).mono ?_
 rintro e w2 ⟨rfl, hk⟩
 have K2 := iH (K1.out.trans hk (by simp)); have B2 := iH (hk.heap (by simp) B1.out)
 clear hk
 clear p0 p1 p2 p3 p4 p5 p6 p7 p8 p9 p10
 have pp := fun j => cell_of_row w2 W.heap.size j _ _ _ B2.out
 have p0 := pp 0
 have p1 := pp 1
 have p2 := pp 2
 have p3 := pp 3
 have p4 := pp 4
 have p5 := pp 5
 have p6 := pp 6
 have p7 := pp 7
 have p8 := pp 8
 have p9 := pp 9
 have p10 := pp 10
 simp only [List.getElem?_toArray, List.getElem?_cons_zero, List.getElem?_cons_succ] at p0 p1 p2 p3 p4 p5 p6 p7 p8 p9 p10
 clear pp
 go_upto_region 3 with fail
 clear p0 p1 p2 p3 p4 p5 p6 p7 p8 p9 p10
 go_cut [5, 6] (fun s5 s6 wx => ∃ z5 z6 : Nat, s5 = .pointer (some ⟨z5, 0, none⟩) /\ s6 = .pointer (some ⟨z6, 0, none⟩) /\ z5 ≠ z6 /\ w2.heap.size <= z5 /\ w2.heap.size <= z6 /\ RowKit.Hid (Kept w2 wx []) /\ wx.heap[z5]? = some (.cells #[.int .u8 (rk : Nat), .int .i64 rtx, .int .i64 rn, .int .i64 ra, .string rnm, .int .u8 (rM : Nat), .slice la bl.length lc, .slice ka rks.length kc, .string rt, .slice ga bg.length gc, .slice sa bs.length sc] 25 (0, 0)) /\ wx.heap[z6]? = some (.cells #[.int .u8 (rk : Nat), .int .i64 rtx, .int .i64 rn, .int .i64 ra, .string rnm, .int .u8 (rM : Nat), .slice la bl.length lc, .slice ka rks.length kc, .string rt, .slice ga bg.length gc, .slice sa bs.length sc] 25 (0, 0)))
 case first =>
  refine wp_region_held_drew (S := fun Z => Kept w2 Z []) (by kernel_rfl) (Kept.refl w2 []).drew (fun hJ => ?_)
  obtain ⟨WD, hWD⟩ : ∃ WD, WD = w2.drew := ⟨_, rfl⟩
  have KD : RowKit.Hid (Kept w2 WD []) := iH (by rw [hWD]; exact (Kept.refl w2 []).drew)
  revert hJ
  rw [<- hWD]
  intro hJ
  clear hWD
  refine wx 0 20 (.agg #[.int .u8 (rk : Nat), .int .i64 rtx, .int .i64 rn, .int .i64 ra, .string rnm, .int .u8 (rM : Nat), .slice la bl.length lc, .slice ka rks.length kc, .string rt, .slice ga bg.length gc, .slice sa bs.length sc]) rfl hJ ?_ (hy := fun V hV => by (have hh := hV.heap (by simp) B2.out; have q0 := cell_of_row V _ 0 _ _ _ hh; have q1 := cell_of_row V _ 1 _ _ _ hh; have q2 := cell_of_row V _ 2 _ _ _ hh; have q3 := cell_of_row V _ 3 _ _ _ hh; have q4 := cell_of_row V _ 4 _ _ _ hh; have q5 := cell_of_row V _ 5 _ _ _ hh; have q6 := cell_of_row V _ 6 _ _ _ hh; have q7 := cell_of_row V _ 7 _ _ _ hh; have q8 := cell_of_row V _ 8 _ _ _ hh; have q9 := cell_of_row V _ 9 _ _ _ hh; have q10 := cell_of_row V _ 10 _ _ _ hh; clear hV hh; simp only [List.getElem?_toArray, List.getElem?_cons_zero, List.getElem?_cons_succ] at q0 q1 q2 q3 q4 q5 q6 q7 q8 q9 q10; go_simp))
  refine wx 1 21 (.agg #[.int .u8 (rk : Nat), .int .i64 rtx, .int .i64 rn, .int .i64 ra, .string rnm, .int .u8 (rM : Nat), .slice la bl.length lc, .slice ka rks.length kc, .string rt, .slice ga bg.length gc, .slice sa bs.length sc]) rfl hJ ?_ (hy := fun V hV => by (have hh := hV.heap (by simp) B2.out; have q0 := cell_of_row V _ 0 _ _ _ hh; have q1 := cell_of_row V _ 1 _ _ _ hh; have q2 := cell_of_row V _ 2 _ _ _ hh; have q3 := cell_of_row V _ 3 _ _ _ hh; have q4 := cell_of_row V _ 4 _ _ _ hh; have q5 := cell_of_row V _ 5 _ _ _ hh; have q6 := cell_of_row V _ 6 _ _ _ hh; have q7 := cell_of_row V _ 7 _ _ _ hh; have q8 := cell_of_row V _ 8 _ _ _ hh; have q9 := cell_of_row V _ 9 _ _ _ hh; have q10 := cell_of_row V _ 10 _ _ _ hh; clear hV hh; simp only [List.getElem?_toArray, List.getElem?_cons_zero, List.getElem?_cons_succ] at q0 q1 q2 q3 q4 q5 q6 q7 q8 q9 q10; go_simp))
  refine wpAnyH_ready (rs := [2, 3]) (by kernel_rfl) (by simp) ?_
  refine AllReadyH.cons (o := _) rfl (fun KZ hK => ?_) (AllReadyH.cons (o := _) rfl (fun KZ hK => ?_) AllReadyH.nil)
  ·go_simp
   obtain ⟨za, hza⟩ : ∃ z, z = WD.heap.size := ⟨_, rfl⟩
   obtain ⟨WA, hY⟩ : ∃ Y, Y = WD.alloc (.cells #[.int .u8 0, .int .i64 0, .int .i64 0, .int .i64 0, .string ⟨#[]⟩, .int .u8 0, .slice none 0 0, .slice none 0 0, .string ⟨#[]⟩, .slice none 0 0, .slice none 0 0] 25) := ⟨_, rfl⟩
   rw [<- hY, <- hza]
   have KA : RowKit.Hid (Kept w2 WA []) := iH (by rw [hY]; exact KD.out.alloc _)
   have BA : RowKit.Hid (WA.heap[za]? = some (.cells #[.int .u8 0, .int .i64 0, .int .i64 0, .int .i64 0, .string ⟨#[]⟩, .int .u8 0, .slice none 0 0, .slice none 0 0, .string ⟨#[]⟩, .slice none 0 0, .slice none 0 0] 25 (0, 0))) := iH (by rw [hY, hza]; exact heap_alloc_new WD _)
   have Lza : RowKit.Hid (w2.heap.size <= za) := iH (by rw [hza]; exact KD.out.size)
   have Aza : RowKit.Hid (Kept WD WA []) := iH (by rw [hY]; exact (Kept.refl WD []).alloc _)
   have Zza := iH hza
   clear hY hza
   refine hK.out _ _ KA.out (fun hJ => ?_)
   clear hK KZ
   refine wr1 3 rfl (fun K hK => ?_)
   go_simp
   obtain ⟨zb, hzb⟩ : ∃ z, z = WA.heap.size := ⟨_, rfl⟩
   obtain ⟨WB, hY⟩ : ∃ Y, Y = WA.alloc (.cells #[.int .u8 0, .int .i64 0, .int .i64 0, .int .i64 0, .string ⟨#[]⟩, .int .u8 0, .slice none 0 0, .slice none 0 0, .string ⟨#[]⟩, .slice none 0 0, .slice none 0 0] 25) := ⟨_, rfl⟩
   rw [<- hY, <- hzb]
   have KB : RowKit.Hid (Kept w2 WB []) := iH (by rw [hY]; exact KA.out.alloc _)
   have BB : RowKit.Hid (WB.heap[zb]? = some (.cells #[.int .u8 0, .int .i64 0, .int .i64 0, .int .i64 0, .string ⟨#[]⟩, .int .u8 0, .slice none 0 0, .slice none 0 0, .string ⟨#[]⟩, .slice none 0 0, .slice none 0 0] 25 (0, 0))) := iH (by rw [hY, hzb]; exact heap_alloc_new WA _)
   have Lzb : RowKit.Hid (w2.heap.size <= zb) := iH (by rw [hzb]; exact KA.out.size)
   have Azb : RowKit.Hid (Kept WA WB []) := iH (by rw [hY]; exact (Kept.refl WA []).alloc _)
   have Zzb := iH hzb
   clear hY hzb
   refine hK.out _ _ KB.out (fun hJ => ?_)
   clear hK K
   have hne : za ≠ zb := by have := (Array.getElem?_eq_some_iff.1 BA.out).1; have := Zzb.out; omega
   have BA2 : RowKit.Hid (WB.heap[za]? = some (.cells #[.int .u8 0, .int .i64 0, .int .i64 0, .int .i64 0, .string ⟨#[]⟩, .int .u8 0, .slice none 0 0, .slice none 0 0, .string ⟨#[]⟩, .slice none 0 0, .slice none 0 0] 25 (0, 0))) := iH (Azb.out.heap (by simp) BA.out)
   have d0 := cell_of_row WB za 0 _ _ _ BA2.out; have f0 := frozen_of_row WB za 0 _ _ BA2.out
   have d1 := cell_of_row WB za 1 _ _ _ BA2.out; have f1 := frozen_of_row WB za 1 _ _ BA2.out
   have d2 := cell_of_row WB za 2 _ _ _ BA2.out; have f2 := frozen_of_row WB za 2 _ _ BA2.out
   have d3 := cell_of_row WB za 3 _ _ _ BA2.out; have f3 := frozen_of_row WB za 3 _ _ BA2.out
   have d4 := cell_of_row WB za 4 _ _ _ BA2.out; have f4 := frozen_of_row WB za 4 _ _ BA2.out
   have d5 := cell_of_row WB za 5 _ _ _ BA2.out; have f5 := frozen_of_row WB za 5 _ _ BA2.out
   have d6 := cell_of_row WB za 6 _ _ _ BA2.out; have f6 := frozen_of_row WB za 6 _ _ BA2.out
   have d7 := cell_of_row WB za 7 _ _ _ BA2.out; have f7 := frozen_of_row WB za 7 _ _ BA2.out
   have d8 := cell_of_row WB za 8 _ _ _ BA2.out; have f8 := frozen_of_row WB za 8 _ _ BA2.out
   have d9 := cell_of_row WB za 9 _ _ _ BA2.out; have f9 := frozen_of_row WB za 9 _ _ BA2.out
   have d10 := cell_of_row WB za 10 _ _ _ BA2.out; have f10 := frozen_of_row WB za 10 _ _ BA2.out
   simp only [List.getElem?_toArray, List.getElem?_cons_zero, List.getElem?_cons_succ] at d0 d1 d2 d3 d4 d5 d6 d7 d8 d9 d10
   refine wr1 4 rfl (fun K hK => ?_)
   go_simp
   obtain ⟨WE, hY⟩ : ∃ Y, Y = set11 WB za (.int .u8 (rk : Nat)) (.int .i64 rtx) (.int .i64 rn) (.int .i64 ra) (.string rnm) (.int .u8 (rM : Nat)) (.slice la bl.length lc) (.slice ka rks.length kc) (.string rt) (.slice ga bg.length gc) (.slice sa bs.length sc) := ⟨_, rfl⟩
   obtain ⟨g, kY⟩ := put11 BA2.out (.int .u8 (rk : Nat)) (.int .i64 rtx) (.int .i64 rn) (.int .i64 ra) (.string rnm) (.int .u8 (rM : Nat)) (.slice la bl.length lc) (.slice ka rks.length kc) (.string rt) (.slice ga bg.length gc) (.slice sa bs.length sc)
   rw [<- hY] at g kY
   simp only [set11] at hY
   rw [<- hY]
   have BE := iH g; have KK := iH kY
   have KE : RowKit.Hid (Kept w2 WE []) := iH (KB.out.trans kY (by intro x hx; simp at hx; exact .inr (by have := Lza.out; omega)))
   clear hY g kY d0 f0 d1 f1 d2 f2 d3 f3 d4 f4 d5 f5 d6 f6 d7 f7 d8 f8 d9 f9 d10 f10
   have BF : RowKit.Hid (WE.heap[zb]? = some (.cells #[.int .u8 0, .int .i64 0, .int .i64 0, .int .i64 0, .string ⟨#[]⟩, .int .u8 0, .slice none 0 0, .slice none 0 0, .string ⟨#[]⟩, .slice none 0 0, .slice none 0 0] 25 (0, 0))) := iH (KK.out.heap (by simp; omega) BB.out)
   clear KK
   refine hK.out _ _ KE.out (fun hJ => ?_)
   clear hK K
   have d0 := cell_of_row WE zb 0 _ _ _ BF.out; have f0 := frozen_of_row WE zb 0 _ _ BF.out
   have d1 := cell_of_row WE zb 1 _ _ _ BF.out; have f1 := frozen_of_row WE zb 1 _ _ BF.out
   have d2 := cell_of_row WE zb 2 _ _ _ BF.out; have f2 := frozen_of_row WE zb 2 _ _ BF.out
   have d3 := cell_of_row WE zb 3 _ _ _ BF.out; have f3 := frozen_of_row WE zb 3 _ _ BF.out
   have d4 := cell_of_row WE zb 4 _ _ _ BF.out; have f4 := frozen_of_row WE zb 4 _ _ BF.out
   have d5 := cell_of_row WE zb 5 _ _ _ BF.out; have f5 := frozen_of_row WE zb 5 _ _ BF.out
   have d6 := cell_of_row WE zb 6 _ _ _ BF.out; have f6 := frozen_of_row WE zb 6 _ _ BF.out
   have d7 := cell_of_row WE zb 7 _ _ _ BF.out; have f7 := frozen_of_row WE zb 7 _ _ BF.out
   have d8 := cell_of_row WE zb 8 _ _ _ BF.out; have f8 := frozen_of_row WE zb 8 _ _ BF.out
   have d9 := cell_of_row WE zb 9 _ _ _ BF.out; have f9 := frozen_of_row WE zb 9 _ _ BF.out
   have d10 := cell_of_row WE zb 10 _ _ _ BF.out; have f10 := frozen_of_row WE zb 10 _ _ BF.out
   simp only [List.getElem?_toArray, List.getElem?_cons_zero, List.getElem?_cons_succ] at d0 d1 d2 d3 d4 d5 d6 d7 d8 d9 d10
   refine wr1 5 rfl (fun K hK => ?_)
   go_simp
   obtain ⟨WG, hY⟩ : ∃ Y, Y = set11 WE zb (.int .u8 (rk : Nat)) (.int .i64 rtx) (.int .i64 rn) (.int .i64 ra) (.string rnm) (.int .u8 (rM : Nat)) (.slice la bl.length lc) (.slice ka rks.length kc) (.string rt) (.slice ga bg.length gc) (.slice sa bs.length sc) := ⟨_, rfl⟩
   obtain ⟨g, kY⟩ := put11 BF.out (.int .u8 (rk : Nat)) (.int .i64 rtx) (.int .i64 rn) (.int .i64 ra) (.string rnm) (.int .u8 (rM : Nat)) (.slice la bl.length lc) (.slice ka rks.length kc) (.string rt) (.slice ga bg.length gc) (.slice sa bs.length sc)
   rw [<- hY] at g kY
   simp only [set11] at hY
   rw [<- hY]
   have BG := iH g; have KK := iH kY
   have KG : RowKit.Hid (Kept w2 WG []) := iH (KE.out.trans kY (by intro x hx; simp at hx; exact .inr (by have := Lzb.out; omega)))
   clear hY g kY d0 f0 d1 f1 d2 f2 d3 f3 d4 f4 d5 f5 d6 f6 d7 f7 d8 f8 d9 f9 d10 f10
   have BH : RowKit.Hid (WG.heap[za]? = some (.cells #[.int .u8 (rk : Nat), .int .i64 rtx, .int .i64 rn, .int .i64 ra, .string rnm, .int .u8 (rM : Nat), .slice la bl.length lc, .slice ka rks.length kc, .string rt, .slice ga bg.length gc, .slice sa bs.length sc] 25 (0, 0))) := iH (KK.out.heap (by simp; omega) BE.out)
   clear KK
   refine hK.out _ _ KG.out (fun hJ => ?_)
   clear hK K
   refine wd ?_
   clear hJ
   go_wp2_with fail
   go_meet
   exact ⟨za, zb, rfl, rfl, hne, Lza.out, Lzb.out, KG, BH.out, BG.out⟩
  go_simp
  obtain ⟨za, hza⟩ : ∃ z, z = WD.heap.size := ⟨_, rfl⟩
  obtain ⟨WA, hY⟩ : ∃ Y, Y = WD.alloc (.cells #[.int .u8 0, .int .i64 0, .int .i64 0, .int .i64 0, .string ⟨#[]⟩, .int .u8 0, .slice none 0 0, .slice none 0 0, .string ⟨#[]⟩, .slice none 0 0, .slice none 0 0] 25) := ⟨_, rfl⟩
  rw [<- hY, <- hza]
  have KA : RowKit.Hid (Kept w2 WA []) := iH (by rw [hY]; exact KD.out.alloc _)
  have BA : RowKit.Hid (WA.heap[za]? = some (.cells #[.int .u8 0, .int .i64 0, .int .i64 0, .int .i64 0, .string ⟨#[]⟩, .int .u8 0, .slice none 0 0, .slice none 0 0, .string ⟨#[]⟩, .slice none 0 0, .slice none 0 0] 25 (0, 0))) := iH (by rw [hY, hza]; exact heap_alloc_new WD _)
  have Lza : RowKit.Hid (w2.heap.size <= za) := iH (by rw [hza]; exact KD.out.size)
  have Aza : RowKit.Hid (Kept WD WA []) := iH (by rw [hY]; exact (Kept.refl WD []).alloc _)
  have Zza := iH hza
  clear hY hza
  refine hK.out _ _ KA.out (fun hJ => ?_)
  clear hK KZ
  refine wr1 2 rfl (fun K hK => ?_)
  go_simp
  obtain ⟨zb, hzb⟩ : ∃ z, z = WA.heap.size := ⟨_, rfl⟩
  obtain ⟨WB, hY⟩ : ∃ Y, Y = WA.alloc (.cells #[.int .u8 0, .int .i64 0, .int .i64 0, .int .i64 0, .string ⟨#[]⟩, .int .u8 0, .slice none 0 0, .slice none 0 0, .string ⟨#[]⟩, .slice none 0 0, .slice none 0 0] 25) := ⟨_, rfl⟩
  rw [<- hY, <- hzb]
  have KB : RowKit.Hid (Kept w2 WB []) := iH (by rw [hY]; exact KA.out.alloc _)
  have BB : RowKit.Hid (WB.heap[zb]? = some (.cells #[.int .u8 0, .int .i64 0, .int .i64 0, .int .i64 0, .string ⟨#[]⟩, .int .u8 0, .slice none 0 0, .slice none 0 0, .string ⟨#[]⟩, .slice none 0 0, .slice none 0 0] 25 (0, 0))) := iH (by rw [hY, hzb]; exact heap_alloc_new WA _)
  have Lzb : RowKit.Hid (w2.heap.size <= zb) := iH (by rw [hzb]; exact KA.out.size)
  have Azb : RowKit.Hid (Kept WA WB []) := iH (by rw [hY]; exact (Kept.refl WA []).alloc _)
  have Zzb := iH hzb
  clear hY hzb
  refine hK.out _ _ KB.out (fun hJ => ?_)
  clear hK K
  have hne : za ≠ zb := by have := (Array.getElem?_eq_some_iff.1 BA.out).1; have := Zzb.out; omega
  have BA2 : RowKit.Hid (WB.heap[za]? = some (.cells #[.int .u8 0, .int .i64 0, .int .i64 0, .int .i64 0, .string ⟨#[]⟩, .int .u8 0, .slice none 0 0, .slice none 0 0, .string ⟨#[]⟩, .slice none 0 0, .slice none 0 0] 25 (0, 0))) := iH (Azb.out.heap (by simp) BA.out)
  have d0 := cell_of_row WB zb 0 _ _ _ BB.out; have f0 := frozen_of_row WB zb 0 _ _ BB.out
  have d1 := cell_of_row WB zb 1 _ _ _ BB.out; have f1 := frozen_of_row WB zb 1 _ _ BB.out
  have d2 := cell_of_row WB zb 2 _ _ _ BB.out; have f2 := frozen_of_row WB zb 2 _ _ BB.out
  have d3 := cell_of_row WB zb 3 _ _ _ BB.out; have f3 := frozen_of_row WB zb 3 _ _ BB.out
  have d4 := cell_of_row WB zb 4 _ _ _ BB.out; have f4 := frozen_of_row WB zb 4 _ _ BB.out
  have d5 := cell_of_row WB zb 5 _ _ _ BB.out; have f5 := frozen_of_row WB zb 5 _ _ BB.out
  have d6 := cell_of_row WB zb 6 _ _ _ BB.out; have f6 := frozen_of_row WB zb 6 _ _ BB.out
  have d7 := cell_of_row WB zb 7 _ _ _ BB.out; have f7 := frozen_of_row WB zb 7 _ _ BB.out
  have d8 := cell_of_row WB zb 8 _ _ _ BB.out; have f8 := frozen_of_row WB zb 8 _ _ BB.out
  have d9 := cell_of_row WB zb 9 _ _ _ BB.out; have f9 := frozen_of_row WB zb 9 _ _ BB.out
  have d10 := cell_of_row WB zb 10 _ _ _ BB.out; have f10 := frozen_of_row WB zb 10 _ _ BB.out
  simp only [List.getElem?_toArray, List.getElem?_cons_zero, List.getElem?_cons_succ] at d0 d1 d2 d3 d4 d5 d6 d7 d8 d9 d10
  refine wr1 4 rfl (fun K hK => ?_)
  go_simp
  obtain ⟨WE, hY⟩ : ∃ Y, Y = set11 WB zb (.int .u8 (rk : Nat)) (.int .i64 rtx) (.int .i64 rn) (.int .i64 ra) (.string rnm) (.int .u8 (rM : Nat)) (.slice la bl.length lc) (.slice ka rks.length kc) (.string rt) (.slice ga bg.length gc) (.slice sa bs.length sc) := ⟨_, rfl⟩
  obtain ⟨g, kY⟩ := put11 BB.out (.int .u8 (rk : Nat)) (.int .i64 rtx) (.int .i64 rn) (.int .i64 ra) (.string rnm) (.int .u8 (rM : Nat)) (.slice la bl.length lc) (.slice ka rks.length kc) (.string rt) (.slice ga bg.length gc) (.slice sa bs.length sc)
  rw [<- hY] at g kY
  simp only [set11] at hY
  rw [<- hY]
  have BE := iH g; have KK := iH kY
  have KE : RowKit.Hid (Kept w2 WE []) := iH (KB.out.trans kY (by intro x hx; simp at hx; exact .inr (by have := Lzb.out; omega)))
  clear hY g kY d0 f0 d1 f1 d2 f2 d3 f3 d4 f4 d5 f5 d6 f6 d7 f7 d8 f8 d9 f9 d10 f10
  have BF : RowKit.Hid (WE.heap[za]? = some (.cells #[.int .u8 0, .int .i64 0, .int .i64 0, .int .i64 0, .string ⟨#[]⟩, .int .u8 0, .slice none 0 0, .slice none 0 0, .string ⟨#[]⟩, .slice none 0 0, .slice none 0 0] 25 (0, 0))) := iH (KK.out.heap (by simp; omega) BA2.out)
  clear KK
  refine hK.out _ _ KE.out (fun hJ => ?_)
  clear hK K
  have d0 := cell_of_row WE za 0 _ _ _ BF.out; have f0 := frozen_of_row WE za 0 _ _ BF.out
  have d1 := cell_of_row WE za 1 _ _ _ BF.out; have f1 := frozen_of_row WE za 1 _ _ BF.out
  have d2 := cell_of_row WE za 2 _ _ _ BF.out; have f2 := frozen_of_row WE za 2 _ _ BF.out
  have d3 := cell_of_row WE za 3 _ _ _ BF.out; have f3 := frozen_of_row WE za 3 _ _ BF.out
  have d4 := cell_of_row WE za 4 _ _ _ BF.out; have f4 := frozen_of_row WE za 4 _ _ BF.out
  have d5 := cell_of_row WE za 5 _ _ _ BF.out; have f5 := frozen_of_row WE za 5 _ _ BF.out
  have d6 := cell_of_row WE za 6 _ _ _ BF.out; have f6 := frozen_of_row WE za 6 _ _ BF.out
  have d7 := cell_of_row WE za 7 _ _ _ BF.out; have f7 := frozen_of_row WE za 7 _ _ BF.out
  have d8 := cell_of_row WE za 8 _ _ _ BF.out; have f8 := frozen_of_row WE za 8 _ _ BF.out
  have d9 := cell_of_row WE za 9 _ _ _ BF.out; have f9 := frozen_of_row WE za 9 _ _ BF.out
  have d10 := cell_of_row WE za 10 _ _ _ BF.out; have f10 := frozen_of_row WE za 10 _ _ BF.out
  simp only [List.getElem?_toArray, List.getElem?_cons_zero, List.getElem?_cons_succ] at d0 d1 d2 d3 d4 d5 d6 d7 d8 d9 d10
  refine wr1 5 rfl (fun K hK => ?_)
  go_simp
  obtain ⟨WG, hY⟩ : ∃ Y, Y = set11 WE za (.int .u8 (rk : Nat)) (.int .i64 rtx) (.int .i64 rn) (.int .i64 ra) (.string rnm) (.int .u8 (rM : Nat)) (.slice la bl.length lc) (.slice ka rks.length kc) (.string rt) (.slice ga bg.length gc) (.slice sa bs.length sc) := ⟨_, rfl⟩
  obtain ⟨g, kY⟩ := put11 BF.out (.int .u8 (rk : Nat)) (.int .i64 rtx) (.int .i64 rn) (.int .i64 ra) (.string rnm) (.int .u8 (rM : Nat)) (.slice la bl.length lc) (.slice ka rks.length kc) (.string rt) (.slice ga bg.length gc) (.slice sa bs.length sc)
  rw [<- hY] at g kY
  simp only [set11] at hY
  rw [<- hY]
  have BG := iH g; have KK := iH kY
  have KG : RowKit.Hid (Kept w2 WG []) := iH (KE.out.trans kY (by intro x hx; simp at hx; exact .inr (by have := Lza.out; omega)))
  clear hY g kY d0 f0 d1 f1 d2 f2 d3 f3 d4 f4 d5 f5 d6 f6 d7 f7 d8 f8 d9 f9 d10 f10
  have BH : RowKit.Hid (WG.heap[zb]? = some (.cells #[.int .u8 (rk : Nat), .int .i64 rtx, .int .i64 rn, .int .i64 ra, .string rnm, .int .u8 (rM : Nat), .slice la bl.length lc, .slice ka rks.length kc, .string rt, .slice ga bg.length gc, .slice sa bs.length sc] 25 (0, 0))) := iH (KK.out.heap (by simp; omega) BE.out)
  clear KK
  refine hK.out _ _ KG.out (fun hJ => ?_)
  clear hK K
  refine wd ?_
  clear hJ
  go_wp2_with fail
  go_meet
  exact ⟨zb, za, rfl, rfl, Ne.symm hne, Lzb.out, Lza.out, KG, BH.out, BG.out⟩
 case rest =>
  obtain ⟨z5, z6, rfl, rfl, hne, l5, l6, K3, b5, b6⟩ := hcut
  obtain ⟨w3, hw3⟩ : ∃ w3, w3 = wc := ⟨_, rfl⟩
  subst hw3
  have hne2 : ¬ z5 = z6 := hne
  have hne3 : ¬ z6 = z5 := fun h => hne h.symm
  have d5 := cell_of_row w3 z5 0 _ _ _ b5; have f5 := frozen_of_row w3 z5 0 _ _ b5; have d6 := cell_of_row w3 z6 0 _ _ _ b6; have f6 := frozen_of_row w3 z6 0 _ _ b6
  simp only [List.getElem?_toArray, List.getElem?_cons_zero] at d5 d6
  obtain ⟨w4, hw4⟩ : ∃ w4, w4 = (w3.setCell ⟨z5, 0, none⟩ (.int .u8 (kq : Nat))).setCell ⟨z6, 0, none⟩ (.int .u8 (kq : Nat)) := ⟨_, rfl⟩
  have k34 : Kept w2 w4 [] := by rw [hw4]; exact (K3.out.setCell (.inr l5) _).setCell (.inr l6) _
  have b54 : w4.heap[z5]? = some (.cells #[.int .u8 (kq : Nat), .int .i64 rtx, .int .i64 rn, .int .i64 ra, .string rnm, .int .u8 (rM : Nat), .slice la bl.length lc, .slice ka rks.length kc, .string rt, .slice ga bg.length gc, .slice sa bs.length sc] 25 (0, 0)) := by
   have h1 := xqa b5 0 (.int .u8 (kq : Nat))
   simp only [List.setIfInBounds_toArray, List.set_cons_zero] at h1
   rw [hw4]
   exact ((Kept.refl _ [z6]).setCell (.inl (by simp)) _).heap (by simp; omega) h1
  have K4 := iH (K2.out.trans k34 (by simp)); have B54 := iH b54
  clear k34 b54 b5 b6 l5 l6 hne K3
  go_upto_region 5 with fail
  rw [<- hw4]
  clear hw4 d5 f5 d6 f6 hne2 hne3
  have pp := fun j => cell_of_row w4 z5 j _ _ _ B54.out
  have p0 := pp 0
  have p1 := pp 1
  have p2 := pp 2
  have p3 := pp 3
  have p4 := pp 4
  have p5 := pp 5
  have p6 := pp 6
  have p7 := pp 7
  have p8 := pp 8
  have p9 := pp 9
  have p10 := pp 10
  simp only [List.getElem?_toArray, List.getElem?_cons_zero, List.getElem?_cons_succ] at p0 p1 p2 p3 p4 p5 p6 p7 p8 p9 p10
  clear pp
  go_wp2_with fail
  refine (HOF.out _ K4.out).mono ?_
  rintro e w5 ⟨k, tx, nx, id1, ops, evs, tn, tm, op, ta, nm, n, at1, ao, ao1, ae, ae1, ai, ai1, M, l, rfl, rd5, lw5, hr3, hn3, hE3, hM3, k5⟩
  clear p0 p1 p2 p3 p4 p5 p6 p7 p8 p9 p10
  have K5 := iH (K4.out.trans k5 (by simp))
  clear hE3 hM3 k5
  have hk := hr3.k
  dsimp only at hk
  have HYR : RowKit.Hid (∀ c1 c2 c3 c6 c12 : Int, ((k = 1 ∨ k = 8) -> c1 = tx /\ c2 = nx /\ c3 = id1) -> (k = 2 -> c6 = tn) -> (7 <= k /\ k <= 8 -> c12 = at1) -> whole c1 -> whole c2 -> whole c3 -> whole c6 -> (-9223372036854775808 <= c12 /\ c12 <= 9223372036854775807) -> (⟨k, c1, c2, c3, ops, evs, c6, tm, op, ta, nm, n, c12⟩ : En).Right /\ (⟨k, c1, c2, c3, ops, evs, c6, tm, op, ta, nm, n, c12⟩ : En).norm = (⟨k, tx, nx, id1, ops, evs, tn, tm, op, ta, nm, n, at1⟩ : En)) := iH (fun c1 c2 c3 c6 c12 e1 e2 e3 w1 w2 w3 w6 w12 => kinds_y hr3 hn3 e1 e2 e3 w1 w2 w3 w6 w12)
  have HW := iH (And.intro hr3.tx (And.intro hr3.nx (And.intro hr3.id (And.intro hr3.tn hr3.at'))))
  dsimp only at HW
  have hops := hr3.nops; have hevs := hr3.nevs
  dsimp only at hops hevs
  have hlen := encL_len hr3
  have hbk := en_back hr3
  rw [hn3] at hbk
  have HFE := fun (V : World) (zo : Option Addr) (zo1 : Nat) (ze : Option Addr) (ze1 : Nat) (zi : Option Addr) (zi1 : Nat) (r : RdN V (⟨k, tx, nx, id1, ops, evs, tn, tm, op, ta, nm, n, at1⟩ : En) (.slice zo ops.length zo1) (.slice ze evs.length ze1) (.slice zi op.length zi1)) => rencode16_any (⟨k, tx, nx, id1, ops, evs, tn, tm, op, ta, nm, n, at1⟩ : En) (.slice zo ops.length zo1) (.slice ze evs.length ze1) (.slice zi op.length zi1) V hr3 r
  simp only [En.cs] at HFE
  have HENC := iH (fun (y : En) (hy : y.Right) (hn : y.norm = (⟨k, tx, nx, id1, ops, evs, tn, tm, op, ta, nm, n, at1⟩ : En)) => (by rw [<- encL_norm y, hn] : y.encL = En.encL (⟨k, tx, nx, id1, ops, evs, tn, tm, op, ta, nm, n, at1⟩ : En)))
  obtain ⟨L, hL⟩ : ∃ L, L = En.encL (⟨k, tx, nx, id1, ops, evs, tn, tm, op, ta, nm, n, at1⟩ : En) := ⟨_, rfl⟩
  rw [<- hL] at HFE hlen hbk HENC
  have HFE := iH HFE; have HLL := iH hlen.1
  have HD := iH (fun v V (h : Rd V v L) => ed_any k tx nx id1 ops evs tn tm op ta nm n at1 v L 0 V h (by omega) hbk.1 hbk.2)
  have HTU := iH (fun V (zo : Option Addr) (zo1 : Nat) (ze : Option Addr) (ze1 : Nat) (zi : Option Addr) (zi1 : Nat) (r : RdN V (⟨k, tx, nx, id1, ops, evs, tn, tm, op, ta, nm, n, at1⟩ : En) (.slice zo ops.length zo1) (.slice ze evs.length ze1) (.slice zi op.length zi1)) (fi : ∀ b, (Value.slice zi op.length zi1).ownBlock = some b -> b < V.heap.size) => tu_any k tx nx id1 ops evs tn tm op ta nm n at1 zo zo1 ze ze1 zi zi1 V r fi (by omega) (by omega))
  have HBA := iH (fun V (zo : Option Addr) (zo1 : Nat) (ze : Option Addr) (ze1 : Nat) (zi : Option Addr) (zi1 : Nat) (r : RdN V (⟨k, tx, nx, id1, ops, evs, tn, tm, op, ta, nm, n, at1⟩ : En) (.slice zo ops.length zo1) (.slice ze evs.length ze1) (.slice zi op.length zi1)) => ba_any k tx nx id1 ops evs tn tm op ta nm n at1 zo zo1 ze ze1 zi zi1 V r (by omega) (by omega))
  have HSR : RowKit.Hid (∀ V (yo : Option Addr) (yo1 : Nat) (ye : Option Addr) (ye1 : Nat) (yi : Option Addr) (yi1 : Nat) (zo : Option Addr) (zo1 : Nat) (ze : Option Addr) (ze1 : Nat) (zi : Option Addr) (zi1 : Nat), RdN V (⟨k, tx, nx, id1, ops, evs, tn, tm, op, ta, nm, n, at1⟩ : En) (.slice yo ops.length yo1) (.slice ye evs.length ye1) (.slice yi op.length yi1) -> RdN V (⟨k, tx, nx, id1, ops, evs, tn, tm, op, ta, nm, n, at1⟩ : En) (.slice zo ops.length zo1) (.slice ze evs.length ze1) (.slice zi op.length zi1) -> Calls Try.prog 19 #[.agg #[.int .u8 k, .int .i64 tx, .int .i64 nx, .int .i64 id1, .slice yo ops.length yo1, .slice ye evs.length ye1, .int .i64 tn, .int .i64 tm, .slice yi op.length yi1, .int .i64 ta, .string nm, .int .i64 n, .int .i64 at1], .agg #[.int .u8 k, .int .i64 tx, .int .i64 nx, .int .i64 id1, .slice zo ops.length zo1, .slice ze evs.length ze1, .int .i64 tn, .int .i64 tm, .slice zi op.length zi1, .int .i64 ta, .string nm, .int .i64 n, .int .i64 at1]] V fun e w' => e = .returned (.bool true) /\ Kept V w' []) := iH (fun V yo yo1 ye ye1 yi yi1 zo zo1 ze ze1 zi zi1 r1 r2 => EqP.ye (w := V) (rsame_any (⟨k, tx, nx, id1, ops, evs, tn, tm, op, ta, nm, n, at1⟩ : En) (⟨k, tx, nx, id1, ops, evs, tn, tm, op, ta, nm, n, at1⟩ : En) (.slice yo ops.length yo1) (.slice ye evs.length ye1) (.slice yi op.length yi1) (.slice zo ops.length zo1) (.slice ze evs.length ze1) (.slice zi op.length zi1) V r1 r2 ⟨by dsimp only; omega, by dsimp only; omega⟩) rfl)
  have HK := iH hk
  clear hL hlen hbk hops hevs hr3 hn3 hk
  obtain ⟨q, hq⟩ : ∃ q, q = w5.heap.size := ⟨_, rfl⟩
  obtain ⟨w6, hw6⟩ : ∃ w6, w6 = w5.alloc (.cells #[.int .u8 k, .int .i64 tx, .int .i64 nx, .int .i64 id1, .slice ao ops.length ao1, .slice ae evs.length ae1, .int .i64 tn, .int .i64 tm, .slice ai op.length ai1, .int .i64 ta, .string nm, .int .i64 n, .int .i64 at1] 35) := ⟨_, rfl⟩
  have R6 : RowKit.Hid (RdN w6 (⟨k, tx, nx, id1, ops, evs, tn, tm, op, ta, nm, n, at1⟩ : En) (.slice ao ops.length ao1) (.slice ae evs.length ae1) (.slice ai op.length ai1)) := iH (by rw [hw6]; exact rd5.keep ((Kept.refl w5 []).alloc _)); have B6 : RowKit.Hid (w6.heap[q]? = some (.cells #[.int .u8 k, .int .i64 tx, .int .i64 nx, .int .i64 id1, .slice ao ops.length ao1, .slice ae evs.length ae1, .int .i64 tn, .int .i64 tm, .slice ai op.length ai1, .int .i64 ta, .string nm, .int .i64 n, .int .i64 at1] 35 (0, 0))) := iH (by rw [hw6, hq]; exact heap_alloc_new w5 _)
  have LW6 : RowKit.Hid (∀ b, (Value.slice ai op.length ai1).ownBlock = some b -> b < w6.heap.size) := iH (fun b hb => by have := lw5.2.2 b hb; rw [hw6]; simp; omega)
  have K6 : RowKit.Hid (Kept W w6 []) := iH (by rw [hw6]; exact K5.out.alloc _)
  clear rd5 lw5
  go_upto_region 6 with fail
  rw [<- hw6, <- hq]
  clear hw6 hq
  have pp := fun j => cell_of_row w6 q j _ _ _ B6.out
  have p0 := pp 0
  have p1 := pp 1
  have p2 := pp 2
  have p3 := pp 3
  have p4 := pp 4
  have p5 := pp 5
  have p6 := pp 6
  have p7 := pp 7
  have p8 := pp 8
  have p9 := pp 9
  have p10 := pp 10
  have p11 := pp 11
  have p12 := pp 12
  simp only [List.getElem?_toArray, List.getElem?_cons_zero, List.getElem?_cons_succ] at p0 p1 p2 p3 p4 p5 p6 p7 p8 p9 p10 p11 p12
  clear pp
  go_wp2_with fail
  refine (HTU.out _ _ _ _ _ _ _ R6.out LW6.out).mono ?_
  rintro e w7 ⟨b5o, b5o1, b5e, b5e1, rfl, r7, lw7, k7⟩
  clear p0 p1 p2 p3 p4 p5 p6 p7 p8 p9 p10 p11 p12
  obtain ⟨g, hg⟩ : ∃ g, g = w7.heap.size := ⟨_, rfl⟩
  obtain ⟨w8, hw8⟩ : ∃ w8, w8 = w7.alloc (.cells #[.int .u8 k, .int .i64 tx, .int .i64 nx, .int .i64 id1, .slice b5o ops.length b5o1, .slice b5e evs.length b5e1, .int .i64 tn, .int .i64 tm, .slice ai op.length ai1, .int .i64 ta, .string nm, .int .i64 n, .int .i64 at1] 41) := ⟨_, rfl⟩
  have k78 := ((Kept.refl w7 []).alloc (.cells #[.int .u8 k, .int .i64 tx, .int .i64 nx, .int .i64 id1, .slice b5o ops.length b5o1, .slice b5e evs.length b5e1, .int .i64 tn, .int .i64 tm, .slice ai op.length ai1, .int .i64 ta, .string nm, .int .i64 n, .int .i64 at1] 41))
  rw [<- hw8] at k78
  have k68 := k7.trans k78 (by simp)
  have K8 := iH (K6.out.trans k68 (by simp)); have R8 := iH (r7.keep k78); have X8 := iH (R6.out.keep k68); have B8 := iH (k68.heap (by simp) B6.out)
  have G8 : RowKit.Hid (w8.heap[g]? = some (.cells #[.int .u8 k, .int .i64 tx, .int .i64 nx, .int .i64 id1, .slice b5o ops.length b5o1, .slice b5e evs.length b5e1, .int .i64 tn, .int .i64 tm, .slice ai op.length ai1, .int .i64 ta, .string nm, .int .i64 n, .int .i64 at1] 41 (0, 0))) := iH (by rw [hw8, hg]; exact heap_alloc_new w7 _)
  have LW8 : RowKit.Hid (LowN w8 (.slice b5o ops.length b5o1) (.slice b5e evs.length b5e1) (.slice ai op.length ai1)) := iH ⟨fun b hb => Nat.lt_of_lt_of_le (lw7.1 b hb) k78.size, fun b hb => Nat.lt_of_lt_of_le (lw7.2.1 b hb) k78.size, fun b hb => Nat.lt_of_lt_of_le (lw7.2.2 b hb) k78.size⟩
  have XG : RowKit.Hid ((ops ≠ [] -> ∀ b, (Value.slice ao ops.length ao1).ownBlock = some b -> b < g) /\ (evs ≠ [] -> ∀ b, (Value.slice ae evs.length ae1).ownBlock = some b -> b < g)) := iH ⟨fun hne b hb => by have := RdK.blk_lt (R6.out.ro.keep k7) (List.length_pos_iff.2 hne) b hb; omega, fun hne b hb => by have := RdK.blk_lt (R6.out.re.keep k7) (List.length_pos_iff.2 hne) b hb; omega⟩
  have GN : RowKit.Hid ((∀ b, (Value.slice b5o ops.length b5o1).ownBlock = some b -> b ∉ [g]) /\ (∀ b, (Value.slice b5e evs.length b5e1).ownBlock = some b -> b ∉ [g]) /\ (∀ b, (Value.slice ai op.length ai1).ownBlock = some b -> b ∉ [g])) := iH ⟨fun b hb => by have := lw7.1 b hb; simp; omega, fun b hb => by have := lw7.2.1 b hb; simp; omega, fun b hb => by have := lw7.2.2 b hb; simp; omega⟩
  have HWG : RowKit.Hid (W.heap.size <= g) := iH (by have := (K6.out.trans k7 (by simp)).size; omega)
  have HQG : RowKit.Hid (q ≠ g) := iH (by have := (Array.getElem?_eq_some_iff.1 B6.out).1; have := k7.size; omega)
  go_upto_region 7 with fail
  rw [<- hw8, <- hg]
  clear k7 k78 k68 hw8 r7 lw7 hg
  have p0 := cell_of_row w8 q 0 _ _ _ B8.out
  simp only [List.getElem?_toArray, List.getElem?_cons_zero] at p0
  go_cut [37] (fun s wx => s = .bool (decide (k ≠ 1 /\ k ≠ 8)) /\ w8 = wx)
  case first =>
   by_cases h1 : k = 1
   ·have y1 : (k != 1) = false := by simp [h1]
    have y2 : RowKit.Hid (decide (k ≠ 1 /\ k ≠ 8) = false) := iH (by simp [h1])
    clear h1
    go_wp2_with fail
    go_meet
    exact ⟨by rw [y2.out], rfl⟩
   have y1 : (k != 1) = true := by simp [h1]
   by_cases h8 : k = 8
   ·have y3 : (k != 8) = false := by simp [h8]
    have y2 : RowKit.Hid (decide (k ≠ 1 /\ k ≠ 8) = false) := iH (by simp [h8])
    clear h1 h8
    go_wp2_with fail
    go_meet
    exact ⟨by rw [y2.out], rfl⟩
   have y3 : (k != 8) = true := by simp [h8]
   have y2 : RowKit.Hid (decide (k ≠ 1 /\ k ≠ 8) = true) := iH (by simp [h1, h8])
   clear h1 h8
   go_wp2_with fail
   go_meet
   exact ⟨by rw [y2.out], rfl⟩
  case rest =>
  obtain ⟨rfl, rfl⟩ := hcut
  clear p0
  go_upto_if 37 with fail
  go_cut [] (fun wx => ∃ c1 c2 c3 : Int, RowKit.Hid ((k = 1 ∨ k = 8) -> c1 = tx /\ c2 = nx /\ c3 = id1) /\ RowKit.Hid (whole c1 /\ whole c2 /\ whole c3) /\ RowKit.Hid (Kept w8 wx [g]) /\ RowKit.Hid (wx.heap[g]? = some (.cells #[.int .u8 k, .int .i64 c1, .int .i64 c2, .int .i64 c3, .slice b5o ops.length b5o1, .slice b5e evs.length b5e1, .int .i64 tn, .int .i64 tm, .slice ai op.length ai1, .int .i64 ta, .string nm, .int .i64 n, .int .i64 at1] 41 (0, 0))))
  case first =>
   have d1 := cell_of_row w8 g 1 _ _ _ G8.out; have d2 := cell_of_row w8 g 2 _ _ _ G8.out; have d3 := cell_of_row w8 g 3 _ _ _ G8.out; have f1 := frozen_of_row w8 g 1 _ _ G8.out; have f2 := frozen_of_row w8 g 2 _ _ G8.out; have f3 := frozen_of_row w8 g 3 _ _ G8.out
   simp only [List.getElem?_toArray, List.getElem?_cons_zero, List.getElem?_cons_succ] at d1 d2 d3
   by_cases hc : k ≠ 1 /\ k ≠ 8
   ·have y2 : decide (k ≠ 1 /\ k ≠ 8) = true := by simp [hc]
    have hc2 := iH hc
    clear hc
    rw [y2]
    go_wp2_with fail
    go_meet
    exact ⟨5, 6, 7, iH (fun h => absurd h (by have := hc2.out; omega)), iH ⟨⟨by decide, by decide⟩, ⟨by decide, by decide⟩, ⟨by decide, by decide⟩⟩, iH ((((Kept.refl w8 [g]).setCell (.inl (by simp)) _).setCell (.inl (by simp)) _).setCell (.inl (by simp)) _), iH (by have := xqa (xqa (xqa G8.out 1 (.int .i64 5)) 2 (.int .i64 6)) 3 (.int .i64 7); simpa using this)⟩
   have y2 : decide (k ≠ 1 /\ k ≠ 8) = false := by simp; omega
   clear hc
   rw [y2]
   go_wp2_with fail
   go_meet
   exact ⟨tx, nx, id1, iH (fun _ => ⟨rfl, rfl, rfl⟩), iH ⟨HW.out.1, HW.out.2.1, HW.out.2.2.1⟩, iH (Kept.refl w8 [g]), G8⟩
  case rest =>
  obtain ⟨c1, c2, c3, hc1, hc2, k9, g9⟩ := hcut
  obtain ⟨w9, hw9⟩ : ∃ w9, w9 = wc := ⟨_, rfl⟩
  subst hw9
  have B9 := iH (k9.out.heap (by simp; exact HQG.out) B8.out)
  have p0 := cell_of_row w9 q 0 _ _ _ B9.out
  simp only [List.getElem?_toArray, List.getElem?_cons_zero] at p0
  go_upto_if 43 with fail
  clear p0
  go_cut [] (fun wx => ∃ c6 : Int, RowKit.Hid (k = 2 -> c6 = tn) /\ RowKit.Hid (whole c6) /\ RowKit.Hid (Kept w9 wx [g]) /\ RowKit.Hid (wx.heap[g]? = some (.cells #[.int .u8 k, .int .i64 c1, .int .i64 c2, .int .i64 c3, .slice b5o ops.length b5o1, .slice b5e evs.length b5e1, .int .i64 c6, .int .i64 tm, .slice ai op.length ai1, .int .i64 ta, .string nm, .int .i64 n, .int .i64 at1] 41 (0, 0))))
  case first =>
   have d6 := cell_of_row w9 g 6 _ _ _ g9.out; have f6 := frozen_of_row w9 g 6 _ _ g9.out
   simp only [List.getElem?_toArray, List.getElem?_cons_zero, List.getElem?_cons_succ] at d6
   by_cases hc : k = 2
   ·have y2 : (k != 2) = false := by simp [hc]
    clear hc
    go_wp2_with fail
    go_meet
    exact ⟨tn, iH (fun _ => rfl), iH HW.out.2.2.2.1, iH (Kept.refl w9 [g]), g9⟩
   have y2 : (k != 2) = true := by simp [hc]
   have hcc := iH hc
   clear hc
   go_wp2_with fail
   go_meet
   exact ⟨9, iH (fun h => absurd h hcc.out), iH ⟨by decide, by decide⟩, iH ((Kept.refl w9 [g]).setCell (.inl (by simp)) _), iH (by have := xqa g9.out 6 (.int .i64 9); simpa using this)⟩
  case rest =>
  obtain ⟨c6, hc6, hw6, k10, g10⟩ := hcut
  obtain ⟨w10, hw10⟩ : ∃ w10, w10 = wc := ⟨_, rfl⟩
  subst hw10
  have B10 := iH (k10.out.heap (by simp; exact HQG.out) B9.out)
  have p0 := cell_of_row w10 q 0 _ _ _ B10.out
  simp only [List.getElem?_toArray, List.getElem?_cons_zero] at p0
  go_upto_region 11 with fail
  go_cut [53] (fun s wx => s = .bool (decide (k < 7 ∨ 8 < k)) /\ w10 = wx)
  case first =>
   by_cases h1 : k < 7
   ·have y1 : decide (k < 7) = true := by simp [h1]
    have y2 : RowKit.Hid (decide (k < 7 ∨ 8 < k) = true) := iH (by simp [h1])
    clear h1
    go_wp2_with fail
    go_meet
    exact ⟨by rw [y2.out], rfl⟩
   have y1 : decide (k < 7) = false := by simp; omega
   by_cases h8 : 8 < k
   ·have y3 : decide (8 < k) = true := by simp [h8]
    have y2 : RowKit.Hid (decide (k < 7 ∨ 8 < k) = true) := iH (by simp [h8])
    clear h1 h8
    go_wp2_with fail
    go_meet
    exact ⟨by rw [y2.out], rfl⟩
   have y3 : decide (8 < k) = false := by simp; omega
   have y2 : RowKit.Hid (decide (k < 7 ∨ 8 < k) = false) := iH (by simp; omega)
   clear h1 h8
   go_wp2_with fail
   go_meet
   exact ⟨by rw [y2.out], rfl⟩
  case rest =>
  obtain ⟨rfl, rfl⟩ := hcut
  clear p0
  go_upto_if 53 with fail
  go_cut [] (fun wx => ∃ c12 : Int, RowKit.Hid (7 <= k /\ k <= 8 -> c12 = at1) /\ RowKit.Hid (-9223372036854775808 <= c12 /\ c12 <= 9223372036854775807) /\ RowKit.Hid (Kept w10 wx [g]) /\ RowKit.Hid (wx.heap[g]? = some (.cells #[.int .u8 k, .int .i64 c1, .int .i64 c2, .int .i64 c3, .slice b5o ops.length b5o1, .slice b5e evs.length b5e1, .int .i64 c6, .int .i64 tm, .slice ai op.length ai1, .int .i64 ta, .string nm, .int .i64 n, .int .i64 c12] 41 (0, 0))))
  case first =>
   have d12 := cell_of_row w10 g 12 _ _ _ g10.out; have f12 := frozen_of_row w10 g 12 _ _ g10.out
   simp only [List.getElem?_toArray, List.getElem?_cons_zero, List.getElem?_cons_succ] at d12
   by_cases hc : k < 7 ∨ 8 < k
   ·have y2 : decide (k < 7 ∨ 8 < k) = true := by simp [hc]
    have hcc := iH hc
    clear hc
    rw [y2]
    go_wp2_with fail
    go_meet
    exact ⟨4, iH (fun h => absurd h (by have := hcc.out; omega)), iH ⟨by decide, by decide⟩, iH ((Kept.refl w10 [g]).setCell (.inl (by simp)) _), iH (by have := xqa g10.out 12 (.int .i64 4); simpa using this)⟩
   have y2 : decide (k < 7 ∨ 8 < k) = false := by simp; omega
   clear hc
   rw [y2]
   go_wp2_with fail
   go_meet
   exact ⟨at1, iH (fun _ => rfl), iH HW.out.2.2.2.2, iH (Kept.refl w10 [g]), g10⟩
  case rest =>
  obtain ⟨c12, hc12, hw12, k11, g11⟩ := hcut
  obtain ⟨w11, hw11⟩ : ∃ w11, w11 = wc := ⟨_, rfl⟩
  subst hw11
  obtain ⟨hyr, hyn⟩ := HYR.out c1 c2 c3 c6 c12 hc1.out hc6.out hc12.out hc2.out.1 hc2.out.2.1 hc2.out.2.2 hw6.out hw12.out
  have k811 : Kept w8 w11 [g] := (k9.out.trans k10.out (fun x hx => .inl hx)).trans k11.out (fun x hx => .inl hx)
  have B11 := iH (k11.out.heap (by simp; exact HQG.out) B10.out)
  have K11 : RowKit.Hid (Kept W w11 []) := iH (K8.out.trans k811 (by intro x hx; simp at hx; exact .inr (by have := HWG.out; omega)))
  have RY : RdN w11 (⟨k, c1, c2, c3, ops, evs, c6, tm, op, ta, nm, n, c12⟩ : En) (.slice b5o ops.length b5o1) (.slice b5e evs.length b5e1) (.slice ai op.length ai1) := ⟨R8.out.ro.kept k811 GN.out.1, R8.out.re.kept k811 GN.out.2.1, R8.out.ri.kept k811 GN.out.2.2⟩
  have RX : RowKit.Hid (RdN w11 (⟨k, tx, nx, id1, ops, evs, tn, tm, op, ta, nm, n, at1⟩ : En) (.slice ao ops.length ao1) (.slice ae evs.length ae1) (.slice ai op.length ai1)) := iH ⟨X8.out.ro.kept2b k811 (fun hne b hb => by have := XG.out.1 hne b hb; simp; omega), X8.out.re.kept2b k811 (fun hne b hb => by have := XG.out.2 hne b hb; simp; omega), X8.out.ri.kept k811 GN.out.2.2⟩
  have LY : LowN w11 (.slice b5o ops.length b5o1) (.slice b5e evs.length b5e1) (.slice ai op.length ai1) := ⟨fun b hb => Nat.lt_of_lt_of_le (LW8.out.1 b hb) k811.size, fun b hb => Nat.lt_of_lt_of_le (LW8.out.2.1 b hb) k811.size, fun b hb => Nat.lt_of_lt_of_le (LW8.out.2.2 b hb) k811.size⟩
  have HEN := eencode_any (⟨k, c1, c2, c3, ops, evs, c6, tm, op, ta, nm, n, c12⟩ : En) (.slice b5o ops.length b5o1) (.slice b5e evs.length b5e1) (.slice ai op.length ai1) w11 hyr RY LY.1 LY.2.1 LY.2.2
  rw [HENC.out _ hyr hyn] at HEN
  simp only [En.cs] at HEN
  have HEN := iH HEN
  clear hyr hyn RY LY k811
  have pp := fun j => cell_of_row w11 g j _ _ _ g11.out
  have p0 := pp 0
  have p1 := pp 1
  have p2 := pp 2
  have p3 := pp 3
  have p4 := pp 4
  have p5 := pp 5
  have p6 := pp 6
  have p7 := pp 7
  have p8 := pp 8
  have p9 := pp 9
  have p10 := pp 10
  have p11 := pp 11
  have p12 := pp 12
  simp only [List.getElem?_toArray, List.getElem?_cons_zero, List.getElem?_cons_succ] at p0 p1 p2 p3 p4 p5 p6 p7 p8 p9 p10 p11 p12
  clear pp
  go_wp2_with fail
  refine (HEN.out).mono ?_
  rintro e w12 ⟨v12, rfl, o12, k12⟩
  obtain ⟨a6, n6, c6_, e6⟩ := o12.shape3
  subst e6
  have K12 := iH (K11.out.trans k12 (by simp)); have O12 := iH o12.rd; have R12 := iH (RX.out.keep k12); have B12 := iH (k12.heap (by simp) B11.out)
  clear k12 o12
  clear p0 p1 p2 p3 p4 p5 p6 p7 p8 p9 p10 p11 p12
  go_wp2_with fail
  refine (HD.out _ _ O12.out).mono ?_
  rintro e w13 ⟨xo, xo1, xe, xe1, xi, xi1, rfl, r13, k13⟩
  obtain ⟨W9, hW9⟩ : ∃ W9, W9 = w13.alloc (.cells #[.int .u8 k, .int .i64 tx, .int .i64 nx, .int .i64 id1, .slice xo ops.length xo1, .slice xe evs.length xe1, .int .i64 tn, .int .i64 tm, .slice xi op.length xi1, .int .i64 ta, .string nm, .int .i64 n, .int .i64 at1] 41) := ⟨_, rfl⟩
  have kk := k13.alloc (.cells #[.int .u8 k, .int .i64 tx, .int .i64 nx, .int .i64 id1, .slice xo ops.length xo1, .slice xe evs.length xe1, .int .i64 tn, .int .i64 tm, .slice xi op.length xi1, .int .i64 ta, .string nm, .int .i64 n, .int .i64 at1] 41)
  rw [<- hW9] at kk
  have K9 : RowKit.Hid (Kept W W9 []) := iH (K12.out.trans kk (by simp)); have BQ := iH (kk.heap (by simp) B12.out)
  have BX9 : RowKit.Hid (W9.heap[w13.heap.size]? = some (.cells #[.int .u8 k, .int .i64 tx, .int .i64 nx, .int .i64 id1, .slice xo ops.length xo1, .slice xe evs.length xe1, .int .i64 tn, .int .i64 tm, .slice xi op.length xi1, .int .i64 ta, .string nm, .int .i64 n, .int .i64 at1] 41 (0, 0))) := iH (by rw [hW9]; exact heap_alloc_new w13 _)
  have RE := iH (fun V (hV : Kept W9 V []) => (R12.out.keep kk).keep hV); have RO := iH (fun V (hV : Kept W9 V []) => (O12.out.kept kk (by simp)).kept hV (by simp))
  have RX9 : RowKit.Hid (∀ V, Kept W9 V [] -> RdN V (⟨k, tx, nx, id1, ops, evs, tn, tm, op, ta, nm, n, at1⟩ : En) (.slice xo ops.length xo1) (.slice xe evs.length xe1) (.slice xi op.length xi1)) := iH (fun V hV => (r13.keep ((Kept.refl w13 []).alloc _)).keep (by rw [<- hW9]; exact hV))
  clear k13 kk r13
  go_upto_region 15 with fail
  rw [<- hW9]
  clear hW9
  refine wp_region_held_drew (S := fun Z => Kept W9 Z []) (by kernel_rfl) (Kept.refl W9 []).drew (fun hJ => ?_)
  refine wx 0 62 (.slice a6 n6 c6_) rfl hJ ?_
  refine wx 1 63 (.agg #[.int .u8 k, .int .i64 tx, .int .i64 nx, .int .i64 id1, .slice ao ops.length ao1, .slice ae evs.length ae1, .int .i64 tn, .int .i64 tm, .slice ai op.length ai1, .int .i64 ta, .string nm, .int .i64 n, .int .i64 at1]) rfl hJ ?_ (hy := fun V hV => by (have hh := hV.heap (by simp) BQ.out; have q0 := cell_of_row V _ 0 _ _ _ hh; have q1 := cell_of_row V _ 1 _ _ _ hh; have q2 := cell_of_row V _ 2 _ _ _ hh; have q3 := cell_of_row V _ 3 _ _ _ hh; have q4 := cell_of_row V _ 4 _ _ _ hh; have q5 := cell_of_row V _ 5 _ _ _ hh; have q6 := cell_of_row V _ 6 _ _ _ hh; have q7 := cell_of_row V _ 7 _ _ _ hh; have q8 := cell_of_row V _ 8 _ _ _ hh; have q9 := cell_of_row V _ 9 _ _ _ hh; have q10 := cell_of_row V _ 10 _ _ _ hh; have q11 := cell_of_row V _ 11 _ _ _ hh; have q12 := cell_of_row V _ 12 _ _ _ hh; clear hV hh; simp only [List.getElem?_toArray, List.getElem?_cons_zero, List.getElem?_cons_succ] at q0 q1 q2 q3 q4 q5 q6 q7 q8 q9 q10 q11 q12; go_simp))
  refine wr1 2 rfl (fun KZ hK => ?_)
  go_simp
  go_at_call 17
  refine (HFE.out _ _ _ _ _ _ _ (RE.out _ (Kept.refl W9 []).drew)).mono ?_
  rintro e w20 ⟨v20, rfl, o20, k20⟩
  obtain ⟨a20, n20, c20, e20⟩ := o20.shape3
  subst e20
  have k20 := ((Kept.refl W9 []).drew).trans k20 (by simp)
  have o20 := o20.rd
  go_wp2_with fail
  refine hK.out _ _ k20 (fun hJ => ?_)
  clear hK KZ
  refine wr1 3 rfl (fun KZ hK => ?_)
  go_simp
  go_at_call 16
  refine (alike_any _ _ L L _ (RO.out _ k20) o20 (by have := HLL.out; omega)).mono ?_
  rintro e w21 ⟨rfl, k21⟩
  have k21 := k20.trans k21 (by simp)
  clear k20 o20
  have hLL : (L == L) = true := by simp
  go_wp2_with fail
  refine hK.out _ _ k21 (fun hJ => ?_)
  clear hK KZ
  refine wx 4 66 (.bool true) rfl hJ ?_
  clear hLL
  refine wx 5 67 (.int .i64 0) rfl hJ ?_
  refine wx 6 68 (.bool true) rfl hJ ?_
  refine wx 7 69 (.bool true) rfl hJ ?_
  refine wx 8 70 (.bool true) rfl hJ ?_
  refine wx 9 71 (.agg #[.int .u8 k, .int .i64 tx, .int .i64 nx, .int .i64 id1, .slice xo ops.length xo1, .slice xe evs.length xe1, .int .i64 tn, .int .i64 tm, .slice xi op.length xi1, .int .i64 ta, .string nm, .int .i64 n, .int .i64 at1]) rfl hJ ?_ (hy := fun V hV => by (have hh := hV.heap (by simp) BX9.out; have q0 := cell_of_row V _ 0 _ _ _ hh; have q1 := cell_of_row V _ 1 _ _ _ hh; have q2 := cell_of_row V _ 2 _ _ _ hh; have q3 := cell_of_row V _ 3 _ _ _ hh; have q4 := cell_of_row V _ 4 _ _ _ hh; have q5 := cell_of_row V _ 5 _ _ _ hh; have q6 := cell_of_row V _ 6 _ _ _ hh; have q7 := cell_of_row V _ 7 _ _ _ hh; have q8 := cell_of_row V _ 8 _ _ _ hh; have q9 := cell_of_row V _ 9 _ _ _ hh; have q10 := cell_of_row V _ 10 _ _ _ hh; have q11 := cell_of_row V _ 11 _ _ _ hh; have q12 := cell_of_row V _ 12 _ _ _ hh; clear hV hh; simp only [List.getElem?_toArray, List.getElem?_cons_zero, List.getElem?_cons_succ] at q0 q1 q2 q3 q4 q5 q6 q7 q8 q9 q10 q11 q12; go_simp))
  refine wx 11 73 (.agg #[.int .u8 k, .int .i64 tx, .int .i64 nx, .int .i64 id1, .slice ao ops.length ao1, .slice ae evs.length ae1, .int .i64 tn, .int .i64 tm, .slice ai op.length ai1, .int .i64 ta, .string nm, .int .i64 n, .int .i64 at1]) rfl hJ ?_ (hy := fun V hV => by (have hh := hV.heap (by simp) BQ.out; have q0 := cell_of_row V _ 0 _ _ _ hh; have q1 := cell_of_row V _ 1 _ _ _ hh; have q2 := cell_of_row V _ 2 _ _ _ hh; have q3 := cell_of_row V _ 3 _ _ _ hh; have q4 := cell_of_row V _ 4 _ _ _ hh; have q5 := cell_of_row V _ 5 _ _ _ hh; have q6 := cell_of_row V _ 6 _ _ _ hh; have q7 := cell_of_row V _ 7 _ _ _ hh; have q8 := cell_of_row V _ 8 _ _ _ hh; have q9 := cell_of_row V _ 9 _ _ _ hh; have q10 := cell_of_row V _ 10 _ _ _ hh; have q11 := cell_of_row V _ 11 _ _ _ hh; have q12 := cell_of_row V _ 12 _ _ _ hh; clear hV hh; simp only [List.getElem?_toArray, List.getElem?_cons_zero, List.getElem?_cons_succ] at q0 q1 q2 q3 q4 q5 q6 q7 q8 q9 q10 q11 q12; go_simp))
  refine wr1 10 rfl (fun KZ hK => ?_)
  go_simp
  go_at_call 20
  refine (HBA.out _ _ _ _ _ _ _ (RX9.out _ k21)).mono ?_
  rintro e w22 ⟨uo, uo1, ue, ue1, rfl, r22, k22⟩
  have k22 := k21.trans k22 (by simp)
  clear k21
  go_wp2_with fail
  refine hK.out _ _ k22 (fun hJ => ?_)
  clear hK KZ
  refine wr1 12 rfl (fun KZ hK => ?_)
  go_simp
  go_at_call 19
  refine (HSR.out _ _ _ _ _ _ _ _ _ _ _ _ _ r22 (RE.out _ k22)).mono ?_
  rintro e w23 ⟨rfl, k23⟩
  have k23 := k22.trans k23 (by simp)
  clear k22 r22
  go_wp2_with fail
  refine hK.out _ _ k23 (fun hJ => ?_)
  clear hK KZ
  refine wx 13 75 (.bool true) rfl hJ ?_
  refine wx 14 4 (.bool true) rfl hJ ?_
  refine wd ?_
  have K23 := iH (K9.out.trans k23 (by simp))
  clear k23 hJ
  go_wp2
  go_ret
  exact ⟨rfl, K23.out.below (Nat.le_refl _) (by simp)⟩
theorem lifted (os : Os) (started : os.Started) (H : Type) (enc : TypeId × Value -> H) :
  ReturnsInHanded {} Try.checked os 8 .any (Rows.entryKindsSpec.pre6 enc Try.prog Try.f8 Rows.entryKindsRow.domain false) (Rows.entryKindsSpec.post enc Try.prog Try.f8 false true false false) := by
 refine returnsInHanded_of_change (C := Try.checked) own started (by kernel_rfl) Try.func8
  (ChangeSpec.witness6 (enc := enc) (C := Try.checked) false ⟨#[], #[.agg #[.int .u8 0, .int .i64 0, .int .i64 0, .int .i64 0, .string ByteArray.empty, .int .u8 0, .slice none 0 0, .slice none 0 0, .string ByteArray.empty, .slice none 0 0, .slice none 0 0], .int .u8 0], []⟩ 8 (by kernel_rfl) (by kernel_rfl) (by kernel_rfl) (by kernel_rfl)) ?_
 intro W base args ds gs before hval0 hW hcnd _
 have hval : ∀ (j : Nat) t v, Try.f8.params[j]? = some t -> args[j]? = some v -> Value.okWide Try.prog W .any base t v := hval0
 have hW' := hW
 obtain ⟨p, q, hA0, hV, rfl, hfz, hnd⟩ := hW
 have hA : DataW.TrodAll enc Try.prog W 0 (fun _ => true) true Try.f8.params.toList args.toList ds p := hA0
 rw [Try.params8] at hA hval
 obtain ⟨v0, vs0, d0, ds0, p0, q0, hargs, rfl, rfl, h0, r0⟩ := trodAll_cons hA
 obtain ⟨v1, vs1, d1, ds1, p1, q1, rfl, rfl, rfl, h1, r1⟩ := trodAll_cons r0
 obtain ⟨rfl, rfl, rfl⟩ := trodAll_nil r1
 obtain rfl : args = #[v0, v1] := by cases args; simp_all
 obtain ⟨rfl, rfl⟩ := trodVars_none hV
 have k0 := h0
 have lt0 : ∀ x ∈ p0, x.block < W.heap.size := by obtain ⟨m, hm⟩ := k0; exact DataW.trod_lt m _ _ _ hm
 obtain ⟨raw0, vl0, vk0, vg0, vs0, bl0, bg0, bs0, rfl, w0, u0⟩ := raw_open (hval 0 25 v0 rfl rfl) h0
 obtain ⟨a1, rfl, rfl, rfl, w1⟩ := open_int Try.underlying5 (hval 1 5 v1 rfl rfl) h1
 clear hA0 hval0
 refine (walk raw0 vl0 vk0 vg0 vs0 bl0 bg0 bs0 a1 W w0 u0 w1).mono fun e W' ⟨he, bel⟩ => ?_
 subst he
 exact ⟨_, rfl, _, _, _, [], _, [], hW', trodAll_mk1 (shut_bool Try.underlying4 _), (trodAll_cons_mk (Below.trod laidOut (by kernel_rfl) (of_decide_eq_true (by kernel_rfl)) k0 bel lt0) (trodAll_cons_mk (shut_int Try.underlying5 w1) trodAll_mk0)), rfl, bel.frame _, fun h => by cases h⟩
theorem over : Rows.entryKindsRow.holds Try.pinned (OpenSpec.ofChange Rows.entryKindsSpec) :=
 OpenClaim.holds_of_wide 8 Try.f8 rfl rfl rfl rfl rfl rfl rfl ⟨rfl, rfl, rfl, rfl, rfl⟩ rfl rfl rfl rfl rfl (by kernel_rfl) Try.func8 (by kernel_rfl)
  (of_decide_eq_true (by kernel_rfl)) (by unfold Func.isWrapper; first | (rw [if_pos (by decide +kernel)]; kernel_rfl) | (rw [if_neg (by decide +kernel)]; exact ⟨rfl, rfl⟩))
  (fun os started H enc _ => lifted os started H enc)
theorem proved : Rows.EntryKindsSaid :=
 over
end Go.Proofs.Ytjdbmlifekghfaa.entryKinds
namespace Go.Proofs.Ytjdbmlifekghfaa
theorem entryKinds_holds : Rows.EntryKindsSaid := entryKinds.proved
#print axioms entryKinds_holds
end Go.Proofs.Ytjdbmlifekghfaa
