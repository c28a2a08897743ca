/-
  Erh, Eri in one text.
-/
import Derived.Test.YtjdbmlifekghfaaEt0
import Derived.Test.YtjdbmlifekghfaaEt19
import Derived.Test.YtjdbmlifekghfaaEt20
set_option linter.unusedVariables false
set_option maxHeartbeats 16000000
set_option maxRecDepth 100000
namespace Go.Proofs.Ytjdbmlifekghfaa
open Go.RowKit
theorem renc2 (tx nx id1 : Int) (ops : List Ox) (evs : List Px) (tn tm : Int) (op : List Int) (ta : Int) (nm : ByteArray) (n at1 : Int) (vo ve : Value) (ia : Option Addr) (ic1 : Nat) (w : World) (rd : RdN w (⟨2, tx, nx, id1, ops, evs, tn, tm, op, ta, nm, n, at1⟩ : En) vo ve (.slice ia op.length ic1)) (htn : whole tn) (htm : whole tm) (hop : ∀ x ∈ op, whole x) (hopl : op.length <= 1000) (hta : -9223372036854775808 <= ta /\ ta <= 9223372036854775807) :
  Calls Try.prog 17 #[.agg #[.int .u8 2, .int .i64 tx, .int .i64 nx, .int .i64 id1, vo, ve, .int .i64 tn, .int .i64 tm, .slice ia op.length ic1, .int .i64 ta, .string nm, .int .i64 n, .int .i64 at1]] w fun en w' => ∃ v', en = .returned v' /\ Own w' w.heap.size 5 v' (([2] : List UInt8) ++ xqb tn ++ xqb tm ++ numL op.length ++ xqf xqb op ++ intL ta) /\ Kept w w' [] := by
 have l0 := xqe htn
 have l1 := xqe htm
 have l2 := xqc (n := op.length) (by omega)
 have l3 := openK_len hop hopl
 have l4 := xqT hta
 have HL0 : RowKit.Hid ((([2] : List UInt8)).length <= 1000000) := iH (by decide)
 have HL1 : RowKit.Hid ((([2] : List UInt8) ++ xqb tn).length <= 1000000) := iH (by simp only [List.length_append, List.length_singleton]; omega)
 have HL2 : RowKit.Hid ((([2] : List UInt8) ++ xqb tn ++ xqb tm).length <= 1000000) := iH (by simp only [List.length_append, List.length_singleton]; omega)
 have HL3 : RowKit.Hid ((([2] : List UInt8) ++ xqb tn ++ xqb tm ++ numL op.length).length <= 1000000) := iH (by simp only [List.length_append, List.length_singleton]; omega)
 have HL4 : RowKit.Hid ((([2] : List UInt8) ++ xqb tn ++ xqb tm ++ numL op.length ++ xqf xqb op).length <= 1000000) := iH (by simp only [List.length_append, List.length_singleton]; omega)
 have HL5 : RowKit.Hid ((([2] : List UInt8) ++ xqb tn ++ xqb tm ++ numL op.length ++ xqf xqb op ++ intL ta).length <= 1000000) := iH (by simp only [List.length_append, List.length_singleton]; omega)
 clear l0 l1 l2 l3 l4
 have Hhtn := iH htn
 have Hhtm := iH htm
 have Hhop := iH hop
 have Hhopl := iH hopl
 have Hhta := iH hta
 clear htn htm hop hopl hta
 obtain ⟨W2, hW2⟩ : ∃ W2, W2 = (w.alloc (.cells #[.int .u8 2, .int .i64 tx, .int .i64 nx, .int .i64 id1, vo, ve, .int .i64 tn, .int .i64 tm, .slice ia op.length ic1, .int .i64 ta, .string nm, .int .i64 n, .int .i64 at1] 35)).alloc (.cells #[.int .u8 2] 5) := ⟨_, rfl⟩
 have kb : Kept w W2 [] := by rw [hW2]; exact ((Kept.refl w []).alloc _).alloc _
 have b2 : W2.heap[w.heap.size]? = some (.cells #[.int .u8 2, .int .i64 tx, .int .i64 nx, .int .i64 id1, vo, ve, .int .i64 tn, .int .i64 tm, .slice ia op.length ic1, .int .i64 ta, .string nm, .int .i64 n, .int .i64 at1] 35 (0, 0)) := by rw [hW2]; exact ((Kept.refl _ []).alloc _).heap (by simp) (heap_alloc_new w _)
 have r2 : Rd W2 (.slice (some ⟨w.heap.size + 1, 0, none⟩) 1 1) [2] := by
  have := xq1 (w.alloc (.cells #[.int .u8 2, .int .i64 tx, .int .i64 nx, .int .i64 id1, vo, ve, .int .i64 tn, .int .i64 tm, .slice ia op.length ic1, .int .i64 ta, .string nm, .int .i64 n, .int .i64 at1] 35)) [2] #[.int .u8 2] 5 1 rfl rfl
  rw [hW2]; simpa using this
 have RN := iH (fun V (hV : Kept W2 V []) => (rd.keep kb).keep hV)
 have KB := iH kb; have B2 := iH b2
 have KA := iH (Kept.refl W2 [])
 have R0 := iH r2
 clear kb b2 r2 rd
 go_enter Try.func17, Try.ntmps17
 go_upto_region 12 with fail
 rw [<- hW2]
 clear hW2
 refine wp_region_held_drew (S := fun Z => Kept W2 Z []) (by kernel_rfl) KA.out.drew (fun hJ => ?_)
 refine wx 0 44 (.slice (some ⟨w.heap.size + 1, 0, none⟩) 1 1) rfl hJ ?_
 refine wx 1 45 (.pointer (some ⟨w.heap.size, 6, none⟩)) rfl hJ ?_
 refine wx 2 46 (.pointer (some ⟨w.heap.size, 6, none⟩)) rfl hJ ?_
 refine wx 3 47 (.int .i64 tn) rfl hJ ?_ (hy := fun V hV => by (have hh := hV.heap (by simp) B2.out; have q6 := cell_of_row V _ 6 _ _ _ hh; have q7 := cell_of_row V _ 7 _ _ _ hh; have q8 := cell_of_row V _ 8 _ _ _ hh; clear hV hh; simp only [List.getElem?_toArray, List.getElem?_cons_zero, List.getElem?_cons_succ] at q6 q7 q8; go_simp))
 refine wx 5 49 (.pointer (some ⟨w.heap.size, 6, none⟩)) rfl hJ ?_
 refine wx 6 50 (.pointer (some ⟨w.heap.size, 7, none⟩)) rfl hJ ?_
 refine wx 7 51 (.pointer (some ⟨w.heap.size, 7, none⟩)) rfl hJ ?_
 refine wx 8 52 (.int .i64 tm) rfl hJ ?_ (hy := fun V hV => by (have hh := hV.heap (by simp) B2.out; have q6 := cell_of_row V _ 6 _ _ _ hh; have q7 := cell_of_row V _ 7 _ _ _ hh; have q8 := cell_of_row V _ 8 _ _ _ hh; clear hV hh; simp only [List.getElem?_toArray, List.getElem?_cons_zero, List.getElem?_cons_succ] at q6 q7 q8; go_simp))
 refine wx 10 54 (.pointer (some ⟨w.heap.size, 6, none⟩)) rfl hJ ?_
 refine wx 11 55 (.pointer (some ⟨w.heap.size, 7, none⟩)) rfl hJ ?_
 refine wx 12 56 (.pointer (some ⟨w.heap.size, 8, none⟩)) rfl hJ ?_
 refine wx 13 57 (.slice ia op.length ic1) rfl hJ ?_ (hy := fun V hV => by (have hh := hV.heap (by simp) B2.out; have q6 := cell_of_row V _ 6 _ _ _ hh; have q7 := cell_of_row V _ 7 _ _ _ hh; have q8 := cell_of_row V _ 8 _ _ _ hh; clear hV hh; simp only [List.getElem?_toArray, List.getElem?_cons_zero, List.getElem?_cons_succ] at q6 q7 q8; go_simp))
 refine wx 14 58 (.int .i64 op.length) rfl hJ ?_
 refine wr1 4 rfl (fun KZ hK => ?_)
 go_simp
 go_at_call 39
 refine (xqh W2 _ _ _ tn KA.out.drew (R0.out.kept (Kept.refl _ []).drew (by simp)) (by have := HL0.out; omega) Hhtn.out).mono ?_
 rintro en w3 ⟨v3, rfl, r3, k3, _⟩
 obtain ⟨a3, n3, c3, e3⟩ := r3.shape3
 subst e3
 go_wp2_with fail
 refine hK.out _ _ k3 (fun hJ => ?_)
 clear hK KZ
 refine wr1 9 rfl (fun KZ hK => ?_)
 go_simp
 go_at_call 39
 refine (xqh W2 _ _ _ tm k3 r3.rd (by have := HL1.out; omega) Hhtm.out).mono ?_
 rintro en w4 ⟨v4, rfl, r4, k4, _⟩
 obtain ⟨a4, n4, c4, e4⟩ := r4.shape3
 subst e4
 clear r3 k3
 go_wp2_with fail
 refine hK.out _ _ k4 (fun hJ => ?_)
 clear hK KZ
 refine wr1 15 rfl (fun KZ hK => ?_)
 go_simp
 go_at_call 39
 refine (xqh W2 _ _ _ (op.length : Int) k4 r4.rd (by have := HL2.out; omega) ⟨by omega, by have := Hhopl.out; omega⟩).mono ?_
 rintro en w5 ⟨v5, rfl, r5, k5, _⟩
 obtain ⟨a5, n5, c5, e5⟩ := r5.shape3
 subst e5
 clear r4 k4
 simp only [xqb, Int.toNat_natCast] at r5
 go_wp2_with fail
 refine hK.out _ _ k5 (fun hJ => ?_)
 clear hK KZ
 refine wx 16 3 (.slice a5 n5 c5) rfl hJ ?_
 refine wd ?_
 have R3 := iH r5; have K3 := iH k5
 clear hJ r5 k5
 go_wp2
 go_loopw [3, 4] (fun s3 s4 wr => ∃ (k : Nat) (a : Option Addr) (n c : Nat), s3 = .slice a n c /\ s4 = .int .i64 k /\ k <= op.length /\ Own wr W2.heap.size 5 (.slice a n c) (([2] : List UInt8) ++ xqb tn ++ xqb tm ++ numL op.length ++ xqf xqb (op.take k)) /\ Kept W2 wr []) (fun _ s4 _ => op.length - (intOf s4).toNat)
 case atStart => exact ⟨0, _, _, _, rfl, rfl, Nat.zero_le _, by simpa [xqf, xqb] using R3.out, K3.out⟩
 case round =>
  obtain ⟨k, pa, pn, pc, rfl, rfl, hk, ho, hkw⟩ := hrel
  have O := iH ho; have K := iH hkw
  have hLk : (([2] : List UInt8) ++ xqb tn ++ xqb tm ++ numL op.length ++ xqf xqb (op.take k)).length <= 2000000 := by
   have h1 := xqA xqb 10 (op.take k) (fun y hy => xqe (Hhop.out y (List.mem_of_mem_take hy)))
   have h2 := HL3.out; have h3 := Hhopl.out
   rw [List.length_take] at h1
   rw [List.length_append]; omega
  have HLk := iH hLk
  clear ho hkw hLk
  have hh := K.out.heap (by simp) B2.out
  have c8 := cell_of_row wr _ 8 _ _ _ hh
  simp only [List.getElem?_toArray, List.getElem?_cons_zero, List.getElem?_cons_succ] at c8
  clear hh
  by_cases hlt : k < op.length
  ·have RI := (RN.out wr K.out).ri
   obtain ⟨_, _, e, _, _, _, hla⟩ := RI
   simp only [Value.slice.injEq, true_and] at e
   obtain ⟨rfl, rfl⟩ := e
   obtain ⟨ib, io, rfl, hcell⟩ := hla (by rintro rfl; simp at hlt)
   have q1 := hcell k hlt
   obtain ⟨x, hx⟩ : ∃ x, op[k]? = some x := ⟨_, List.getElem?_eq_getElem hlt⟩
   have hx2 : op.getD k 0 = x := by simp [List.getD, hx]
   rw [hx2] at q1
   have HM : RowKit.Hid (xqf xqb (op.take (k + 1)) = xqf xqb (op.take k) ++ xqb x) := iH (xqY _ _ hx)
   have HX := iH (Hhop.out x (List.mem_iff_getElem?.2 ⟨k, hx⟩))
   have x1 : (k : Int) < (op.length : Int) := by omega
   clear hcell hla hx hx2
   go_wp2_with fail
   refine (xqh W2 _ _ _ x K.out O.out.rd (by have := HLk.out; omega) HX.out).mono ?_
   clear c8 q1
   rintro en w6 ⟨v6, rfl, r6, k6, _⟩
   obtain ⟨a6, n6, c6, e6⟩ := r6.shape3
   subst e6
   have R6 := iH r6; have K6 := iH k6
   clear r6 k6
   have hb := Hhopl.out
   go_wp2
   go_roundw
   case rel =>
    refine ⟨k + 1, _, _, _, rfl, by go_num, by omega, ?_, K6.out⟩
    rw [HM.out, <- List.append_assoc]
    exact R6.out
   case measure => simp [intOf]; omega
  have x1 : ¬ (k : Int) < (op.length : Int) := by omega
  have ek : op.take k = op := List.take_of_length_le (by omega)
  rw [ek] at O HLk
  clear ek c8
  have HL4b := HLk
  have hh := K.out.heap (by simp) B2.out
  have c0 := cell_of_row wr _ 0 _ _ _ hh
  have c8 := cell_of_row wr _ 8 _ _ _ hh
  have c9 := cell_of_row wr _ 9 _ _ _ hh
  simp only [List.getElem?_toArray, List.getElem?_cons_zero, List.getElem?_cons_succ] at c0 c8 c9
  clear hh
  go_wp2_with fail
  refine (res_int W2 _ ta K.out Hhta.out).mono ?_
  clear c0 c8 c9
  rintro en w9 ⟨v9, rfl, r9, k9, t9⟩
  obtain ⟨a9, n9, c9, e9⟩ := r9.shape3
  subst e9
  have j9 := t9 _ _ O.out.rd
  have hi := xqT Hhta.out
  go_wp2_with fail
  refine (xqK W2 _ _ _ _ _ k9 j9 r9.rd (by have := HLk.out; omega) (by omega)).mono ?_
  clear r9 k9 t9 j9 hi
  rintro en w7x ⟨v7, rfl, r7, k7, t7⟩
  obtain ⟨a7z, n7z, c7z, e7z⟩ := r7.shape3
  subst e7z
  have R7 := iH r7; have K7 := iH k7
  clear r7 k7 t7
  have hh := K7.out.heap (by simp) B2.out
  have c0 := cell_of_row w7x _ 0 _ _ _ hh
  simp only [List.getElem?_toArray, List.getElem?_cons_zero] at c0
  clear hh
  go_wp2
  go_ret
  exact ⟨_, rfl, R7.out.mono KB.out.size, KB.out.trans K7.out (by simp)⟩
theorem rencode16_any (e : En) (vo ve vi : Value) (w : World) (hr : e.Right) (hd : RdN w e vo ve vi) :
  Calls Try.prog 17 #[.agg (e.cs vo ve vi)] w fun en w' => ∃ v', en = .returned v' /\ Own w' w.heap.size 5 v' e.encL /\ Kept w w' [] := by
 obtain ⟨ia, ic1, hvi, _⟩ := id hd.ri
 subst hvi
 have hk := hr.k
 obtain ⟨k, tx, nx, id1, ops, evs, tn, tm, op, ta, nm, n, at1⟩ := e
 have h0 : k = 1 ∨ k = 2 ∨ k = 3 ∨ k = 4 ∨ k = 5 ∨ k = 6 ∨ k = 7 ∨ k = 8 ∨ k = 9 ∨ k = 10 ∨ k = 11 := by dsimp only at hk; omega
 rcases h0 with rfl | rfl | rfl | rfl | rfl | rfl | rfl | rfl | rfl | rfl | rfl
 ·have h := renc1 tx nx id1 ops evs tn tm op ta nm n at1 vo ve ia ic1 w hd hr.tx hr.nx hr.id hr.ops (by have := hr.nops; dsimp only at this; omega) hr.evs (by have := hr.nevs; dsimp only at this; omega)
  have he : En.encL (⟨1, tx, nx, id1, ops, evs, tn, tm, op, ta, nm, n, at1⟩ : En) = ([1] : List UInt8) ++ xqb tx ++ xqb nx ++ xqb id1 ++ opsL ops ++ evsL evs := by
   have hb : En.body (⟨1, tx, nx, id1, ops, evs, tn, tm, op, ta, nm, n, at1⟩ : En) = En.b1 (⟨1, tx, nx, id1, ops, evs, tn, tm, op, ta, nm, n, at1⟩ : En) := by simp [En.body]
   rw [En.encL, hb]
   simp [En.b1]
  rw [he]
  exact h
 ·have h := renc2 tx nx id1 ops evs tn tm op ta nm n at1 vo ve ia ic1 w hd hr.tn hr.tm hr.op (by have := hr.nop; dsimp only at this; omega) hr.ta
  have he : En.encL (⟨2, tx, nx, id1, ops, evs, tn, tm, op, ta, nm, n, at1⟩ : En) = ([2] : List UInt8) ++ xqb tn ++ xqb tm ++ numL op.length ++ xqf xqb op ++ intL ta := by
   have hb : En.body (⟨2, tx, nx, id1, ops, evs, tn, tm, op, ta, nm, n, at1⟩ : En) = En.b2 (⟨2, tx, nx, id1, ops, evs, tn, tm, op, ta, nm, n, at1⟩ : En) := by simp [En.body]
   rw [En.encL, hb]
   simp [En.b2, openL]
  rw [he]
  exact h
 ·have h := renc3 tx nx id1 ops evs tn tm op ta nm n at1 vo ve ia ic1 w hd hr.nm hr.n
  have he : En.encL (⟨3, tx, nx, id1, ops, evs, tn, tm, op, ta, nm, n, at1⟩ : En) = ([3] : List UInt8) ++ xqr nm.data.toList ++ xqb n := by
   have hb : En.body (⟨3, tx, nx, id1, ops, evs, tn, tm, op, ta, nm, n, at1⟩ : En) = En.b3 (⟨3, tx, nx, id1, ops, evs, tn, tm, op, ta, nm, n, at1⟩ : En) := by simp [En.body]
   rw [En.encL, hb]
   simp [En.b3]
  rw [he]
  exact h
 ·have h := renc4 tx nx id1 ops evs tn tm op ta nm n at1 vo ve ia ic1 w hd hr.nm hr.n
  have he : En.encL (⟨4, tx, nx, id1, ops, evs, tn, tm, op, ta, nm, n, at1⟩ : En) = ([4] : List UInt8) ++ xqr nm.data.toList ++ xqb n := by
   have hb : En.body (⟨4, tx, nx, id1, ops, evs, tn, tm, op, ta, nm, n, at1⟩ : En) = En.b3 (⟨4, tx, nx, id1, ops, evs, tn, tm, op, ta, nm, n, at1⟩ : En) := by simp [En.body]
   rw [En.encL, hb]
   simp [En.b3]
  rw [he]
  exact h
 ·have h := renc5 tx nx id1 ops evs tn tm op ta nm n at1 vo ve ia ic1 w hd hr.nm hr.n
  have he : En.encL (⟨5, tx, nx, id1, ops, evs, tn, tm, op, ta, nm, n, at1⟩ : En) = ([5] : List UInt8) ++ xqr nm.data.toList ++ xqb n := by
   have hb : En.body (⟨5, tx, nx, id1, ops, evs, tn, tm, op, ta, nm, n, at1⟩ : En) = En.b3 (⟨5, tx, nx, id1, ops, evs, tn, tm, op, ta, nm, n, at1⟩ : En) := by simp [En.body]
   rw [En.encL, hb]
   simp [En.b3]
  rw [he]
  exact h
 ·have h := renc6 tx nx id1 ops evs tn tm op ta nm n at1 vo ve ia ic1 w hd hr.nm hr.n
  have he : En.encL (⟨6, tx, nx, id1, ops, evs, tn, tm, op, ta, nm, n, at1⟩ : En) = ([6] : List UInt8) ++ xqr nm.data.toList ++ xqb n := by
   have hb : En.body (⟨6, tx, nx, id1, ops, evs, tn, tm, op, ta, nm, n, at1⟩ : En) = En.b3 (⟨6, tx, nx, id1, ops, evs, tn, tm, op, ta, nm, n, at1⟩ : En) := by simp [En.body]
   rw [En.encL, hb]
   simp [En.b3]
  rw [he]
  exact h
 ·have h := renc7 tx nx id1 ops evs tn tm op ta nm n at1 vo ve ia ic1 w hd hr.nm hr.n hr.at'
  have he : En.encL (⟨7, tx, nx, id1, ops, evs, tn, tm, op, ta, nm, n, at1⟩ : En) = ([7] : List UInt8) ++ xqr nm.data.toList ++ xqb n ++ intL at1 := by
   have hb : En.body (⟨7, tx, nx, id1, ops, evs, tn, tm, op, ta, nm, n, at1⟩ : En) = En.b7 (⟨7, tx, nx, id1, ops, evs, tn, tm, op, ta, nm, n, at1⟩ : En) := by simp [En.body]
   rw [En.encL, hb]
   simp [En.b7]
  rw [he]
  exact h
 ·have h := renc8 tx nx id1 ops evs tn tm op ta nm n at1 vo ve ia ic1 w hd hr.tx hr.nx hr.id hr.evs (by have := hr.nevs; dsimp only at this; omega) hr.at'
  have he : En.encL (⟨8, tx, nx, id1, ops, evs, tn, tm, op, ta, nm, n, at1⟩ : En) = ([8] : List UInt8) ++ xqb tx ++ xqb nx ++ xqb id1 ++ evsL evs ++ intL at1 := by
   have hb : En.body (⟨8, tx, nx, id1, ops, evs, tn, tm, op, ta, nm, n, at1⟩ : En) = En.b8 (⟨8, tx, nx, id1, ops, evs, tn, tm, op, ta, nm, n, at1⟩ : En) := by simp [En.body]
   rw [En.encL, hb]
   simp [En.b8]
  rw [he]
  exact h
 ·have h := renc9 tx nx id1 ops evs tn tm op ta nm n at1 vo ve ia ic1 w hd hr.n
  have he : En.encL (⟨9, tx, nx, id1, ops, evs, tn, tm, op, ta, nm, n, at1⟩ : En) = ([9] : List UInt8) ++ xqb n := by
   have hb : En.body (⟨9, tx, nx, id1, ops, evs, tn, tm, op, ta, nm, n, at1⟩ : En) = En.b9 (⟨9, tx, nx, id1, ops, evs, tn, tm, op, ta, nm, n, at1⟩ : En) := by simp [En.body]
   rw [En.encL, hb]
   simp [En.b9]
  rw [he]
  exact h
 ·have h := renc10 tx nx id1 ops evs tn tm op ta nm n at1 vo ve ia ic1 w hd hr.n
  have he : En.encL (⟨10, tx, nx, id1, ops, evs, tn, tm, op, ta, nm, n, at1⟩ : En) = ([10] : List UInt8) ++ xqb n := by
   have hb : En.body (⟨10, tx, nx, id1, ops, evs, tn, tm, op, ta, nm, n, at1⟩ : En) = En.b9 (⟨10, tx, nx, id1, ops, evs, tn, tm, op, ta, nm, n, at1⟩ : En) := by simp [En.body]
   rw [En.encL, hb]
   simp [En.b9]
  rw [he]
  exact h
 ·have h := renc11 tx nx id1 ops evs tn tm op ta nm n at1 vo ve ia ic1 w hd hr.n hr.ops (by have := hr.nops; dsimp only at this; omega)
  have he : En.encL (⟨11, tx, nx, id1, ops, evs, tn, tm, op, ta, nm, n, at1⟩ : En) = ([11] : List UInt8) ++ xqb n ++ opsL ops := by
   have hb : En.body (⟨11, tx, nx, id1, ops, evs, tn, tm, op, ta, nm, n, at1⟩ : En) = En.b11 (⟨11, tx, nx, id1, ops, evs, tn, tm, op, ta, nm, n, at1⟩ : En) := by simp [En.body]
   rw [En.encL, hb]
   simp [En.b11]
  rw [he]
  exact h
end Go.Proofs.Ytjdbmlifekghfaa
