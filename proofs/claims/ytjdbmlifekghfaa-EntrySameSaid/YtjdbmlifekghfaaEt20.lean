/-
  Erf, Erg in one text.
-/
import Derived.Test.YtjdbmlifekghfaaEt0
import Derived.Test.YtjdbmlifekghfaaEt19
set_option linter.unusedVariables false
set_option maxHeartbeats 16000000
set_option maxRecDepth 100000
namespace Go.Proofs.Ytjdbmlifekghfaa
open Go.RowKit
theorem renc3 (tx nx id1 : Int) (ops : List Ox) (evs : List Px) (tn tm : Int) (op : List Int) (ta : Int) (nm : ByteArray) (n at1 : Int) (vo ve : Value) (ia : Option Addr) (ic1 : Nat) (w : World) (rd : RdN w (⟨3, tx, nx, id1, ops, evs, tn, tm, op, ta, nm, n, at1⟩ : En) vo ve (.slice ia op.length ic1)) (hnm : nm.size <= 40) (hn : whole n) :
  Calls Try.prog 17 #[.agg #[.int .u8 3, .int .i64 tx, .int .i64 nx, .int .i64 id1, vo, ve, .int .i64 tn, .int .i64 tm, .slice ia op.length ic1, .int .i64 ta, .string nm, .int .i64 n, .int .i64 at1]] w fun en w' => ∃ v', en = .returned v' /\ Own w' w.heap.size 5 v' (([3] : List UInt8) ++ xqr nm.data.toList ++ xqb n) /\ Kept w w' [] := by
 have l0 := xqz hnm
 have l1 := xqe hn
 have HL0 : RowKit.Hid ((([3] : List UInt8)).length <= 1000000) := iH (by decide)
 have HL1 : RowKit.Hid ((([3] : List UInt8) ++ xqr nm.data.toList).length <= 1000000) := iH (by simp only [List.length_append, List.length_singleton]; omega)
 have HL2 : RowKit.Hid ((([3] : List UInt8) ++ xqr nm.data.toList ++ xqb n).length <= 1000000) := iH (by simp only [List.length_append, List.length_singleton]; omega)
 clear l0 l1
 have Hhnm := iH hnm
 have Hhn := iH hn
 clear hnm hn
 obtain ⟨W2, hW2⟩ : ∃ W2, W2 = (w.alloc (.cells #[.int .u8 3, .int .i64 tx, .int .i64 nx, .int .i64 id1, vo, ve, .int .i64 tn, .int .i64 tm, .slice ia op.length ic1, .int .i64 ta, .string nm, .int .i64 n, .int .i64 at1] 35)).alloc (.cells #[.int .u8 3] 5) := ⟨_, rfl⟩
 have kb : Kept w W2 [] := by rw [hW2]; exact ((Kept.refl w []).alloc _).alloc _
 have b2 : W2.heap[w.heap.size]? = some (.cells #[.int .u8 3, .int .i64 tx, .int .i64 nx, .int .i64 id1, vo, ve, .int .i64 tn, .int .i64 tm, .slice ia op.length ic1, .int .i64 ta, .string nm, .int .i64 n, .int .i64 at1] 35 (0, 0)) := by rw [hW2]; exact ((Kept.refl _ []).alloc _).heap (by simp) (heap_alloc_new w _)
 have r2 : Rd W2 (.slice (some ⟨w.heap.size + 1, 0, none⟩) 1 1) [3] := by
  have := xq1 (w.alloc (.cells #[.int .u8 3, .int .i64 tx, .int .i64 nx, .int .i64 id1, vo, ve, .int .i64 tn, .int .i64 tm, .slice ia op.length ic1, .int .i64 ta, .string nm, .int .i64 n, .int .i64 at1] 35)) [3] #[.int .u8 3] 5 1 rfl rfl
  rw [hW2]; simpa using this
 have RN := iH (fun V (hV : Kept W2 V []) => (rd.keep kb).keep hV)
 have KB := iH kb; have B2 := iH b2
 have KA := iH (Kept.refl W2 [])
 have R0 := iH r2
 clear kb b2 r2 rd
 go_enter Try.func17, Try.ntmps17
 go_upto_region 23 with fail
 rw [<- hW2]
 clear hW2
 refine wp_region_held_drew (S := fun Z => Kept W2 Z []) (by kernel_rfl) KA.out.drew (fun hJ => ?_)
 refine wx 0 90 (.slice (some ⟨w.heap.size + 1, 0, none⟩) 1 1) rfl hJ ?_
 refine wx 1 91 (.pointer (some ⟨w.heap.size, 10, none⟩)) rfl hJ ?_
 refine wx 2 92 (.string nm) rfl hJ ?_ (hy := fun V hV => by (have hh := hV.heap (by simp) B2.out; have q10 := cell_of_row V _ 10 _ _ _ hh; have q11 := cell_of_row V _ 11 _ _ _ hh; clear hV hh; simp only [List.getElem?_toArray, List.getElem?_cons_zero, List.getElem?_cons_succ] at q10 q11; go_simp))
 refine wx 5 95 (.pointer (some ⟨w.heap.size, 11, none⟩)) rfl hJ ?_
 refine wx 6 96 (.int .i64 n) rfl hJ ?_ (hy := fun V hV => by (have hh := hV.heap (by simp) B2.out; have q10 := cell_of_row V _ 10 _ _ _ hh; have q11 := cell_of_row V _ 11 _ _ _ hh; clear hV hh; simp only [List.getElem?_toArray, List.getElem?_cons_zero, List.getElem?_cons_succ] at q10 q11; go_simp))
 refine wr1 3 rfl (fun KZ hK => ?_)
 go_simp
 go_at_call 43
 refine (xqW W2 _ nm KA.out.drew (by have := Hhnm.out; omega)).mono ?_
 rintro en w3 ⟨v3, rfl, r3, k3, t3⟩
 obtain ⟨a3, n3, c3, e3⟩ := r3.shape3
 subst e3
 have j3 := t3 _ _ (R0.out.kept (Kept.refl _ []).drew (by simp))
 go_wp2_with fail
 refine hK.out _ _ k3 (fun hJ => ?_)
 clear hK KZ
 refine wr1 4 rfl (fun KZ hK => ?_)
 go_simp
 go_at_call 22
 refine (xqK W2 _ _ _ _ _ k3 j3 r3.rd (by have := HL0.out; omega) (by have := xqz Hhnm.out; omega)).mono ?_
 rintro en w4 ⟨v4, rfl, r4, k4, _⟩
 obtain ⟨a4, n4, c4, e4⟩ := r4.shape3
 subst e4
 clear r3 k3 t3 j3
 go_wp2_with fail
 refine hK.out _ _ k4 (fun hJ => ?_)
 clear hK KZ
 refine wr1 7 rfl (fun KZ hK => ?_)
 go_simp
 go_at_call 39
 refine (xqh W2 _ _ _ n k4 r4.rd (by have := HL1.out; omega) Hhn.out).mono ?_
 rintro en w5 ⟨v5, rfl, r5, k5, _⟩
 obtain ⟨a5, n5, c5, e5⟩ := r5.shape3
 subst e5
 clear r4 k4
 go_wp2_with fail
 refine hK.out _ _ k5 (fun hJ => ?_)
 clear hK KZ
 refine wx 8 3 (.slice a5 n5 c5) rfl hJ ?_
 refine wd ?_
 have R2 := iH r5; have K3 := iH k5; have R3 := R2
 clear hJ r5 k5
 have hh := K3.out.heap (by simp) B2.out
 have c0 := cell_of_row w5 _ 0 _ _ _ hh
 simp only [List.getElem?_toArray, List.getElem?_cons_zero] at c0
 clear hh
 go_wp2
 go_ret
 exact ⟨_, rfl, R3.out.mono KB.out.size, KB.out.trans K3.out (by simp)⟩
theorem renc4 (tx nx id1 : Int) (ops : List Ox) (evs : List Px) (tn tm : Int) (op : List Int) (ta : Int) (nm : ByteArray) (n at1 : Int) (vo ve : Value) (ia : Option Addr) (ic1 : Nat) (w : World) (rd : RdN w (⟨4, tx, nx, id1, ops, evs, tn, tm, op, ta, nm, n, at1⟩ : En) vo ve (.slice ia op.length ic1)) (hnm : nm.size <= 40) (hn : whole n) :
  Calls Try.prog 17 #[.agg #[.int .u8 4, .int .i64 tx, .int .i64 nx, .int .i64 id1, vo, ve, .int .i64 tn, .int .i64 tm, .slice ia op.length ic1, .int .i64 ta, .string nm, .int .i64 n, .int .i64 at1]] w fun en w' => ∃ v', en = .returned v' /\ Own w' w.heap.size 5 v' (([4] : List UInt8) ++ xqr nm.data.toList ++ xqb n) /\ Kept w w' [] := by
 have l0 := xqz hnm
 have l1 := xqe hn
 have HL0 : RowKit.Hid ((([4] : List UInt8)).length <= 1000000) := iH (by decide)
 have HL1 : RowKit.Hid ((([4] : List UInt8) ++ xqr nm.data.toList).length <= 1000000) := iH (by simp only [List.length_append, List.length_singleton]; omega)
 have HL2 : RowKit.Hid ((([4] : List UInt8) ++ xqr nm.data.toList ++ xqb n).length <= 1000000) := iH (by simp only [List.length_append, List.length_singleton]; omega)
 clear l0 l1
 have Hhnm := iH hnm
 have Hhn := iH hn
 clear hnm hn
 obtain ⟨W2, hW2⟩ : ∃ W2, W2 = (w.alloc (.cells #[.int .u8 4, .int .i64 tx, .int .i64 nx, .int .i64 id1, vo, ve, .int .i64 tn, .int .i64 tm, .slice ia op.length ic1, .int .i64 ta, .string nm, .int .i64 n, .int .i64 at1] 35)).alloc (.cells #[.int .u8 4] 5) := ⟨_, rfl⟩
 have kb : Kept w W2 [] := by rw [hW2]; exact ((Kept.refl w []).alloc _).alloc _
 have b2 : W2.heap[w.heap.size]? = some (.cells #[.int .u8 4, .int .i64 tx, .int .i64 nx, .int .i64 id1, vo, ve, .int .i64 tn, .int .i64 tm, .slice ia op.length ic1, .int .i64 ta, .string nm, .int .i64 n, .int .i64 at1] 35 (0, 0)) := by rw [hW2]; exact ((Kept.refl _ []).alloc _).heap (by simp) (heap_alloc_new w _)
 have r2 : Rd W2 (.slice (some ⟨w.heap.size + 1, 0, none⟩) 1 1) [4] := by
  have := xq1 (w.alloc (.cells #[.int .u8 4, .int .i64 tx, .int .i64 nx, .int .i64 id1, vo, ve, .int .i64 tn, .int .i64 tm, .slice ia op.length ic1, .int .i64 ta, .string nm, .int .i64 n, .int .i64 at1] 35)) [4] #[.int .u8 4] 5 1 rfl rfl
  rw [hW2]; simpa using this
 have RN := iH (fun V (hV : Kept W2 V []) => (rd.keep kb).keep hV)
 have KB := iH kb; have B2 := iH b2
 have KA := iH (Kept.refl W2 [])
 have R0 := iH r2
 clear kb b2 r2 rd
 go_enter Try.func17, Try.ntmps17
 go_upto_region 23 with fail
 rw [<- hW2]
 clear hW2
 refine wp_region_held_drew (S := fun Z => Kept W2 Z []) (by kernel_rfl) KA.out.drew (fun hJ => ?_)
 refine wx 0 90 (.slice (some ⟨w.heap.size + 1, 0, none⟩) 1 1) rfl hJ ?_
 refine wx 1 91 (.pointer (some ⟨w.heap.size, 10, none⟩)) rfl hJ ?_
 refine wx 2 92 (.string nm) rfl hJ ?_ (hy := fun V hV => by (have hh := hV.heap (by simp) B2.out; have q10 := cell_of_row V _ 10 _ _ _ hh; have q11 := cell_of_row V _ 11 _ _ _ hh; clear hV hh; simp only [List.getElem?_toArray, List.getElem?_cons_zero, List.getElem?_cons_succ] at q10 q11; go_simp))
 refine wx 5 95 (.pointer (some ⟨w.heap.size, 11, none⟩)) rfl hJ ?_
 refine wx 6 96 (.int .i64 n) rfl hJ ?_ (hy := fun V hV => by (have hh := hV.heap (by simp) B2.out; have q10 := cell_of_row V _ 10 _ _ _ hh; have q11 := cell_of_row V _ 11 _ _ _ hh; clear hV hh; simp only [List.getElem?_toArray, List.getElem?_cons_zero, List.getElem?_cons_succ] at q10 q11; go_simp))
 refine wr1 3 rfl (fun KZ hK => ?_)
 go_simp
 go_at_call 43
 refine (xqW W2 _ nm KA.out.drew (by have := Hhnm.out; omega)).mono ?_
 rintro en w3 ⟨v3, rfl, r3, k3, t3⟩
 obtain ⟨a3, n3, c3, e3⟩ := r3.shape3
 subst e3
 have j3 := t3 _ _ (R0.out.kept (Kept.refl _ []).drew (by simp))
 go_wp2_with fail
 refine hK.out _ _ k3 (fun hJ => ?_)
 clear hK KZ
 refine wr1 4 rfl (fun KZ hK => ?_)
 go_simp
 go_at_call 22
 refine (xqK W2 _ _ _ _ _ k3 j3 r3.rd (by have := HL0.out; omega) (by have := xqz Hhnm.out; omega)).mono ?_
 rintro en w4 ⟨v4, rfl, r4, k4, _⟩
 obtain ⟨a4, n4, c4, e4⟩ := r4.shape3
 subst e4
 clear r3 k3 t3 j3
 go_wp2_with fail
 refine hK.out _ _ k4 (fun hJ => ?_)
 clear hK KZ
 refine wr1 7 rfl (fun KZ hK => ?_)
 go_simp
 go_at_call 39
 refine (xqh W2 _ _ _ n k4 r4.rd (by have := HL1.out; omega) Hhn.out).mono ?_
 rintro en w5 ⟨v5, rfl, r5, k5, _⟩
 obtain ⟨a5, n5, c5, e5⟩ := r5.shape3
 subst e5
 clear r4 k4
 go_wp2_with fail
 refine hK.out _ _ k5 (fun hJ => ?_)
 clear hK KZ
 refine wx 8 3 (.slice a5 n5 c5) rfl hJ ?_
 refine wd ?_
 have R2 := iH r5; have K3 := iH k5; have R3 := R2
 clear hJ r5 k5
 have hh := K3.out.heap (by simp) B2.out
 have c0 := cell_of_row w5 _ 0 _ _ _ hh
 simp only [List.getElem?_toArray, List.getElem?_cons_zero] at c0
 clear hh
 go_wp2
 go_ret
 exact ⟨_, rfl, R3.out.mono KB.out.size, KB.out.trans K3.out (by simp)⟩
theorem renc5 (tx nx id1 : Int) (ops : List Ox) (evs : List Px) (tn tm : Int) (op : List Int) (ta : Int) (nm : ByteArray) (n at1 : Int) (vo ve : Value) (ia : Option Addr) (ic1 : Nat) (w : World) (rd : RdN w (⟨5, tx, nx, id1, ops, evs, tn, tm, op, ta, nm, n, at1⟩ : En) vo ve (.slice ia op.length ic1)) (hnm : nm.size <= 40) (hn : whole n) :
  Calls Try.prog 17 #[.agg #[.int .u8 5, .int .i64 tx, .int .i64 nx, .int .i64 id1, vo, ve, .int .i64 tn, .int .i64 tm, .slice ia op.length ic1, .int .i64 ta, .string nm, .int .i64 n, .int .i64 at1]] w fun en w' => ∃ v', en = .returned v' /\ Own w' w.heap.size 5 v' (([5] : List UInt8) ++ xqr nm.data.toList ++ xqb n) /\ Kept w w' [] := by
 have l0 := xqz hnm
 have l1 := xqe hn
 have HL0 : RowKit.Hid ((([5] : List UInt8)).length <= 1000000) := iH (by decide)
 have HL1 : RowKit.Hid ((([5] : List UInt8) ++ xqr nm.data.toList).length <= 1000000) := iH (by simp only [List.length_append, List.length_singleton]; omega)
 have HL2 : RowKit.Hid ((([5] : List UInt8) ++ xqr nm.data.toList ++ xqb n).length <= 1000000) := iH (by simp only [List.length_append, List.length_singleton]; omega)
 clear l0 l1
 have Hhnm := iH hnm
 have Hhn := iH hn
 clear hnm hn
 obtain ⟨W2, hW2⟩ : ∃ W2, W2 = (w.alloc (.cells #[.int .u8 5, .int .i64 tx, .int .i64 nx, .int .i64 id1, vo, ve, .int .i64 tn, .int .i64 tm, .slice ia op.length ic1, .int .i64 ta, .string nm, .int .i64 n, .int .i64 at1] 35)).alloc (.cells #[.int .u8 5] 5) := ⟨_, rfl⟩
 have kb : Kept w W2 [] := by rw [hW2]; exact ((Kept.refl w []).alloc _).alloc _
 have b2 : W2.heap[w.heap.size]? = some (.cells #[.int .u8 5, .int .i64 tx, .int .i64 nx, .int .i64 id1, vo, ve, .int .i64 tn, .int .i64 tm, .slice ia op.length ic1, .int .i64 ta, .string nm, .int .i64 n, .int .i64 at1] 35 (0, 0)) := by rw [hW2]; exact ((Kept.refl _ []).alloc _).heap (by simp) (heap_alloc_new w _)
 have r2 : Rd W2 (.slice (some ⟨w.heap.size + 1, 0, none⟩) 1 1) [5] := by
  have := xq1 (w.alloc (.cells #[.int .u8 5, .int .i64 tx, .int .i64 nx, .int .i64 id1, vo, ve, .int .i64 tn, .int .i64 tm, .slice ia op.length ic1, .int .i64 ta, .string nm, .int .i64 n, .int .i64 at1] 35)) [5] #[.int .u8 5] 5 1 rfl rfl
  rw [hW2]; simpa using this
 have RN := iH (fun V (hV : Kept W2 V []) => (rd.keep kb).keep hV)
 have KB := iH kb; have B2 := iH b2
 have KA := iH (Kept.refl W2 [])
 have R0 := iH r2
 clear kb b2 r2 rd
 go_enter Try.func17, Try.ntmps17
 go_upto_region 23 with fail
 rw [<- hW2]
 clear hW2
 refine wp_region_held_drew (S := fun Z => Kept W2 Z []) (by kernel_rfl) KA.out.drew (fun hJ => ?_)
 refine wx 0 90 (.slice (some ⟨w.heap.size + 1, 0, none⟩) 1 1) rfl hJ ?_
 refine wx 1 91 (.pointer (some ⟨w.heap.size, 10, none⟩)) rfl hJ ?_
 refine wx 2 92 (.string nm) rfl hJ ?_ (hy := fun V hV => by (have hh := hV.heap (by simp) B2.out; have q10 := cell_of_row V _ 10 _ _ _ hh; have q11 := cell_of_row V _ 11 _ _ _ hh; clear hV hh; simp only [List.getElem?_toArray, List.getElem?_cons_zero, List.getElem?_cons_succ] at q10 q11; go_simp))
 refine wx 5 95 (.pointer (some ⟨w.heap.size, 11, none⟩)) rfl hJ ?_
 refine wx 6 96 (.int .i64 n) rfl hJ ?_ (hy := fun V hV => by (have hh := hV.heap (by simp) B2.out; have q10 := cell_of_row V _ 10 _ _ _ hh; have q11 := cell_of_row V _ 11 _ _ _ hh; clear hV hh; simp only [List.getElem?_toArray, List.getElem?_cons_zero, List.getElem?_cons_succ] at q10 q11; go_simp))
 refine wr1 3 rfl (fun KZ hK => ?_)
 go_simp
 go_at_call 43
 refine (xqW W2 _ nm KA.out.drew (by have := Hhnm.out; omega)).mono ?_
 rintro en w3 ⟨v3, rfl, r3, k3, t3⟩
 obtain ⟨a3, n3, c3, e3⟩ := r3.shape3
 subst e3
 have j3 := t3 _ _ (R0.out.kept (Kept.refl _ []).drew (by simp))
 go_wp2_with fail
 refine hK.out _ _ k3 (fun hJ => ?_)
 clear hK KZ
 refine wr1 4 rfl (fun KZ hK => ?_)
 go_simp
 go_at_call 22
 refine (xqK W2 _ _ _ _ _ k3 j3 r3.rd (by have := HL0.out; omega) (by have := xqz Hhnm.out; omega)).mono ?_
 rintro en w4 ⟨v4, rfl, r4, k4, _⟩
 obtain ⟨a4, n4, c4, e4⟩ := r4.shape3
 subst e4
 clear r3 k3 t3 j3
 go_wp2_with fail
 refine hK.out _ _ k4 (fun hJ => ?_)
 clear hK KZ
 refine wr1 7 rfl (fun KZ hK => ?_)
 go_simp
 go_at_call 39
 refine (xqh W2 _ _ _ n k4 r4.rd (by have := HL1.out; omega) Hhn.out).mono ?_
 rintro en w5 ⟨v5, rfl, r5, k5, _⟩
 obtain ⟨a5, n5, c5, e5⟩ := r5.shape3
 subst e5
 clear r4 k4
 go_wp2_with fail
 refine hK.out _ _ k5 (fun hJ => ?_)
 clear hK KZ
 refine wx 8 3 (.slice a5 n5 c5) rfl hJ ?_
 refine wd ?_
 have R2 := iH r5; have K3 := iH k5; have R3 := R2
 clear hJ r5 k5
 have hh := K3.out.heap (by simp) B2.out
 have c0 := cell_of_row w5 _ 0 _ _ _ hh
 simp only [List.getElem?_toArray, List.getElem?_cons_zero] at c0
 clear hh
 go_wp2
 go_ret
 exact ⟨_, rfl, R3.out.mono KB.out.size, KB.out.trans K3.out (by simp)⟩
theorem renc6 (tx nx id1 : Int) (ops : List Ox) (evs : List Px) (tn tm : Int) (op : List Int) (ta : Int) (nm : ByteArray) (n at1 : Int) (vo ve : Value) (ia : Option Addr) (ic1 : Nat) (w : World) (rd : RdN w (⟨6, tx, nx, id1, ops, evs, tn, tm, op, ta, nm, n, at1⟩ : En) vo ve (.slice ia op.length ic1)) (hnm : nm.size <= 40) (hn : whole n) :
  Calls Try.prog 17 #[.agg #[.int .u8 6, .int .i64 tx, .int .i64 nx, .int .i64 id1, vo, ve, .int .i64 tn, .int .i64 tm, .slice ia op.length ic1, .int .i64 ta, .string nm, .int .i64 n, .int .i64 at1]] w fun en w' => ∃ v', en = .returned v' /\ Own w' w.heap.size 5 v' (([6] : List UInt8) ++ xqr nm.data.toList ++ xqb n) /\ Kept w w' [] := by
 have l0 := xqz hnm
 have l1 := xqe hn
 have HL0 : RowKit.Hid ((([6] : List UInt8)).length <= 1000000) := iH (by decide)
 have HL1 : RowKit.Hid ((([6] : List UInt8) ++ xqr nm.data.toList).length <= 1000000) := iH (by simp only [List.length_append, List.length_singleton]; omega)
 have HL2 : RowKit.Hid ((([6] : List UInt8) ++ xqr nm.data.toList ++ xqb n).length <= 1000000) := iH (by simp only [List.length_append, List.length_singleton]; omega)
 clear l0 l1
 have Hhnm := iH hnm
 have Hhn := iH hn
 clear hnm hn
 obtain ⟨W2, hW2⟩ : ∃ W2, W2 = (w.alloc (.cells #[.int .u8 6, .int .i64 tx, .int .i64 nx, .int .i64 id1, vo, ve, .int .i64 tn, .int .i64 tm, .slice ia op.length ic1, .int .i64 ta, .string nm, .int .i64 n, .int .i64 at1] 35)).alloc (.cells #[.int .u8 6] 5) := ⟨_, rfl⟩
 have kb : Kept w W2 [] := by rw [hW2]; exact ((Kept.refl w []).alloc _).alloc _
 have b2 : W2.heap[w.heap.size]? = some (.cells #[.int .u8 6, .int .i64 tx, .int .i64 nx, .int .i64 id1, vo, ve, .int .i64 tn, .int .i64 tm, .slice ia op.length ic1, .int .i64 ta, .string nm, .int .i64 n, .int .i64 at1] 35 (0, 0)) := by rw [hW2]; exact ((Kept.refl _ []).alloc _).heap (by simp) (heap_alloc_new w _)
 have r2 : Rd W2 (.slice (some ⟨w.heap.size + 1, 0, none⟩) 1 1) [6] := by
  have := xq1 (w.alloc (.cells #[.int .u8 6, .int .i64 tx, .int .i64 nx, .int .i64 id1, vo, ve, .int .i64 tn, .int .i64 tm, .slice ia op.length ic1, .int .i64 ta, .string nm, .int .i64 n, .int .i64 at1] 35)) [6] #[.int .u8 6] 5 1 rfl rfl
  rw [hW2]; simpa using this
 have RN := iH (fun V (hV : Kept W2 V []) => (rd.keep kb).keep hV)
 have KB := iH kb; have B2 := iH b2
 have KA := iH (Kept.refl W2 [])
 have R0 := iH r2
 clear kb b2 r2 rd
 go_enter Try.func17, Try.ntmps17
 go_upto_region 23 with fail
 rw [<- hW2]
 clear hW2
 refine wp_region_held_drew (S := fun Z => Kept W2 Z []) (by kernel_rfl) KA.out.drew (fun hJ => ?_)
 refine wx 0 90 (.slice (some ⟨w.heap.size + 1, 0, none⟩) 1 1) rfl hJ ?_
 refine wx 1 91 (.pointer (some ⟨w.heap.size, 10, none⟩)) rfl hJ ?_
 refine wx 2 92 (.string nm) rfl hJ ?_ (hy := fun V hV => by (have hh := hV.heap (by simp) B2.out; have q10 := cell_of_row V _ 10 _ _ _ hh; have q11 := cell_of_row V _ 11 _ _ _ hh; clear hV hh; simp only [List.getElem?_toArray, List.getElem?_cons_zero, List.getElem?_cons_succ] at q10 q11; go_simp))
 refine wx 5 95 (.pointer (some ⟨w.heap.size, 11, none⟩)) rfl hJ ?_
 refine wx 6 96 (.int .i64 n) rfl hJ ?_ (hy := fun V hV => by (have hh := hV.heap (by simp) B2.out; have q10 := cell_of_row V _ 10 _ _ _ hh; have q11 := cell_of_row V _ 11 _ _ _ hh; clear hV hh; simp only [List.getElem?_toArray, List.getElem?_cons_zero, List.getElem?_cons_succ] at q10 q11; go_simp))
 refine wr1 3 rfl (fun KZ hK => ?_)
 go_simp
 go_at_call 43
 refine (xqW W2 _ nm KA.out.drew (by have := Hhnm.out; omega)).mono ?_
 rintro en w3 ⟨v3, rfl, r3, k3, t3⟩
 obtain ⟨a3, n3, c3, e3⟩ := r3.shape3
 subst e3
 have j3 := t3 _ _ (R0.out.kept (Kept.refl _ []).drew (by simp))
 go_wp2_with fail
 refine hK.out _ _ k3 (fun hJ => ?_)
 clear hK KZ
 refine wr1 4 rfl (fun KZ hK => ?_)
 go_simp
 go_at_call 22
 refine (xqK W2 _ _ _ _ _ k3 j3 r3.rd (by have := HL0.out; omega) (by have := xqz Hhnm.out; omega)).mono ?_
 rintro en w4 ⟨v4, rfl, r4, k4, _⟩
 obtain ⟨a4, n4, c4, e4⟩ := r4.shape3
 subst e4
 clear r3 k3 t3 j3
 go_wp2_with fail
 refine hK.out _ _ k4 (fun hJ => ?_)
 clear hK KZ
 refine wr1 7 rfl (fun KZ hK => ?_)
 go_simp
 go_at_call 39
 refine (xqh W2 _ _ _ n k4 r4.rd (by have := HL1.out; omega) Hhn.out).mono ?_
 rintro en w5 ⟨v5, rfl, r5, k5, _⟩
 obtain ⟨a5, n5, c5, e5⟩ := r5.shape3
 subst e5
 clear r4 k4
 go_wp2_with fail
 refine hK.out _ _ k5 (fun hJ => ?_)
 clear hK KZ
 refine wx 8 3 (.slice a5 n5 c5) rfl hJ ?_
 refine wd ?_
 have R2 := iH r5; have K3 := iH k5; have R3 := R2
 clear hJ r5 k5
 have hh := K3.out.heap (by simp) B2.out
 have c0 := cell_of_row w5 _ 0 _ _ _ hh
 simp only [List.getElem?_toArray, List.getElem?_cons_zero] at c0
 clear hh
 go_wp2
 go_ret
 exact ⟨_, rfl, R3.out.mono KB.out.size, KB.out.trans K3.out (by simp)⟩
theorem renc7 (tx nx id1 : Int) (ops : List Ox) (evs : List Px) (tn tm : Int) (op : List Int) (ta : Int) (nm : ByteArray) (n at1 : Int) (vo ve : Value) (ia : Option Addr) (ic1 : Nat) (w : World) (rd : RdN w (⟨7, tx, nx, id1, ops, evs, tn, tm, op, ta, nm, n, at1⟩ : En) vo ve (.slice ia op.length ic1)) (hnm : nm.size <= 40) (hn : whole n) (hat : -9223372036854775808 <= at1 /\ at1 <= 9223372036854775807) :
  Calls Try.prog 17 #[.agg #[.int .u8 7, .int .i64 tx, .int .i64 nx, .int .i64 id1, vo, ve, .int .i64 tn, .int .i64 tm, .slice ia op.length ic1, .int .i64 ta, .string nm, .int .i64 n, .int .i64 at1]] w fun en w' => ∃ v', en = .returned v' /\ Own w' w.heap.size 5 v' (([7] : List UInt8) ++ xqr nm.data.toList ++ xqb n ++ intL at1) /\ Kept w w' [] := by
 have l0 := xqz hnm
 have l1 := xqe hn
 have l2 := xqT hat
 have HL0 : RowKit.Hid ((([7] : List UInt8)).length <= 1000000) := iH (by decide)
 have HL1 : RowKit.Hid ((([7] : List UInt8) ++ xqr nm.data.toList).length <= 1000000) := iH (by simp only [List.length_append, List.length_singleton]; omega)
 have HL2 : RowKit.Hid ((([7] : List UInt8) ++ xqr nm.data.toList ++ xqb n).length <= 1000000) := iH (by simp only [List.length_append, List.length_singleton]; omega)
 have HL3 : RowKit.Hid ((([7] : List UInt8) ++ xqr nm.data.toList ++ xqb n ++ intL at1).length <= 1000000) := iH (by simp only [List.length_append, List.length_singleton]; omega)
 clear l0 l1 l2
 have Hhnm := iH hnm
 have Hhn := iH hn
 have Hhat := iH hat
 clear hnm hn hat
 obtain ⟨W2, hW2⟩ : ∃ W2, W2 = (w.alloc (.cells #[.int .u8 7, .int .i64 tx, .int .i64 nx, .int .i64 id1, vo, ve, .int .i64 tn, .int .i64 tm, .slice ia op.length ic1, .int .i64 ta, .string nm, .int .i64 n, .int .i64 at1] 35)).alloc (.cells #[.int .u8 7] 5) := ⟨_, rfl⟩
 have kb : Kept w W2 [] := by rw [hW2]; exact ((Kept.refl w []).alloc _).alloc _
 have b2 : W2.heap[w.heap.size]? = some (.cells #[.int .u8 7, .int .i64 tx, .int .i64 nx, .int .i64 id1, vo, ve, .int .i64 tn, .int .i64 tm, .slice ia op.length ic1, .int .i64 ta, .string nm, .int .i64 n, .int .i64 at1] 35 (0, 0)) := by rw [hW2]; exact ((Kept.refl _ []).alloc _).heap (by simp) (heap_alloc_new w _)
 have r2 : Rd W2 (.slice (some ⟨w.heap.size + 1, 0, none⟩) 1 1) [7] := by
  have := xq1 (w.alloc (.cells #[.int .u8 7, .int .i64 tx, .int .i64 nx, .int .i64 id1, vo, ve, .int .i64 tn, .int .i64 tm, .slice ia op.length ic1, .int .i64 ta, .string nm, .int .i64 n, .int .i64 at1] 35)) [7] #[.int .u8 7] 5 1 rfl rfl
  rw [hW2]; simpa using this
 have RN := iH (fun V (hV : Kept W2 V []) => (rd.keep kb).keep hV)
 have KB := iH kb; have B2 := iH b2
 have KA := iH (Kept.refl W2 [])
 have R0 := iH r2
 clear kb b2 r2 rd
 go_enter Try.func17, Try.ntmps17
 go_upto_region 23 with fail
 rw [<- hW2]
 clear hW2
 refine wp_region_held_drew (S := fun Z => Kept W2 Z []) (by kernel_rfl) KA.out.drew (fun hJ => ?_)
 refine wx 0 90 (.slice (some ⟨w.heap.size + 1, 0, none⟩) 1 1) rfl hJ ?_
 refine wx 1 91 (.pointer (some ⟨w.heap.size, 10, none⟩)) rfl hJ ?_
 refine wx 2 92 (.string nm) rfl hJ ?_ (hy := fun V hV => by (have hh := hV.heap (by simp) B2.out; have q10 := cell_of_row V _ 10 _ _ _ hh; have q11 := cell_of_row V _ 11 _ _ _ hh; clear hV hh; simp only [List.getElem?_toArray, List.getElem?_cons_zero, List.getElem?_cons_succ] at q10 q11; go_simp))
 refine wx 5 95 (.pointer (some ⟨w.heap.size, 11, none⟩)) rfl hJ ?_
 refine wx 6 96 (.int .i64 n) rfl hJ ?_ (hy := fun V hV => by (have hh := hV.heap (by simp) B2.out; have q10 := cell_of_row V _ 10 _ _ _ hh; have q11 := cell_of_row V _ 11 _ _ _ hh; clear hV hh; simp only [List.getElem?_toArray, List.getElem?_cons_zero, List.getElem?_cons_succ] at q10 q11; go_simp))
 refine wr1 3 rfl (fun KZ hK => ?_)
 go_simp
 go_at_call 43
 refine (xqW W2 _ nm KA.out.drew (by have := Hhnm.out; omega)).mono ?_
 rintro en w3 ⟨v3, rfl, r3, k3, t3⟩
 obtain ⟨a3, n3, c3, e3⟩ := r3.shape3
 subst e3
 have j3 := t3 _ _ (R0.out.kept (Kept.refl _ []).drew (by simp))
 go_wp2_with fail
 refine hK.out _ _ k3 (fun hJ => ?_)
 clear hK KZ
 refine wr1 4 rfl (fun KZ hK => ?_)
 go_simp
 go_at_call 22
 refine (xqK W2 _ _ _ _ _ k3 j3 r3.rd (by have := HL0.out; omega) (by have := xqz Hhnm.out; omega)).mono ?_
 rintro en w4 ⟨v4, rfl, r4, k4, _⟩
 obtain ⟨a4, n4, c4, e4⟩ := r4.shape3
 subst e4
 clear r3 k3 t3 j3
 go_wp2_with fail
 refine hK.out _ _ k4 (fun hJ => ?_)
 clear hK KZ
 refine wr1 7 rfl (fun KZ hK => ?_)
 go_simp
 go_at_call 39
 refine (xqh W2 _ _ _ n k4 r4.rd (by have := HL1.out; omega) Hhn.out).mono ?_
 rintro en w5 ⟨v5, rfl, r5, k5, _⟩
 obtain ⟨a5, n5, c5, e5⟩ := r5.shape3
 subst e5
 clear r4 k4
 go_wp2_with fail
 refine hK.out _ _ k5 (fun hJ => ?_)
 clear hK KZ
 refine wx 8 3 (.slice a5 n5 c5) rfl hJ ?_
 refine wd ?_
 have R2 := iH r5; have K3 := iH k5; have R3 := R2
 clear hJ r5 k5
 have hh := K3.out.heap (by simp) B2.out
 have c0 := cell_of_row w5 _ 0 _ _ _ hh
 have c12 := cell_of_row w5 _ 12 _ _ _ hh
 simp only [List.getElem?_toArray, List.getElem?_cons_zero, List.getElem?_cons_succ] at c0 c12
 clear hh
 go_wp2_with fail
 refine (res_int W2 _ at1 K3.out Hhat.out).mono ?_
 clear c0 c12
 rintro en w9 ⟨v9, rfl, r9, k9, t9⟩
 obtain ⟨a9, n9, c9, e9⟩ := r9.shape3
 subst e9
 have j9 := t9 _ _ R3.out.rd
 have hi := xqT Hhat.out
 go_wp2_with fail
 refine (xqK W2 _ _ _ _ _ k9 j9 r9.rd (by have := HL2.out; omega) (by omega)).mono ?_
 clear r9 k9 t9 j9 hi
 rintro en w4x ⟨v4, rfl, r4, k4, t4⟩
 obtain ⟨a4z, n4z, c4z, e4z⟩ := r4.shape3
 subst e4z
 have R4 := iH r4; have K4 := iH k4
 clear r4 k4 t4
 have hh := K4.out.heap (by simp) B2.out
 have c0 := cell_of_row w4x _ 0 _ _ _ hh
 simp only [List.getElem?_toArray, List.getElem?_cons_zero] at c0
 clear hh
 go_wp2
 go_ret
 exact ⟨_, rfl, R4.out.mono KB.out.size, KB.out.trans K4.out (by simp)⟩
theorem renc1 (tx nx id1 : Int) (ops : List Ox) (evs : List Px) (tn tm : Int) (op : List Int) (ta : Int) (nm : ByteArray) (n at1 : Int) (vo ve : Value) (ia : Option Addr) (ic1 : Nat) (w : World) (rd : RdN w (⟨1, tx, nx, id1, ops, evs, tn, tm, op, ta, nm, n, at1⟩ : En) vo ve (.slice ia op.length ic1)) (htx : whole tx) (hnx : whole nx) (hid : whole id1) (ho : ∀ o ∈ ops, o.Right) (hol : ops.length <= 1000) (he : ∀ o ∈ evs, o.Right) (hel : evs.length <= 1000) :
  Calls Try.prog 17 #[.agg #[.int .u8 1, .int .i64 tx, .int .i64 nx, .int .i64 id1, vo, ve, .int .i64 tn, .int .i64 tm, .slice ia op.length ic1, .int .i64 ta, .string nm, .int .i64 n, .int .i64 at1]] w fun en w' => ∃ v', en = .returned v' /\ Own w' w.heap.size 5 v' (([1] : List UInt8) ++ xqb tx ++ xqb nx ++ xqb id1 ++ opsL ops ++ evsL evs) /\ Kept w w' [] := by
 have l0 := xqe htx
 have l1 := xqe hnx
 have l2 := xqe hid
 have l3 := opsK_len ho hol
 have l4 := evsK_len he hel
 have HL0 : RowKit.Hid ((([1] : List UInt8)).length <= 1000000) := iH (by decide)
 have HL1 : RowKit.Hid ((([1] : List UInt8) ++ xqb tx).length <= 1000000) := iH (by simp only [List.length_append, List.length_singleton]; omega)
 have HL2 : RowKit.Hid ((([1] : List UInt8) ++ xqb tx ++ xqb nx).length <= 1000000) := iH (by simp only [List.length_append, List.length_singleton]; omega)
 have HL3 : RowKit.Hid ((([1] : List UInt8) ++ xqb tx ++ xqb nx ++ xqb id1).length <= 1000000) := iH (by simp only [List.length_append, List.length_singleton]; omega)
 have HL4 : RowKit.Hid ((([1] : List UInt8) ++ xqb tx ++ xqb nx ++ xqb id1 ++ opsL ops).length <= 1000000) := iH (by simp only [List.length_append, List.length_singleton]; omega)
 have HL5 : RowKit.Hid ((([1] : List UInt8) ++ xqb tx ++ xqb nx ++ xqb id1 ++ opsL ops ++ evsL evs).length <= 1000000) := iH (by simp only [List.length_append, List.length_singleton]; omega)
 clear l0 l1 l2 l3 l4
 have Hhtx := iH htx
 have Hhnx := iH hnx
 have Hhid := iH hid
 have Hho := iH ho
 have Hhol := iH hol
 have Hhe := iH he
 have Hhel := iH hel
 clear htx hnx hid ho hol he hel
 obtain ⟨W2, hW2⟩ : ∃ W2, W2 = (w.alloc (.cells #[.int .u8 1, .int .i64 tx, .int .i64 nx, .int .i64 id1, vo, ve, .int .i64 tn, .int .i64 tm, .slice ia op.length ic1, .int .i64 ta, .string nm, .int .i64 n, .int .i64 at1] 35)).alloc (.cells #[.int .u8 1] 5) := ⟨_, rfl⟩
 have kb : Kept w W2 [] := by rw [hW2]; exact ((Kept.refl w []).alloc _).alloc _
 have b2 : W2.heap[w.heap.size]? = some (.cells #[.int .u8 1, .int .i64 tx, .int .i64 nx, .int .i64 id1, vo, ve, .int .i64 tn, .int .i64 tm, .slice ia op.length ic1, .int .i64 ta, .string nm, .int .i64 n, .int .i64 at1] 35 (0, 0)) := by rw [hW2]; exact ((Kept.refl _ []).alloc _).heap (by simp) (heap_alloc_new w _)
 have r2 : Rd W2 (.slice (some ⟨w.heap.size + 1, 0, none⟩) 1 1) [1] := by
  have := xq1 (w.alloc (.cells #[.int .u8 1, .int .i64 tx, .int .i64 nx, .int .i64 id1, vo, ve, .int .i64 tn, .int .i64 tm, .slice ia op.length ic1, .int .i64 ta, .string nm, .int .i64 n, .int .i64 at1] 35)) [1] #[.int .u8 1] 5 1 rfl rfl
  rw [hW2]; simpa using this
 have RN := iH (fun V (hV : Kept W2 V []) => (rd.keep kb).keep hV)
 have KB := iH kb; have B2 := iH b2
 have KA := iH (Kept.refl W2 [])
 have R0 := iH r2
 clear kb b2 r2 rd
 go_enter Try.func17, Try.ntmps17
 go_upto_region 5 with fail
 rw [<- hW2]
 clear hW2
 refine wp_region_held_drew (S := fun Z => Kept W2 Z []) (by kernel_rfl) KA.out.drew (fun hJ => ?_)
 refine wx 0 13 (.slice (some ⟨w.heap.size + 1, 0, none⟩) 1 1) rfl hJ ?_
 refine wx 1 14 (.pointer (some ⟨w.heap.size, 1, none⟩)) rfl hJ ?_
 refine wx 2 15 (.int .i64 tx) rfl hJ ?_ (hy := fun V hV => by (have hh := hV.heap (by simp) B2.out; have q1 := cell_of_row V _ 1 _ _ _ hh; have q2 := cell_of_row V _ 2 _ _ _ hh; have q3 := cell_of_row V _ 3 _ _ _ hh; clear hV hh; simp only [List.getElem?_toArray, List.getElem?_cons_zero, List.getElem?_cons_succ] at q1 q2 q3; go_simp))
 refine wx 4 17 (.pointer (some ⟨w.heap.size, 2, none⟩)) rfl hJ ?_
 refine wx 5 18 (.int .i64 nx) rfl hJ ?_ (hy := fun V hV => by (have hh := hV.heap (by simp) B2.out; have q1 := cell_of_row V _ 1 _ _ _ hh; have q2 := cell_of_row V _ 2 _ _ _ hh; have q3 := cell_of_row V _ 3 _ _ _ hh; clear hV hh; simp only [List.getElem?_toArray, List.getElem?_cons_zero, List.getElem?_cons_succ] at q1 q2 q3; go_simp))
 refine wx 7 20 (.pointer (some ⟨w.heap.size, 3, none⟩)) rfl hJ ?_
 refine wx 8 21 (.int .i64 id1) rfl hJ ?_ (hy := fun V hV => by (have hh := hV.heap (by simp) B2.out; have q1 := cell_of_row V _ 1 _ _ _ hh; have q2 := cell_of_row V _ 2 _ _ _ hh; have q3 := cell_of_row V _ 3 _ _ _ hh; clear hV hh; simp only [List.getElem?_toArray, List.getElem?_cons_zero, List.getElem?_cons_succ] at q1 q2 q3; go_simp))
 refine wr1 3 rfl (fun KZ hK => ?_)
 go_simp
 go_at_call 39
 refine (xqh W2 _ _ _ tx KA.out.drew (R0.out.kept (Kept.refl _ []).drew (by simp)) (by have := HL0.out; omega) Hhtx.out).mono ?_
 rintro en w3 ⟨v3, rfl, r3, k3, _⟩
 obtain ⟨a3, n3, c3, e3⟩ := r3.shape3
 subst e3
 go_wp2_with fail
 refine hK.out _ _ k3 (fun hJ => ?_)
 clear hK KZ
 refine wr1 6 rfl (fun KZ hK => ?_)
 go_simp
 go_at_call 39
 refine (xqh W2 _ _ _ nx k3 r3.rd (by have := HL1.out; omega) Hhnx.out).mono ?_
 rintro en w4 ⟨v4, rfl, r4, k4, _⟩
 obtain ⟨a4, n4, c4, e4⟩ := r4.shape3
 subst e4
 clear r3 k3
 go_wp2_with fail
 refine hK.out _ _ k4 (fun hJ => ?_)
 clear hK KZ
 refine wr1 9 rfl (fun KZ hK => ?_)
 go_simp
 go_at_call 39
 refine (xqh W2 _ _ _ id1 k4 r4.rd (by have := HL2.out; omega) Hhid.out).mono ?_
 rintro en w5 ⟨v5, rfl, r5, k5, _⟩
 obtain ⟨a5, n5, c5, e5⟩ := r5.shape3
 subst e5
 clear r4 k4
 go_wp2_with fail
 refine hK.out _ _ k5 (fun hJ => ?_)
 clear hK KZ
 refine wx 10 3 (.slice a5 n5 c5) rfl hJ ?_
 refine wd ?_
 have R3 := iH r5; have K3 := iH k5
 clear hJ r5 k5
 have hh := K3.out.heap (by simp) B2.out
 have c0 := cell_of_row w5 _ 0 _ _ _ hh
 have c4 := cell_of_row w5 _ 4 _ _ _ hh
 simp only [List.getElem?_toArray, List.getElem?_cons_zero, List.getElem?_cons_succ] at c0 c4
 clear hh
 go_wp2_with fail
 refine (rops16_any W2 _ _ _ _ ops K3.out R3.out.rd (by have := HL3.out; omega) (RN.out _ K3.out).ro Hho.out Hhol.out).mono ?_
 clear c0 c4
 rintro en w4x ⟨v4, rfl, r4, k4, t4⟩
 obtain ⟨a4z, n4z, c4z, e4z⟩ := r4.shape3
 subst e4z
 have R4 := iH r4; have K4 := iH k4
 clear r4 k4 t4
 have hh := K4.out.heap (by simp) B2.out
 have c0 := cell_of_row w4x _ 0 _ _ _ hh
 have c5 := cell_of_row w4x _ 5 _ _ _ hh
 simp only [List.getElem?_toArray, List.getElem?_cons_zero, List.getElem?_cons_succ] at c0 c5
 clear hh
 go_wp2_with fail
 refine (revents16_any W2 _ _ _ _ evs K4.out R4.out.rd (by have := HL4.out; omega) (RN.out _ K4.out).re Hhe.out Hhel.out).mono ?_
 clear c0 c5
 rintro en w5x ⟨v5, rfl, r5, k5, t5⟩
 obtain ⟨a5z, n5z, c5z, e5z⟩ := r5.shape3
 subst e5z
 have R5 := iH r5; have K5 := iH k5
 clear r5 k5 t5
 have hh := K5.out.heap (by simp) B2.out
 have c0 := cell_of_row w5x _ 0 _ _ _ hh
 simp only [List.getElem?_toArray, List.getElem?_cons_zero] at c0
 clear hh
 go_wp2
 go_ret
 exact ⟨_, rfl, R5.out.mono KB.out.size, KB.out.trans K5.out (by simp)⟩
theorem renc8 (tx nx id1 : Int) (ops : List Ox) (evs : List Px) (tn tm : Int) (op : List Int) (ta : Int) (nm : ByteArray) (n at1 : Int) (vo ve : Value) (ia : Option Addr) (ic1 : Nat) (w : World) (rd : RdN w (⟨8, tx, nx, id1, ops, evs, tn, tm, op, ta, nm, n, at1⟩ : En) vo ve (.slice ia op.length ic1)) (htx : whole tx) (hnx : whole nx) (hid : whole id1) (he : ∀ o ∈ evs, o.Right) (hel : evs.length <= 1000) (hat : -9223372036854775808 <= at1 /\ at1 <= 9223372036854775807) :
  Calls Try.prog 17 #[.agg #[.int .u8 8, .int .i64 tx, .int .i64 nx, .int .i64 id1, vo, ve, .int .i64 tn, .int .i64 tm, .slice ia op.length ic1, .int .i64 ta, .string nm, .int .i64 n, .int .i64 at1]] w fun en w' => ∃ v', en = .returned v' /\ Own w' w.heap.size 5 v' (([8] : List UInt8) ++ xqb tx ++ xqb nx ++ xqb id1 ++ evsL evs ++ intL at1) /\ Kept w w' [] := by
 have l0 := xqe htx
 have l1 := xqe hnx
 have l2 := xqe hid
 have l3 := evsK_len he hel
 have l4 := xqT hat
 have HL0 : RowKit.Hid ((([8] : List UInt8)).length <= 1000000) := iH (by decide)
 have HL1 : RowKit.Hid ((([8] : List UInt8) ++ xqb tx).length <= 1000000) := iH (by simp only [List.length_append, List.length_singleton]; omega)
 have HL2 : RowKit.Hid ((([8] : List UInt8) ++ xqb tx ++ xqb nx).length <= 1000000) := iH (by simp only [List.length_append, List.length_singleton]; omega)
 have HL3 : RowKit.Hid ((([8] : List UInt8) ++ xqb tx ++ xqb nx ++ xqb id1).length <= 1000000) := iH (by simp only [List.length_append, List.length_singleton]; omega)
 have HL4 : RowKit.Hid ((([8] : List UInt8) ++ xqb tx ++ xqb nx ++ xqb id1 ++ evsL evs).length <= 1000000) := iH (by simp only [List.length_append, List.length_singleton]; omega)
 have HL5 : RowKit.Hid ((([8] : List UInt8) ++ xqb tx ++ xqb nx ++ xqb id1 ++ evsL evs ++ intL at1).length <= 1000000) := iH (by simp only [List.length_append, List.length_singleton]; omega)
 clear l0 l1 l2 l3 l4
 have Hhtx := iH htx
 have Hhnx := iH hnx
 have Hhid := iH hid
 have Hhe := iH he
 have Hhel := iH hel
 have Hhat := iH hat
 clear htx hnx hid he hel hat
 obtain ⟨W2, hW2⟩ : ∃ W2, W2 = (w.alloc (.cells #[.int .u8 8, .int .i64 tx, .int .i64 nx, .int .i64 id1, vo, ve, .int .i64 tn, .int .i64 tm, .slice ia op.length ic1, .int .i64 ta, .string nm, .int .i64 n, .int .i64 at1] 35)).alloc (.cells #[.int .u8 8] 5) := ⟨_, rfl⟩
 have kb : Kept w W2 [] := by rw [hW2]; exact ((Kept.refl w []).alloc _).alloc _
 have b2 : W2.heap[w.heap.size]? = some (.cells #[.int .u8 8, .int .i64 tx, .int .i64 nx, .int .i64 id1, vo, ve, .int .i64 tn, .int .i64 tm, .slice ia op.length ic1, .int .i64 ta, .string nm, .int .i64 n, .int .i64 at1] 35 (0, 0)) := by rw [hW2]; exact ((Kept.refl _ []).alloc _).heap (by simp) (heap_alloc_new w _)
 have r2 : Rd W2 (.slice (some ⟨w.heap.size + 1, 0, none⟩) 1 1) [8] := by
  have := xq1 (w.alloc (.cells #[.int .u8 8, .int .i64 tx, .int .i64 nx, .int .i64 id1, vo, ve, .int .i64 tn, .int .i64 tm, .slice ia op.length ic1, .int .i64 ta, .string nm, .int .i64 n, .int .i64 at1] 35)) [8] #[.int .u8 8] 5 1 rfl rfl
  rw [hW2]; simpa using this
 have RN := iH (fun V (hV : Kept W2 V []) => (rd.keep kb).keep hV)
 have KB := iH kb; have B2 := iH b2
 have KA := iH (Kept.refl W2 [])
 have R0 := iH r2
 clear kb b2 r2 rd
 go_enter Try.func17, Try.ntmps17
 go_upto_region 5 with fail
 rw [<- hW2]
 clear hW2
 refine wp_region_held_drew (S := fun Z => Kept W2 Z []) (by kernel_rfl) KA.out.drew (fun hJ => ?_)
 refine wx 0 13 (.slice (some ⟨w.heap.size + 1, 0, none⟩) 1 1) rfl hJ ?_
 refine wx 1 14 (.pointer (some ⟨w.heap.size, 1, none⟩)) rfl hJ ?_
 refine wx 2 15 (.int .i64 tx) rfl hJ ?_ (hy := fun V hV => by (have hh := hV.heap (by simp) B2.out; have q1 := cell_of_row V _ 1 _ _ _ hh; have q2 := cell_of_row V _ 2 _ _ _ hh; have q3 := cell_of_row V _ 3 _ _ _ hh; clear hV hh; simp only [List.getElem?_toArray, List.getElem?_cons_zero, List.getElem?_cons_succ] at q1 q2 q3; go_simp))
 refine wx 4 17 (.pointer (some ⟨w.heap.size, 2, none⟩)) rfl hJ ?_
 refine wx 5 18 (.int .i64 nx) rfl hJ ?_ (hy := fun V hV => by (have hh := hV.heap (by simp) B2.out; have q1 := cell_of_row V _ 1 _ _ _ hh; have q2 := cell_of_row V _ 2 _ _ _ hh; have q3 := cell_of_row V _ 3 _ _ _ hh; clear hV hh; simp only [List.getElem?_toArray, List.getElem?_cons_zero, List.getElem?_cons_succ] at q1 q2 q3; go_simp))
 refine wx 7 20 (.pointer (some ⟨w.heap.size, 3, none⟩)) rfl hJ ?_
 refine wx 8 21 (.int .i64 id1) rfl hJ ?_ (hy := fun V hV => by (have hh := hV.heap (by simp) B2.out; have q1 := cell_of_row V _ 1 _ _ _ hh; have q2 := cell_of_row V _ 2 _ _ _ hh; have q3 := cell_of_row V _ 3 _ _ _ hh; clear hV hh; simp only [List.getElem?_toArray, List.getElem?_cons_zero, List.getElem?_cons_succ] at q1 q2 q3; go_simp))
 refine wr1 3 rfl (fun KZ hK => ?_)
 go_simp
 go_at_call 39
 refine (xqh W2 _ _ _ tx KA.out.drew (R0.out.kept (Kept.refl _ []).drew (by simp)) (by have := HL0.out; omega) Hhtx.out).mono ?_
 rintro en w3 ⟨v3, rfl, r3, k3, _⟩
 obtain ⟨a3, n3, c3, e3⟩ := r3.shape3
 subst e3
 go_wp2_with fail
 refine hK.out _ _ k3 (fun hJ => ?_)
 clear hK KZ
 refine wr1 6 rfl (fun KZ hK => ?_)
 go_simp
 go_at_call 39
 refine (xqh W2 _ _ _ nx k3 r3.rd (by have := HL1.out; omega) Hhnx.out).mono ?_
 rintro en w4 ⟨v4, rfl, r4, k4, _⟩
 obtain ⟨a4, n4, c4, e4⟩ := r4.shape3
 subst e4
 clear r3 k3
 go_wp2_with fail
 refine hK.out _ _ k4 (fun hJ => ?_)
 clear hK KZ
 refine wr1 9 rfl (fun KZ hK => ?_)
 go_simp
 go_at_call 39
 refine (xqh W2 _ _ _ id1 k4 r4.rd (by have := HL2.out; omega) Hhid.out).mono ?_
 rintro en w5 ⟨v5, rfl, r5, k5, _⟩
 obtain ⟨a5, n5, c5, e5⟩ := r5.shape3
 subst e5
 clear r4 k4
 go_wp2_with fail
 refine hK.out _ _ k5 (fun hJ => ?_)
 clear hK KZ
 refine wx 10 3 (.slice a5 n5 c5) rfl hJ ?_
 refine wd ?_
 have R3 := iH r5; have K3 := iH k5
 clear hJ r5 k5
 have hh := K3.out.heap (by simp) B2.out
 have c0 := cell_of_row w5 _ 0 _ _ _ hh
 have c5 := cell_of_row w5 _ 5 _ _ _ hh
 simp only [List.getElem?_toArray, List.getElem?_cons_zero, List.getElem?_cons_succ] at c0 c5
 clear hh
 go_wp2_with fail
 refine (revents16_any W2 _ _ _ _ evs K3.out R3.out.rd (by have := HL3.out; omega) (RN.out _ K3.out).re Hhe.out Hhel.out).mono ?_
 clear c0 c5
 rintro en w4x ⟨v4, rfl, r4, k4, t4⟩
 obtain ⟨a4z, n4z, c4z, e4z⟩ := r4.shape3
 subst e4z
 have R4 := iH r4; have K4 := iH k4
 clear r4 k4 t4
 have hh := K4.out.heap (by simp) B2.out
 have c0 := cell_of_row w4x _ 0 _ _ _ hh
 have c12 := cell_of_row w4x _ 12 _ _ _ hh
 simp only [List.getElem?_toArray, List.getElem?_cons_zero, List.getElem?_cons_succ] at c0 c12
 clear hh
 go_wp2_with fail
 refine (res_int W2 _ at1 K4.out Hhat.out).mono ?_
 clear c0 c12
 rintro en w9 ⟨v9, rfl, r9, k9, t9⟩
 obtain ⟨a9, n9, c9, e9⟩ := r9.shape3
 subst e9
 have j9 := t9 _ _ R4.out.rd
 have hi := xqT Hhat.out
 go_wp2_with fail
 refine (xqK W2 _ _ _ _ _ k9 j9 r9.rd (by have := HL4.out; omega) (by omega)).mono ?_
 clear r9 k9 t9 j9 hi
 rintro en w5x ⟨v5, rfl, r5, k5, t5⟩
 obtain ⟨a5z, n5z, c5z, e5z⟩ := r5.shape3
 subst e5z
 have R5 := iH r5; have K5 := iH k5
 clear r5 k5 t5
 have hh := K5.out.heap (by simp) B2.out
 have c0 := cell_of_row w5x _ 0 _ _ _ hh
 simp only [List.getElem?_toArray, List.getElem?_cons_zero] at c0
 clear hh
 go_wp2
 go_ret
 exact ⟨_, rfl, R5.out.mono KB.out.size, KB.out.trans K5.out (by simp)⟩
end Go.Proofs.Ytjdbmlifekghfaa
