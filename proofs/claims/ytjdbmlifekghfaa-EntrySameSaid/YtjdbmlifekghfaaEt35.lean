/-
  Eph, Erb, Erc, Esc in one text.
-/
import Derived.Test.YtjdbmlifekghfaaEt31
import Derived.Test.YtjdbmlifekghfaaEt32
import Derived.Test.YtjdbmlifekghfaaEt33
import Derived.Test.YtjdbmlifekghfaaEt34
import Derived.Test.YtjdbmlifekghfaaEt0
import Derived.Test.YtjdbmlifekghfaaEt27
import Derived.Test.YtjdbmlifekghfaaEt29
import Derived.Test.YtjdbmlifekghfaaEt16
import Derived.Test.YtjdbmlifekghfaaEt3
import Derived.Test.YtjdbmlifekghfaaEt17
import Derived.Test.YtjdbmlifekghfaaEt21
import Derived.Test.YtjdbmlifekghfaaEt22
set_option linter.unusedVariables false
set_option maxHeartbeats 16000000
set_option maxRecDepth 100000
namespace Go.Proofs.Ytjdbmlifekghfaa
open Go.RowKit
theorem rdec_nil (va : Option Addr) (vc : Nat) (w : World) :
  Calls Try.prog 15 #[.slice va 0 vc] w fun en w' => DPost [] w en w' := by
 go_enter Try.func15, Try.ntmps15
 go_wp2
 refine bodyPost_ret (v := .tuple #[.agg #[.int .u8 0, .int .i64 0, .int .i64 0, .int .i64 0, .slice none 0 0, .slice none 0 0, .int .i64 0, .int .i64 0, .slice none 0 0, .int .i64 0, .string ⟨#[]⟩, .int .i64 0, .int .i64 0], .int .i64 3]) (by simp [results, Try.results15, go_sem]) rfl ?_
 exact DPost.bad rfl (by decide) ((Kept.refl w []).alloc _)
theorem rdecode_any (v : Value) (l : List UInt8) (w : World) (h : Rd w v l) (hl : l.length <= 1000000000) :
  Calls Try.prog 15 #[v] w fun en w' => DPost l w en w' := by
 obtain ⟨va, vc, rfl, hvc, hvn, hx⟩ := id h
 by_cases hn : l = []
 ·subst hn
  exact rdec_nil va vc w
 ·obtain ⟨vb, vo, rfl, _⟩ := hx hn
  have hl1 : 1 <= l.length := List.length_pos_iff.2 hn
  obtain ⟨k, hk⟩ : ∃ k : Int, k = ((l.getD 0 0).toNat : Int) := ⟨_, rfl⟩
  by_cases hr : 1 <= k /\ k <= 11
  ·rcases (show k = 1 ∨ k = 2 ∨ k = 3 ∨ k = 4 ∨ k = 5 ∨ k = 6 ∨ k = 7 ∨ k = 8 ∨ k = 9 ∨ k = 10 ∨ k = 11 by omega) with rfl | rfl | rfl | rfl | rfl | rfl | rfl | rfl | rfl | rfl | rfl
   ·exact rd1 vb vo vc l w h hl1 hl hk
   ·exact rd2 vb vo vc l w h hl1 hl hk
   ·exact rd3 vb vo vc l w h hl1 hl hk
   ·exact rd4 vb vo vc l w h hl1 hl hk
   ·exact rd5 vb vo vc l w h hl1 hl hk
   ·exact rd6 vb vo vc l w h hl1 hl hk
   ·exact rd7 vb vo vc l w h hl1 hl hk
   ·exact rd8 vb vo vc l w h hl1 hl hk
   ·exact rd9 vb vo vc l w h hl1 hl hk
   ·exact rd10 vb vo vc l w h hl1 hl hk
   exact rd11 vb vo vc l w h hl1 hl hk
  exact rdbad vb vo vc k hr l w h hl1 hl hk
theorem rfN_le (hi : Nat) (e : Int) (l : List UInt8) : (rfN 0 hi e l).2.2 ≠ 0 ∨ (rfN 0 hi e l).1 <= hi := by
 by_cases h : (rfN 0 hi e l).2.2 = 0
 ·exact .inr (rfN_ok h).2.2.2
 exact .inl h
theorem dOps_bad {n : Nat} {e : Int} (h : e ≠ 0) (l : List UInt8) : (dOps n e l).1 = [] := by
 cases n with
 | zero => rfl
 | succ n => rw [dOps, if_neg h]
theorem dEvs_bad {n : Nat} {e : Int} (h : e ≠ 0) (l : List UInt8) : (dEvs n e l).1 = [] := by
 cases n with
 | zero => rfl
 | succ n => rw [dEvs, if_neg h]
theorem gOps_le (e : Int) (l : List UInt8) : (gOps e l).1.length <= 255 := by
 rw [gOps, show bA e l = rfN 0 255 e l from rfl]
 rcases rfN_le 255 e l with h | h
 ·rw [dOps_bad h]; simp
 exact Nat.le_trans (dOps_le _ _ _) h
theorem gEvs_le (e : Int) (l : List UInt8) : (gEvs e l).1.length <= 255 := by
 rw [gEvs, show bA e l = rfN 0 255 e l from rfl]
 rcases rfN_le 255 e l with h | h
 ·rw [dEvs_bad h]; simp
 exact Nat.le_trans (dEvs_le _ _ _) h
theorem dEn_small (l : List UInt8) : (dEn l).ops.length <= 255 /\ (dEn l).evs.length <= 255 := by
 cases l with
 | nil => exact ⟨by decide, by decide⟩
 | cons b l =>
 rw [dEn]
 split
 case isFalse => exact ⟨by decide, by decide⟩
 rw [xqO]
 split
 ·exact ⟨gOps_le _ _, gEvs_le _ _⟩
 split
 ·exact ⟨Nat.zero_le _, gEvs_le _ _⟩
 split
 ·exact ⟨Nat.zero_le _, Nat.zero_le _⟩
 split
 ·exact ⟨Nat.zero_le _, Nat.zero_le _⟩
 split
 ·exact ⟨Nat.zero_le _, Nat.zero_le _⟩
 split
 ·exact ⟨Nat.zero_le _, Nat.zero_le _⟩
 exact ⟨gOps_le _ _, Nat.zero_le _⟩
def n9 : En := ⟨9, 0, 0, 0, [], [], 0, 0, [], 0, ⟨#[]⟩, 2, 0⟩
theorem n9_right : n9.Right := by
 have h0 : whole 0 := ⟨by decide, by decide⟩
 exact ⟨⟨by decide, by decide⟩, h0, h0, h0, (fun o h => by cases h), by decide, (fun x h => by cases h), by decide, h0, h0, (fun n h => by cases h), by decide, ⟨by decide, by decide⟩, by decide, ⟨by decide, by decide⟩, ⟨by decide, by decide⟩⟩
theorem n9_enc : n9.encL = [9, 2] := by
 have h : numL 2 = [2] := by have := xqF (n := 2) (by decide); exact this
 simp [En.encL, En.body, n9, En.b9, xqb, h]
theorem n9_dec : dEr [9, 2] = 0 /\ dEn [9, 2] = n9 := by
 have h := en_back n9_right
 rw [n9_enc] at h
 exact ⟨h.1, h.2.trans (by simp [En.norm, n9])⟩
theorem nine_any (w : World) : Calls Try.prog 9 #[] w fun e w' => e = .returned (.bool true) /\ Kept w w' [] := by
 have HD : RowKit.Hid (∀ v V, Rd V v [9, 2] -> Calls Try.prog 14 #[v] V fun en w' => ∃ ao ao1 ae ae1 ai ai1, en = .returned (.tuple #[.agg #[.int .u8 9, .int .i64 0, .int .i64 0, .int .i64 0, .slice ao 0 ao1, .slice ae 0 ae1, .int .i64 0, .int .i64 0, .slice ai 0 ai1, .int .i64 0, .string ⟨#[]⟩, .int .i64 2, .int .i64 0], .int .i64 0]) /\ RdN w' n9 (.slice ao 0 ao1) (.slice ae 0 ae1) (.slice ai 0 ai1) /\ Kept V w' []) := iH (fun v V h => (edecode_any v [9, 2] V h (by decide)).mono (by
  rintro e w' ⟨vo, ve, vi, rfl, r, k, _⟩
  rw [n9_dec.1, n9_dec.2]
  rw [n9_dec.2] at r
  obtain ⟨ao, ao1, rfl⟩ := r.ro.shape
  obtain ⟨ae, ae1, rfl⟩ := r.re.shape
  obtain ⟨ai, ai1, e1, _⟩ := id r.ri
  subst e1
  exact ⟨ao, ao1, ae, ae1, ai, ai1, rfl, r, k⟩))
 have HE : RowKit.Hid (∀ V, Calls Try.prog 12 #[.agg #[.int .u8 9, .int .i64 0, .int .i64 0, .int .i64 0, .slice none 0 0, .slice none 0 0, .int .i64 0, .int .i64 0, .slice none 0 0, .int .i64 0, .string ⟨#[]⟩, .int .i64 2, .int .i64 0]] V fun en w' => ∃ v', en = .returned v' /\ Own w' V.heap.size 5 v' [9, 2] /\ Kept V w' []) := iH (fun V => by
  have := eencode_any n9 (.slice none 0 0) (.slice none 0 0) (.slice none 0 0) V n9_right (RdN.nil V rfl rfl rfl) (fun b h => by simp [Value.ownBlock] at h) (fun b h => by simp [Value.ownBlock] at h) (fun b h => by simp [Value.ownBlock] at h)
  rw [n9_enc] at this
  exact this)
 have HS : RowKit.Hid (∀ V ao ao1 ae ae1 ai ai1, RdN V n9 (.slice ao 0 ao1) (.slice ae 0 ae1) (.slice ai 0 ai1) -> Calls Try.prog 18 #[.agg #[.int .u8 9, .int .i64 0, .int .i64 0, .int .i64 0, .slice ao 0 ao1, .slice ae 0 ae1, .int .i64 0, .int .i64 0, .slice ai 0 ai1, .int .i64 0, .string ⟨#[]⟩, .int .i64 2, .int .i64 0], .agg #[.int .u8 9, .int .i64 0, .int .i64 0, .int .i64 0, .slice none 0 0, .slice none 0 0, .int .i64 0, .int .i64 0, .slice none 0 0, .int .i64 0, .string ⟨#[]⟩, .int .i64 2, .int .i64 0]] V fun e w' => e = .returned (.bool true) /\ Kept V w' []) := iH (fun V ao ao1 ae ae1 ai ai1 h => EqP.ye (w := V) (esame_any n9 n9 (.slice ao 0 ao1) (.slice ae 0 ae1) (.slice ai 0 ai1) (.slice none 0 0) (.slice none 0 0) (.slice none 0 0) V h (RdN.nil V rfl rfl rfl) ⟨by decide, by decide⟩ ⟨by decide, by decide⟩) rfl)
 have R0 : Rd ((w.alloc (.cells #[.int .u8 9, .int .i64 0, .int .i64 0, .int .i64 0, .slice none 0 0, .slice none 0 0, .int .i64 0, .int .i64 0, .slice none 0 0, .int .i64 0, .string ⟨#[]⟩, .int .i64 2, .int .i64 0] 41)).alloc (.cells #[.int .u8 9, .int .u8 2] 5)) (.slice (some ⟨w.heap.size + 1, 0, none⟩) 2 2) [9, 2] := by
  have := xq1 (w.alloc (.cells #[.int .u8 9, .int .i64 0, .int .i64 0, .int .i64 0, .slice none 0 0, .slice none 0 0, .int .i64 0, .int .i64 0, .slice none 0 0, .int .i64 0, .string ⟨#[]⟩, .int .i64 2, .int .i64 0] 41)) [9, 2] #[.int .u8 9, .int .u8 2] 5 2 rfl rfl
  simpa using this
 go_enter Try.func9, Try.ntmps9
 go_wp2_with fail
 refine (HD.out _ _ R0).mono ?_
 rintro e w1 ⟨ao, ao1, ae, ae1, ai, ai1, rfl, r1, k1⟩
 have B1 : w1.heap[w.heap.size]? = some (.cells #[.int .u8 9, .int .i64 0, .int .i64 0, .int .i64 0, .slice none 0 0, .slice none 0 0, .int .i64 0, .int .i64 0, .slice none 0 0, .int .i64 0, .string ⟨#[]⟩, .int .i64 2, .int .i64 0] 41 (0, 0)) := k1.heap (by simp) (((Kept.refl _ []).alloc _).heap (by simp) (heap_alloc_new w _))
 have K1 := iH ((((Kept.refl w []).alloc _).alloc _).trans k1 (by simp))
 have R1 := iH r1
 have HB1 := iH B1
 have hlt : w.heap.size < w1.heap.size := (Array.getElem?_eq_some_iff.1 B1).1
 have C1 := fun j => cell_of_row w1 w.heap.size j _ _ _ B1
 have a0 := C1 0
 have a1 := C1 1
 have a2 := C1 2
 have a3 := C1 3
 have a4 := C1 4
 have a5 := C1 5
 have a6 := C1 6
 have a7 := C1 7
 have a8 := C1 8
 have a9 := C1 9
 have a10 := C1 10
 have a11 := C1 11
 have a12 := C1 12
 simp at a0 a1 a2 a3 a4 a5 a6 a7 a8 a9 a10 a11 a12
 clear k1 B1 R0 C1 r1
 go_wp2_with fail
 refine (HE.out _).mono ?_
 rintro e w2 ⟨v2, rfl, o2, k2⟩
 have B2 : w2.heap[w.heap.size]? = some (.cells #[.int .u8 9, .int .i64 0, .int .i64 0, .int .i64 0, .slice none 0 0, .slice none 0 0, .int .i64 0, .int .i64 0, .slice none 0 0, .int .i64 0, .string ⟨#[]⟩, .int .i64 2, .int .i64 0] 41 (0, 0)) := k2.heap (by simp) (((Kept.refl w1 []).alloc _).heap (by simp) HB1.out)
 have B3 : w2.heap[w1.heap.size]? = some (.cells #[.int .u8 9, .int .i64 0, .int .i64 0, .int .i64 0, .slice ao 0 ao1, .slice ae 0 ae1, .int .i64 0, .int .i64 0, .slice ai 0 ai1, .int .i64 0, .string ⟨#[]⟩, .int .i64 2, .int .i64 0] 41 (0, 0)) := k2.heap (by simp) (heap_alloc_new w1 _)
 have K2 := iH ((K1.out.alloc _).trans k2 (by simp))
 have R2 := iH (R1.out.keep (((Kept.refl w1 []).alloc _).trans k2 (by simp)))
 have O2 := iH o2; have HB2 := iH B2; have HB3 := iH B3
 clear a0 a1 a2 a3 a4 a5 a6 a7 a8 a9 a10 a11 a12 o2 k2 B2 B3
 go_wp2_with fail
 refine (alike_any v2 _ _ [9, 2] _ ((O2.out.rd).kept ((Kept.refl w2 []).alloc _) (by simp)) (xq1 w2 [9, 2] _ _ 2 rfl rfl) (by decide)).mono ?_
 rintro e w3 ⟨rfl, k3⟩
 have K3 := iH ((K2.out.alloc _).trans k3 (by simp))
 have R3 := iH (R2.out.keep (((Kept.refl w2 []).alloc _).trans k3 (by simp)))
 have B2 := k3.heap (by simp) (((Kept.refl w2 []).alloc (.cells #[.int .u8 9, .int .u8 2] 5)).heap (by simp) HB2.out)
 have B3 := k3.heap (by simp) (((Kept.refl w2 []).alloc (.cells #[.int .u8 9, .int .u8 2] 5)).heap (by simp) HB3.out)
 have C1 := fun j => cell_of_row w3 w.heap.size j _ _ _ B2
 have C2 := fun j => cell_of_row w3 w1.heap.size j _ _ _ B3
 have a0 := C1 0
 have a1 := C1 1
 have a2 := C1 2
 have a3 := C1 3
 have a4 := C1 4
 have a5 := C1 5
 have a6 := C1 6
 have a7 := C1 7
 have a8 := C1 8
 have a9 := C1 9
 have a10 := C1 10
 have a11 := C1 11
 have a12 := C1 12
 simp at a0 a1 a2 a3 a4 a5 a6 a7 a8 a9 a10 a11 a12
 have b0 := C2 0
 have b1 := C2 1
 have b2 := C2 2
 have b3 := C2 3
 have b4 := C2 4
 have b5 := C2 5
 have b6 := C2 6
 have b7 := C2 7
 have b8 := C2 8
 have b9 := C2 9
 have b10 := C2 10
 have b11 := C2 11
 have b12 := C2 12
 simp at b0 b1 b2 b3 b4 b5 b6 b7 b8 b9 b10 b11 b12
 clear k3 B2 B3 C1 C2
 have x1 : (([9, 2] : List UInt8) == [9, 2]) = true := by decide
 go_wp2_with fail
 refine (HS.out _ _ _ _ _ _ _ R3.out).mono ?_
 rintro e w4 ⟨rfl, k4⟩
 have K4 := iH (K3.out.trans k4 (by simp))
 clear k4
 go_wp2
 go_ret
 exact ⟨rfl, K4.out⟩
theorem reads_any (v : Value) (l : List UInt8) (w : World) (h : Rd w v l) (hl : l.length <= 1000000000) :
  Calls Try.prog 21 #[v] w fun e w' => e = .returned (.bool true) /\ Kept w w' [] := by
 obtain ⟨hs1, hs2⟩ := dEn_small l
 have HD0 : ∀ v V, Rd V v l -> Calls Try.prog 14 #[v] V fun en w' => DPost l V en w' := fun v V h => edecode_any v l V h hl
 have HF0 : ∀ v V, Rd V v l -> Calls Try.prog 15 #[v] V fun en w' => DPost l V en w' := fun v V h => rdecode_any v l V h hl
 have DP : ∀ V en w', DPost l V en w' -> ∃ vo ve vi, en = .returned (.tuple #[.agg ((dEn l).cs vo ve vi), .int .i64 (dEr l)]) /\ RdN w' (dEn l) vo ve vi /\ Kept V w' [] := by
  rintro V en w' ⟨vo, ve, vi, he, r, k, _⟩
  exact ⟨vo, ve, vi, he, r, k⟩
 obtain ⟨x, hx⟩ : ∃ x, x = dEr l := ⟨_, rfl⟩
 obtain ⟨E, hE⟩ : ∃ E, E = dEn l := ⟨_, rfl⟩
 rw [<- hx, <- hE] at DP
 rw [<- hE] at hs1 hs2
 obtain ⟨k, tx, nx, id1, ops, evs, tn, tm, op, ta, nm, n, at1⟩ := E
 have DQ : ∀ V en w', DPost l V en w' -> ∃ ao ao1 ae ae1 ai ai1, en = .returned (.tuple #[.agg #[.int .u8 k, .int .i64 tx, .int .i64 nx, .int .i64 id1, .slice ao ops.length ao1, .slice ae evs.length ae1, .int .i64 tn, .int .i64 tm, .slice ai op.length ai1, .int .i64 ta, .string nm, .int .i64 n, .int .i64 at1], .int .i64 x]) /\ RdN w' (⟨k, tx, nx, id1, ops, evs, tn, tm, op, ta, nm, n, at1⟩ : En) (.slice ao ops.length ao1) (.slice ae evs.length ae1) (.slice ai op.length ai1) /\ Kept V w' [] := by
  intro V en w' hp
  obtain ⟨vo, ve, vi, rfl, r, k⟩ := DP V en w' hp
  obtain ⟨ao, ao1, rfl⟩ := r.ro.shape
  obtain ⟨ae, ae1, rfl⟩ := r.re.shape
  obtain ⟨ai, ai1, e1, _⟩ := id r.ri
  subst e1
  exact ⟨ao, ao1, ae, ae1, ai, ai1, rfl, r, k⟩
 have HD := iH (fun v V h => (HD0 v V h).mono (DQ V))
 have HF := iH (fun v V h => (HF0 v V h).mono (DQ V))
 have HB : RowKit.Hid (∀ ao ao1 ae ae1 ai ai1 V, RdN V (⟨k, tx, nx, id1, ops, evs, tn, tm, op, ta, nm, n, at1⟩ : En) (.slice ao ops.length ao1) (.slice ae evs.length ae1) (.slice ai op.length ai1) -> Calls Try.prog 20 #[.agg #[.int .u8 k, .int .i64 tx, .int .i64 nx, .int .i64 id1, .slice ao ops.length ao1, .slice ae evs.length ae1, .int .i64 tn, .int .i64 tm, .slice ai op.length ai1, .int .i64 ta, .string nm, .int .i64 n, .int .i64 at1]] V fun en w' => ∃ vo ve, en = .returned (.agg #[.int .u8 k, .int .i64 tx, .int .i64 nx, .int .i64 id1, vo, ve, .int .i64 tn, .int .i64 tm, .slice ai op.length ai1, .int .i64 ta, .string nm, .int .i64 n, .int .i64 at1]) /\ RdN w' (⟨k, tx, nx, id1, ops, evs, tn, tm, op, ta, nm, n, at1⟩ : En) vo ve (.slice ai op.length ai1) /\ Kept V w' []) := iH (fun ao ao1 ae ae1 ai ai1 V r => (back_ops (rd := r) (hl := Nat.le_trans hs1 (by decide)) (hle := Nat.le_trans hs2 (by decide))).mono (by
  rintro e w' ⟨vo, ve, rfl, o1, o2, k⟩
  exact ⟨vo, ve, rfl, ⟨o1.rd, o2.rd, r.ri.keep k⟩, k⟩))
 have HS : RowKit.Hid (∀ V vo ve vi ap bp cp, RdN V (⟨k, tx, nx, id1, ops, evs, tn, tm, op, ta, nm, n, at1⟩ : En) vo ve vi -> RdN V (⟨k, tx, nx, id1, ops, evs, tn, tm, op, ta, nm, n, at1⟩ : En) ap bp cp -> Calls Try.prog 19 #[.agg #[.int .u8 k, .int .i64 tx, .int .i64 nx, .int .i64 id1, vo, ve, .int .i64 tn, .int .i64 tm, vi, .int .i64 ta, .string nm, .int .i64 n, .int .i64 at1], .agg #[.int .u8 k, .int .i64 tx, .int .i64 nx, .int .i64 id1, ap, bp, .int .i64 tn, .int .i64 tm, cp, .int .i64 ta, .string nm, .int .i64 n, .int .i64 at1]] V fun e w' => e = .returned (.bool true) /\ Kept V w' []) := iH (fun V vo ve vi ap bp cp r1 r2 => EqP.ye (w := V) (rsame_any (⟨k, tx, nx, id1, ops, evs, tn, tm, op, ta, nm, n, at1⟩ : En) (⟨k, tx, nx, id1, ops, evs, tn, tm, op, ta, nm, n, at1⟩ : En) vo ve vi ap bp cp V r1 r2 ⟨Nat.le_trans hs1 (by decide), Nat.le_trans hs2 (by decide)⟩) rfl)
 have R := iH h
 clear hE hx hs1 hs2 h DQ DP HD0 HF0
 go_enter Try.func21, Try.ntmps21
 go_wp2_with fail
 refine (HD.out _ _ R.out).mono ?_
 rintro e w1 ⟨ao, ao1, ae, ae1, ai, ai1, rfl, r1, k1⟩
 have R1 := iH r1; have K1 := iH k1
 clear r1 k1
 go_wp2_with fail
 refine (HF.out _ _ (R.out.kept (K1.out.alloc _) (by simp))).mono ?_
 rintro e w2 ⟨bo, bo1, be, be1, bi, bi1, rfl, r2, k2⟩
 have R2 := iH r2; have K2 := iH k2
 clear r2 k2
 go_upto_region 3 with fail
 obtain ⟨W3, hW3⟩ : ∃ W3, W3 = w2.alloc (.cells #[.int .u8 k, .int .i64 tx, .int .i64 nx, .int .i64 id1, .slice bo ops.length bo1, .slice be evs.length be1, .int .i64 tn, .int .i64 tm, .slice bi op.length bi1, .int .i64 ta, .string nm, .int .i64 n, .int .i64 at1] 35) := ⟨_, rfl⟩
 have K3 : RowKit.Hid (Kept w W3 []) := iH (by rw [hW3]; exact ((K1.out.alloc _).trans K2.out (by simp)).alloc _)
 have B1 : RowKit.Hid (W3.heap[w1.heap.size]? = some (.cells #[.int .u8 k, .int .i64 tx, .int .i64 nx, .int .i64 id1, .slice ao ops.length ao1, .slice ae evs.length ae1, .int .i64 tn, .int .i64 tm, .slice ai op.length ai1, .int .i64 ta, .string nm, .int .i64 n, .int .i64 at1] 41 (0, 0))) := iH (by rw [hW3]; exact (K2.out.alloc _).heap (by simp) (heap_alloc_new w1 _))
 have B2 : RowKit.Hid (W3.heap[w2.heap.size]? = some (.cells #[.int .u8 k, .int .i64 tx, .int .i64 nx, .int .i64 id1, .slice bo ops.length bo1, .slice be evs.length be1, .int .i64 tn, .int .i64 tm, .slice bi op.length bi1, .int .i64 ta, .string nm, .int .i64 n, .int .i64 at1] 35 (0, 0))) := iH (by rw [hW3]; exact heap_alloc_new w2 _)
 have RA : RowKit.Hid (∀ Z, Kept W3 Z [] -> RdN Z (⟨k, tx, nx, id1, ops, evs, tn, tm, op, ta, nm, n, at1⟩ : En) (.slice ao ops.length ao1) (.slice ae evs.length ae1) (.slice ai op.length ai1)) := iH (fun Z hZ => R1.out.keep (((((Kept.refl w1 []).alloc _).trans K2.out (by simp)).alloc _).trans (by rw [<- hW3]; exact hZ) (by simp)))
 have RB : RowKit.Hid (∀ Z, Kept W3 Z [] -> RdN Z (⟨k, tx, nx, id1, ops, evs, tn, tm, op, ta, nm, n, at1⟩ : En) (.slice bo ops.length bo1) (.slice be evs.length be1) (.slice bi op.length bi1)) := iH (fun Z hZ => R2.out.keep (((Kept.refl w2 []).alloc _).trans (by rw [<- hW3]; exact hZ) (by simp)))
 rw [<- hW3]
 clear hW3
 refine wp_region_held_drew (S := fun Z => Kept W3 Z []) (by kernel_rfl) ((Kept.refl W3 []).drew) (fun hJ => ?_)
 refine wx 0 17 (.int .i64 x) rfl hJ ?_
 refine wx 1 18 (.int .i64 x) rfl hJ ?_
 refine wx 2 19 (.bool true) rfl hJ ?_
 refine wx 3 20 (.bool true) rfl hJ ?_
 refine wx 4 21 (.agg #[.int .u8 k, .int .i64 tx, .int .i64 nx, .int .i64 id1, .slice ao ops.length ao1, .slice ae evs.length ae1, .int .i64 tn, .int .i64 tm, .slice ai op.length ai1, .int .i64 ta, .string nm, .int .i64 n, .int .i64 at1]) rfl hJ ?_ (hy := fun V hV => by (have hh := hV.heap (by simp) B1.out; have q0 := cell_of_row V _ 0 _ _ _ hh; have q1 := cell_of_row V _ 1 _ _ _ hh; have q2 := cell_of_row V _ 2 _ _ _ hh; have q3 := cell_of_row V _ 3 _ _ _ hh; have q4 := cell_of_row V _ 4 _ _ _ hh; have q5 := cell_of_row V _ 5 _ _ _ hh; have q6 := cell_of_row V _ 6 _ _ _ hh; have q7 := cell_of_row V _ 7 _ _ _ hh; have q8 := cell_of_row V _ 8 _ _ _ hh; have q9 := cell_of_row V _ 9 _ _ _ hh; have q10 := cell_of_row V _ 10 _ _ _ hh; have q11 := cell_of_row V _ 11 _ _ _ hh; have q12 := cell_of_row V _ 12 _ _ _ hh; clear hV hh; simp only [List.getElem?_toArray, List.getElem?_cons_zero, List.getElem?_cons_succ] at q0 q1 q2 q3 q4 q5 q6 q7 q8 q9 q10 q11 q12; go_simp))
 refine wx 6 23 (.agg #[.int .u8 k, .int .i64 tx, .int .i64 nx, .int .i64 id1, .slice bo ops.length bo1, .slice be evs.length be1, .int .i64 tn, .int .i64 tm, .slice bi op.length bi1, .int .i64 ta, .string nm, .int .i64 n, .int .i64 at1]) rfl hJ ?_ (hy := fun V hV => by (have hh := hV.heap (by simp) B2.out; have q0 := cell_of_row V _ 0 _ _ _ hh; have q1 := cell_of_row V _ 1 _ _ _ hh; have q2 := cell_of_row V _ 2 _ _ _ hh; have q3 := cell_of_row V _ 3 _ _ _ hh; have q4 := cell_of_row V _ 4 _ _ _ hh; have q5 := cell_of_row V _ 5 _ _ _ hh; have q6 := cell_of_row V _ 6 _ _ _ hh; have q7 := cell_of_row V _ 7 _ _ _ hh; have q8 := cell_of_row V _ 8 _ _ _ hh; have q9 := cell_of_row V _ 9 _ _ _ hh; have q10 := cell_of_row V _ 10 _ _ _ hh; have q11 := cell_of_row V _ 11 _ _ _ hh; have q12 := cell_of_row V _ 12 _ _ _ hh; clear hV hh; simp only [List.getElem?_toArray, List.getElem?_cons_zero, List.getElem?_cons_succ] at q0 q1 q2 q3 q4 q5 q6 q7 q8 q9 q10 q11 q12; go_simp))
 refine wr1 5 rfl (fun K hK => ?_)
 go_simp
 go_at_call 20
 refine (HB.out _ _ _ _ _ _ _ (RA.out _ (Kept.refl W3 []).drew)).mono ?_
 rintro e w4 ⟨vo, ve, rfl, r4, k4⟩
 have k4 := ((Kept.refl W3 []).drew).trans k4 (by simp)
 go_wp2_with fail
 refine hK.out _ _ k4 (fun hJ => ?_)
 clear hK K
 refine wr1 7 rfl (fun K hK => ?_)
 go_simp
 go_at_call 19
 refine (HS.out _ _ _ _ _ _ _ r4 (RB.out _ k4)).mono ?_
 rintro e w5 ⟨rfl, k5⟩
 have k5 := k4.trans k5 (by simp)
 clear r4 k4
 go_wp2_with fail
 refine hK.out _ _ k5 (fun hJ => ?_)
 clear hK K
 refine wx 8 25 (.bool true) rfl hJ ?_
 refine wx 9 2 (.bool true) rfl hJ ?_
 refine wd ?_
 have K5 := iH k5
 clear k5 hJ
 go_wp2
 go_ret
 exact ⟨rfl, K3.out.trans K5.out (by simp)⟩
theorem tu_any (k tx nx id1 : Int) (ops : List Ox) (evs : List Px) (tn tm : Int) (op : List Int) (ta : Int) (nm : ByteArray) (n at1 : Int) (ao : Option Addr) (ao1 : Nat) (ae : Option Addr) (ae1 : Nat) (ai : Option Addr) (ai1 : Nat) (w : World) (rd : RdN w (⟨k, tx, nx, id1, ops, evs, tn, tm, op, ta, nm, n, at1⟩ : En) (.slice ao ops.length ao1) (.slice ae evs.length ae1) (.slice ai op.length ai1)) (fi : ∀ b, (Value.slice ai op.length ai1).ownBlock = some b -> b < w.heap.size) (hl : ops.length <= 100000) (hle : evs.length <= 100000) :
  Calls Try.prog 13 #[ .agg #[.int .u8 k, .int .i64 tx, .int .i64 nx, .int .i64 id1, .slice ao ops.length ao1, .slice ae evs.length ae1, .int .i64 tn, .int .i64 tm, .slice ai op.length ai1, .int .i64 ta, .string nm, .int .i64 n, .int .i64 at1]] w fun e w' => ∃ bo bo1 be be1, e = .returned (.agg #[.int .u8 k, .int .i64 tx, .int .i64 nx, .int .i64 id1, .slice bo ops.length bo1, .slice be evs.length be1, .int .i64 tn, .int .i64 tm, .slice ai op.length ai1, .int .i64 ta, .string nm, .int .i64 n, .int .i64 at1]) /\ RdN w' (⟨k, tx, nx, id1, ops, evs, tn, tm, op, ta, nm, n, at1⟩ : En) (.slice bo ops.length bo1) (.slice be evs.length be1) (.slice ai op.length ai1) /\ LowN w' (.slice bo ops.length bo1) (.slice be evs.length be1) (.slice ai op.length ai1) /\ Kept w w' [] :=
 (turned_ops (rd := rd) (hl := hl) (hle := hle)).mono (by
  rintro e w' ⟨vo, ve, rfl, o1, o2, k'⟩
  obtain ⟨bo, bo1, rfl⟩ := o1.shape
  obtain ⟨be, be1, rfl⟩ := o2.shape
  exact ⟨bo, bo1, be, be1, rfl, ⟨o1.rd, o2.rd, rd.ri.kept k' (by simp)⟩, ⟨fun b hb => (o1.lt b hb).2, fun b hb => (o2.lt b hb).2, fun b hb => Nat.lt_of_lt_of_le (fi b hb) k'.size⟩, k'⟩)
theorem ba_any (k tx nx id1 : Int) (ops : List Ox) (evs : List Px) (tn tm : Int) (op : List Int) (ta : Int) (nm : ByteArray) (n at1 : Int) (ao : Option Addr) (ao1 : Nat) (ae : Option Addr) (ae1 : Nat) (ai : Option Addr) (ai1 : Nat) (w : World) (rd : RdN w (⟨k, tx, nx, id1, ops, evs, tn, tm, op, ta, nm, n, at1⟩ : En) (.slice ao ops.length ao1) (.slice ae evs.length ae1) (.slice ai op.length ai1)) (hl : ops.length <= 100000) (hle : evs.length <= 100000) :
  Calls Try.prog 20 #[ .agg #[.int .u8 k, .int .i64 tx, .int .i64 nx, .int .i64 id1, .slice ao ops.length ao1, .slice ae evs.length ae1, .int .i64 tn, .int .i64 tm, .slice ai op.length ai1, .int .i64 ta, .string nm, .int .i64 n, .int .i64 at1]] w fun e w' => ∃ bo bo1 be be1, e = .returned (.agg #[.int .u8 k, .int .i64 tx, .int .i64 nx, .int .i64 id1, .slice bo ops.length bo1, .slice be evs.length be1, .int .i64 tn, .int .i64 tm, .slice ai op.length ai1, .int .i64 ta, .string nm, .int .i64 n, .int .i64 at1]) /\ RdN w' (⟨k, tx, nx, id1, ops, evs, tn, tm, op, ta, nm, n, at1⟩ : En) (.slice bo ops.length bo1) (.slice be evs.length be1) (.slice ai op.length ai1) /\ Kept w w' [] :=
 (back_ops (rd := rd) (hl := hl) (hle := hle)).mono (by
  rintro e w' ⟨vo, ve, rfl, o1, o2, k'⟩
  obtain ⟨bo, bo1, rfl⟩ := o1.shape
  obtain ⟨be, be1, rfl⟩ := o2.shape
  exact ⟨bo, bo1, be, be1, rfl, ⟨o1.rd, o2.rd, rd.ri.kept k' (by simp)⟩, k'⟩)
theorem ed_any (k tx nx id1 : Int) (ops : List Ox) (evs : List Px) (tn tm : Int) (op : List Int) (ta : Int) (nm : ByteArray) (n at1 : Int) (v : Value) (L : List UInt8) (x : Int) (w : World) (h : Rd w v L) (hl : L.length <= 1000000000) (he : dEr L = x) (hn : dEn L = (⟨k, tx, nx, id1, ops, evs, tn, tm, op, ta, nm, n, at1⟩ : En)) :
  Calls Try.prog 14 #[v] w fun e w' => ∃ bo bo1 be be1 bi bi1, e = .returned (.tuple #[ .agg #[.int .u8 k, .int .i64 tx, .int .i64 nx, .int .i64 id1, .slice bo ops.length bo1, .slice be evs.length be1, .int .i64 tn, .int .i64 tm, .slice bi op.length bi1, .int .i64 ta, .string nm, .int .i64 n, .int .i64 at1], .int .i64 x]) /\ RdN w' (⟨k, tx, nx, id1, ops, evs, tn, tm, op, ta, nm, n, at1⟩ : En) (.slice bo ops.length bo1) (.slice be evs.length be1) (.slice bi op.length bi1) /\ Kept w w' [] :=
 (edecode_any v L w h hl).mono (by
  rintro e w' ⟨vo, ve, vi, rfl, r, k', _⟩
  rw [hn] at r
  rw [hn, he]
  obtain ⟨bo, bo1, rfl⟩ := r.ro.shape
  obtain ⟨be, be1, rfl⟩ := r.re.shape
  obtain ⟨bi, bi1, e1, _⟩ := id r.ri
  subst e1
  exact ⟨bo, bo1, be, be1, bi, bi1, rfl, r, k'⟩)
theorem rd_any (k tx nx id1 : Int) (ops : List Ox) (evs : List Px) (tn tm : Int) (op : List Int) (ta : Int) (nm : ByteArray) (n at1 : Int) (v : Value) (L : List UInt8) (x : Int) (w : World) (h : Rd w v L) (hl : L.length <= 1000000000) (he : dEr L = x) (hn : dEn L = (⟨k, tx, nx, id1, ops, evs, tn, tm, op, ta, nm, n, at1⟩ : En)) :
  Calls Try.prog 15 #[v] w fun e w' => ∃ bo bo1 be be1 bi bi1, e = .returned (.tuple #[ .agg #[.int .u8 k, .int .i64 tx, .int .i64 nx, .int .i64 id1, .slice bo ops.length bo1, .slice be evs.length be1, .int .i64 tn, .int .i64 tm, .slice bi op.length bi1, .int .i64 ta, .string nm, .int .i64 n, .int .i64 at1], .int .i64 x]) /\ RdN w' (⟨k, tx, nx, id1, ops, evs, tn, tm, op, ta, nm, n, at1⟩ : En) (.slice bo ops.length bo1) (.slice be evs.length be1) (.slice bi op.length bi1) /\ Kept w w' [] :=
 (rdecode_any v L w h hl).mono (by
  rintro e w' ⟨vo, ve, vi, rfl, r, k', _⟩
  rw [hn] at r
  rw [hn, he]
  obtain ⟨bo, bo1, rfl⟩ := r.ro.shape
  obtain ⟨be, be1, rfl⟩ := r.re.shape
  obtain ⟨bi, bi1, e1, _⟩ := id r.ri
  subst e1
  exact ⟨bo, bo1, be, be1, bi, bi1, rfl, r, k'⟩)
theorem of_lit (r : Rw) (vl vk vg vs : Value) (bl bg bs : List UInt8) (w : World) (d : RdW w r vl vk vg vs bl bg bs) (nu : r.Num) (sm : r.Small bl bg bs) :
  Calls Try.prog 11 #[.agg (r.cs vl vk vg vs)] w fun en w' => ∃ (k tx nx id1 : Int) (ops : List Ox) (evs : List Px) (tn tm : Int) (op : List Int) (ta : Int) (nm : ByteArray) (n at1 : Int) (ao : Option Addr) (ao1 : Nat) (ae : Option Addr) (ae1 : Nat) (ai : Option Addr) (ai1 : Nat) (M : Int) (l : List Int),
   en = .returned ( .agg #[.int .u8 k, .int .i64 tx, .int .i64 nx, .int .i64 id1, .slice ao ops.length ao1, .slice ae evs.length ae1, .int .i64 tn, .int .i64 tm, .slice ai op.length ai1, .int .i64 ta, .string nm, .int .i64 n, .int .i64 at1]) /\ RdN w' (⟨k, tx, nx, id1, ops, evs, tn, tm, op, ta, nm, n, at1⟩ : En) (.slice ao ops.length ao1) (.slice ae evs.length ae1) (.slice ai op.length ai1) /\ LowN w' (.slice ao ops.length ao1) (.slice ae evs.length ae1) (.slice ai op.length ai1) /\ (⟨k, tx, nx, id1, ops, evs, tn, tm, op, ta, nm, n, at1⟩ : En).Right /\ (⟨k, tx, nx, id1, ops, evs, tn, tm, op, ta, nm, n, at1⟩ : En).norm = (⟨k, tx, nx, id1, ops, evs, tn, tm, op, ta, nm, n, at1⟩ : En) /\ (⟨k, tx, nx, id1, ops, evs, tn, tm, op, ta, nm, n, at1⟩ : En) = xqL r M l /\ (M = 1 + (r.M : Int) % 40 /\ NoEs w' (.slice ao ops.length ao1) (.slice ae evs.length ae1) (.slice ai op.length ai1)) /\ Kept w w' [] :=
 (lof_any r vl vk vg vs bl bg bs w d nu sm).mono (by
  rintro e w' ⟨M, l, vo, ve, vi, rfl, hM, hub, rdn, low, k'⟩
  have hr := rawEn_right (sm.ok nu d) (M := M) (l := l) ⟨by have := hM.1; omega, by have := hM.1; omega⟩ hub
  have hn := rawEn_norm r M l
  obtain ⟨oo, oo1, rfl⟩ := rdn.ro.shape
  obtain ⟨oe, oe1, rfl⟩ := rdn.re.shape
  obtain ⟨oi, oi1, e1, _⟩ := id rdn.ri
  subst e1
  obtain ⟨E, hE⟩ : ∃ E, E = xqL r M l := ⟨_, rfl⟩
  rw [<- hE] at hr hn rdn low hM
  rw [<- hE]
  obtain ⟨k, tx, nx, id1, ops, evs, tn, tm, op, ta, nm, n, at1⟩ := E
  exact ⟨k, tx, nx, id1, ops, evs, tn, tm, op, ta, nm, n, at1, oo, oo1, oe, oe1, oi, oi1, M, l, rfl, rdn, low, hr, hn, hE, hM, k'⟩)
theorem encL_len {e : En} (hr : e.Right) : e.encL.length <= 200001 /\ 0 < e.encL.length := by
 have h1 := xqe hr.tx; have h2 := xqe hr.nx; have h3 := xqe hr.id; have h4 := opsL_len hr.ops hr.nops; have h5 := evsL_len hr.evs hr.nevs; have h6 := xqz hr.nm; have h7 := xqe hr.n
 have h8 := openL_len hr.op hr.nop; have h9 := xqT hr.at'; have h10 := xqT hr.ta; have h11 := xqe hr.tn; have h12 := xqe hr.tm
 have h : e.body.length <= 200000 := by
  unfold En.body
  repeat' split
  all_goals (try simp only [En.b1, En.b8, En.b2, En.b3, En.b7, En.b9, En.b11, List.length_append, List.length_nil])
  all_goals omega
 rw [En.encL, List.length_cons]
 omega
end Go.Proofs.Ytjdbmlifekghfaa
