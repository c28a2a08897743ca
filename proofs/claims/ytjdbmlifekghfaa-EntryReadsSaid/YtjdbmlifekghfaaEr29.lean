/-
  Erb, Erc in one text.
-/
import Derived.Test.YtjdbmlifekghfaaEr11
import Derived.Test.YtjdbmlifekghfaaEr15
import Derived.Test.YtjdbmlifekghfaaEr20
import Derived.Test.YtjdbmlifekghfaaEr27
import Derived.Test.YtjdbmlifekghfaaEr28
import Derived.Test.YtjdbmlifekghfaaEr0
import Derived.Test.YtjdbmlifekghfaaEr3
namespace Go.Proofs.Ytjdbmlifekghfaa
set_option linter.unusedVariables false
open Go.RowKit

theorem rfN_le (hi : Nat) (e : Int) (l : List UInt8) : (rfN 0 hi e l).2.2 ≠ 0 ∨ (rfN 0 hi e l).1 ≤ hi := by
  by_cases h : (rfN 0 hi e l).2.2 = 0
  · exact .inr (rfN_ok h).2.2.2
  · exact .inl h

theorem dOps_bad {n : Nat} {e : Int} (h : e ≠ 0) (l : List UInt8) : (dOps n e l).1 = [] := by
  cases n with
  | zero => rfl
  | succ n => rw [dOps, if_neg h]

theorem dEvs_bad {n : Nat} {e : Int} (h : e ≠ 0) (l : List UInt8) : (dEvs n e l).1 = [] := by
  cases n with
  | zero => rfl
  | succ n => rw [dEvs, if_neg h]

theorem gOps_le (e : Int) (l : List UInt8) : (gOps e l).1.length ≤ 255 := by
  rw [gOps, show bA e l = rfN 0 255 e l from rfl]
  rcases rfN_le 255 e l with h | h
  · rw [dOps_bad h]; simp
  · exact Nat.le_trans (dOps_le _ _ _) h

theorem gEvs_le (e : Int) (l : List UInt8) : (gEvs e l).1.length ≤ 255 := by
  rw [gEvs, show bA e l = rfN 0 255 e l from rfl]
  rcases rfN_le 255 e l with h | h
  · rw [dEvs_bad h]; simp
  · exact Nat.le_trans (dEvs_le _ _ _) h

theorem dEn_small (l : List UInt8) : (dEn l).ops.length ≤ 255 ∧ (dEn l).evs.length ≤ 255 := by
  cases l with
  | nil => exact ⟨by decide, by decide⟩
  | cons b l =>
    rw [dEn]
    split
    case isFalse => exact ⟨by decide, by decide⟩
    rw [dBody]
    split
    · exact ⟨gOps_le _ _, gEvs_le _ _⟩
    split
    · exact ⟨Nat.zero_le _, gEvs_le _ _⟩
    split
    · exact ⟨Nat.zero_le _, Nat.zero_le _⟩
    split
    · exact ⟨Nat.zero_le _, Nat.zero_le _⟩
    split
    · exact ⟨Nat.zero_le _, Nat.zero_le _⟩
    split
    · exact ⟨Nat.zero_le _, Nat.zero_le _⟩
    · exact ⟨gOps_le _ _, Nat.zero_le _⟩

def n9 : En := ⟨9, 0, 0, 0, [], [], 0, 0, [], 0, ⟨#[]⟩, 2, 0⟩
theorem n9_right : n9.Right := by
  have h0 : whole 0 := ⟨by decide, by decide⟩
  exact ⟨⟨by decide, by decide⟩, h0, h0, h0, (fun o h => by cases h), by decide, (fun x h => by cases h), by decide, h0, h0, (fun n h => by cases h), by decide, ⟨by decide, by decide⟩, by decide, ⟨by decide, by decide⟩, ⟨by decide, by decide⟩⟩
theorem n9_enc : n9.encL = [9, 2] := by
  have h : numL 2 = [2] := by have := numL_small (n := 2) (by decide); exact this
  simp [En.encL, En.body, n9, En.b9, wholeL, h]
theorem n9_dec : dEr [9, 2] = 0 ∧ dEn [9, 2] = n9 := by
  have h := en_back n9_right
  rw [n9_enc] at h
  exact ⟨h.1, h.2.trans (by simp [En.norm, n9])⟩

set_option maxHeartbeats 2000000 in
set_option maxRecDepth 100000 in
theorem nine_any (w : World) : Calls Try.prog 9 #[] w fun e w' => e = .returned (.bool true) ∧ Kept w w' [] := by
  have HD : RowKit.Hid (∀ v V, Rd V v [9, 2] → Calls Try.prog 14 #[v] V fun en w' => ∃ ao ao1 ae ae1 ai ai1, en = .returned (.tuple #[.agg #[.int .u8 9, .int .i64 0, .int .i64 0, .int .i64 0, .slice ao 0 ao1, .slice ae 0 ae1, .int .i64 0, .int .i64 0, .slice ai 0 ai1, .int .i64 0, .string ⟨#[]⟩, .int .i64 2, .int .i64 0], .int .i64 0]) ∧ RdN w' n9 (.slice ao 0 ao1) (.slice ae 0 ae1) (.slice ai 0 ai1) ∧ Kept V w' []) := Lib.hid (fun v V h => (edecode_any v [9, 2] V h (by decide)).mono (by
    rintro e w' ⟨vo, ve, vi, rfl, r, k, _⟩
    rw [n9_dec.1, n9_dec.2]
    rw [n9_dec.2] at r
    obtain ⟨ao, ao1, rfl⟩ := r.ro.shape
    obtain ⟨ae, ae1, rfl⟩ := r.re.shape
    obtain ⟨ai, ai1, e1, _⟩ := id r.ri
    subst e1
    exact ⟨ao, ao1, ae, ae1, ai, ai1, rfl, r, k⟩))
  have HE : RowKit.Hid (∀ V, Calls Try.prog 12 #[.agg #[.int .u8 9, .int .i64 0, .int .i64 0, .int .i64 0, .slice none 0 0, .slice none 0 0, .int .i64 0, .int .i64 0, .slice none 0 0, .int .i64 0, .string ⟨#[]⟩, .int .i64 2, .int .i64 0]] V fun en w' => ∃ v', en = .returned v' ∧ Own w' V.heap.size 5 v' [9, 2] ∧ Kept V w' []) := Lib.hid (fun V => by
    have := eencode_any n9 (.slice none 0 0) (.slice none 0 0) (.slice none 0 0) V n9_right (RdN.nil V rfl rfl rfl) (fun b h => by simp [Value.ownBlock] at h) (fun b h => by simp [Value.ownBlock] at h) (fun b h => by simp [Value.ownBlock] at h)
    rw [n9_enc] at this
    exact this)
  have HS : RowKit.Hid (∀ V ao ao1 ae ae1 ai ai1, RdN V n9 (.slice ao 0 ao1) (.slice ae 0 ae1) (.slice ai 0 ai1) → Calls Try.prog 18 #[.agg #[.int .u8 9, .int .i64 0, .int .i64 0, .int .i64 0, .slice ao 0 ao1, .slice ae 0 ae1, .int .i64 0, .int .i64 0, .slice ai 0 ai1, .int .i64 0, .string ⟨#[]⟩, .int .i64 2, .int .i64 0], .agg #[.int .u8 9, .int .i64 0, .int .i64 0, .int .i64 0, .slice none 0 0, .slice none 0 0, .int .i64 0, .int .i64 0, .slice none 0 0, .int .i64 0, .string ⟨#[]⟩, .int .i64 2, .int .i64 0]] V fun e w' => e = .returned (.bool true) ∧ Kept V w' []) := Lib.hid (fun V ao ao1 ae ae1 ai ai1 h => EqP.ye (w := V) (esame_any n9 n9 (.slice ao 0 ao1) (.slice ae 0 ae1) (.slice ai 0 ai1) (.slice none 0 0) (.slice none 0 0) (.slice none 0 0) V h (RdN.nil V rfl rfl rfl) ⟨by decide, by decide⟩ ⟨by decide, by decide⟩) rfl)
  have R0 : Rd ((w.alloc (.cells #[.int .u8 9, .int .i64 0, .int .i64 0, .int .i64 0, .slice none 0 0, .slice none 0 0, .int .i64 0, .int .i64 0, .slice none 0 0, .int .i64 0, .string ⟨#[]⟩, .int .i64 2, .int .i64 0] 41)).alloc (.cells #[.int .u8 9, .int .u8 2] 5)) (.slice (some ⟨w.heap.size + 1, 0, none⟩) 2 2) [9, 2] := by
    have := rd_lit (w.alloc (.cells #[.int .u8 9, .int .i64 0, .int .i64 0, .int .i64 0, .slice none 0 0, .slice none 0 0, .int .i64 0, .int .i64 0, .slice none 0 0, .int .i64 0, .string ⟨#[]⟩, .int .i64 2, .int .i64 0] 41)) [9, 2] #[.int .u8 9, .int .u8 2] 5 2 rfl rfl
    simpa using this
  go_enter Try.func9, Try.ntmps9
  go_wp2_with fail
  refine (HD.out _ _ R0).mono ?_
  rintro e w1 ⟨ao, ao1, ae, ae1, ai, ai1, rfl, r1, k1⟩
  have B1 : w1.heap[w.heap.size]? = some (.cells #[.int .u8 9, .int .i64 0, .int .i64 0, .int .i64 0, .slice none 0 0, .slice none 0 0, .int .i64 0, .int .i64 0, .slice none 0 0, .int .i64 0, .string ⟨#[]⟩, .int .i64 2, .int .i64 0] 41 (0, 0)) := k1.heap (by simp) (((Kept.refl _ []).alloc _).heap (by simp) (heap_alloc_new w _))
  have K1 := Lib.hid ((((Kept.refl w []).alloc _).alloc _).trans k1 (by simp))
  have R1 := Lib.hid r1
  have HB1 := Lib.hid B1
  have hlt : w.heap.size < w1.heap.size := (Array.getElem?_eq_some_iff.1 B1).1
  have C1 := fun j => cell_of_row w1 w.heap.size j _ _ _ B1
  have a0 := C1 0
  have a1 := C1 1
  have a2 := C1 2
  have a3 := C1 3
  have a4 := C1 4
  have a5 := C1 5
  have a6 := C1 6
  have a7 := C1 7
  have a8 := C1 8
  have a9 := C1 9
  have a10 := C1 10
  have a11 := C1 11
  have a12 := C1 12
  simp at a0 a1 a2 a3 a4 a5 a6 a7 a8 a9 a10 a11 a12
  clear k1 B1 R0 C1 r1
  go_wp2_with fail
  refine (HE.out _).mono ?_
  rintro e w2 ⟨v2, rfl, o2, k2⟩
  have B2 : w2.heap[w.heap.size]? = some (.cells #[.int .u8 9, .int .i64 0, .int .i64 0, .int .i64 0, .slice none 0 0, .slice none 0 0, .int .i64 0, .int .i64 0, .slice none 0 0, .int .i64 0, .string ⟨#[]⟩, .int .i64 2, .int .i64 0] 41 (0, 0)) := k2.heap (by simp) (((Kept.refl w1 []).alloc _).heap (by simp) HB1.out)
  have B3 : w2.heap[w1.heap.size]? = some (.cells #[.int .u8 9, .int .i64 0, .int .i64 0, .int .i64 0, .slice ao 0 ao1, .slice ae 0 ae1, .int .i64 0, .int .i64 0, .slice ai 0 ai1, .int .i64 0, .string ⟨#[]⟩, .int .i64 2, .int .i64 0] 41 (0, 0)) := k2.heap (by simp) (heap_alloc_new w1 _)
  have K2 := Lib.hid ((K1.out.alloc _).trans k2 (by simp))
  have R2 := Lib.hid (R1.out.keep (((Kept.refl w1 []).alloc _).trans k2 (by simp)))
  have O2 := Lib.hid o2; have HB2 := Lib.hid B2; have HB3 := Lib.hid B3
  clear a0 a1 a2 a3 a4 a5 a6 a7 a8 a9 a10 a11 a12 o2 k2 B2 B3
  go_wp2_with fail
  refine (alike_any v2 _ _ [9, 2] _ ((O2.out.rd).kept ((Kept.refl w2 []).alloc _) (by simp)) (rd_lit w2 [9, 2] _ _ 2 rfl rfl) (by decide)).mono ?_
  rintro e w3 ⟨rfl, k3⟩
  have K3 := Lib.hid ((K2.out.alloc _).trans k3 (by simp))
  have R3 := Lib.hid (R2.out.keep (((Kept.refl w2 []).alloc _).trans k3 (by simp)))
  have B2 := k3.heap (by simp) (((Kept.refl w2 []).alloc (.cells #[.int .u8 9, .int .u8 2] 5)).heap (by simp) HB2.out)
  have B3 := k3.heap (by simp) (((Kept.refl w2 []).alloc (.cells #[.int .u8 9, .int .u8 2] 5)).heap (by simp) HB3.out)
  have C1 := fun j => cell_of_row w3 w.heap.size j _ _ _ B2
  have C2 := fun j => cell_of_row w3 w1.heap.size j _ _ _ B3
  have a0 := C1 0
  have a1 := C1 1
  have a2 := C1 2
  have a3 := C1 3
  have a4 := C1 4
  have a5 := C1 5
  have a6 := C1 6
  have a7 := C1 7
  have a8 := C1 8
  have a9 := C1 9
  have a10 := C1 10
  have a11 := C1 11
  have a12 := C1 12
  simp at a0 a1 a2 a3 a4 a5 a6 a7 a8 a9 a10 a11 a12
  have b0 := C2 0
  have b1 := C2 1
  have b2 := C2 2
  have b3 := C2 3
  have b4 := C2 4
  have b5 := C2 5
  have b6 := C2 6
  have b7 := C2 7
  have b8 := C2 8
  have b9 := C2 9
  have b10 := C2 10
  have b11 := C2 11
  have b12 := C2 12
  simp at b0 b1 b2 b3 b4 b5 b6 b7 b8 b9 b10 b11 b12
  clear k3 B2 B3 C1 C2
  have x1 : (([9, 2] : List UInt8) == [9, 2]) = true := by decide
  go_wp2_with fail
  refine (HS.out _ _ _ _ _ _ _ R3.out).mono ?_
  rintro e w4 ⟨rfl, k4⟩
  have K4 := Lib.hid (K3.out.trans k4 (by simp))
  clear k4
  go_wp2
  go_ret
  exact ⟨rfl, K4.out⟩

end Go.Proofs.Ytjdbmlifekghfaa

namespace Go.Proofs.Ytjdbmlifekghfaa
set_option linter.unusedVariables false
open Go.RowKit

set_option maxHeartbeats 4000000 in
set_option maxRecDepth 100000 in
theorem reads_any (v : Value) (l : List UInt8) (w : World) (h : Rd w v l) (hl : l.length ≤ 1000000000) :
    Calls Try.prog 21 #[v] w fun e w' => e = .returned (.bool true) ∧ Kept w w' [] := by
  obtain ⟨hs1, hs2⟩ := dEn_small l
  have HD0 : ∀ v V, Rd V v l → Calls Try.prog 14 #[v] V fun en w' => DPost l V en w' := fun v V h => edecode_any v l V h hl
  have HF0 : ∀ v V, Rd V v l → Calls Try.prog 15 #[v] V fun en w' => DPost l V en w' := fun v V h => rdecode_any v l V h hl
  have DP : ∀ V en w', DPost l V en w' → ∃ vo ve vi, en = .returned (.tuple #[.agg ((dEn l).cs vo ve vi), .int .i64 (dEr l)]) ∧ RdN w' (dEn l) vo ve vi ∧ Kept V w' [] := by
    rintro V en w' ⟨vo, ve, vi, he, r, k, _⟩
    exact ⟨vo, ve, vi, he, r, k⟩
  obtain ⟨x, hx⟩ : ∃ x, x = dEr l := ⟨_, rfl⟩
  obtain ⟨E, hE⟩ : ∃ E, E = dEn l := ⟨_, rfl⟩
  rw [← hx, ← hE] at DP
  rw [← hE] at hs1 hs2
  obtain ⟨k, tx, nx, id1, ops, evs, tn, tm, op, ta, nm, n, at1⟩ := E
  have DQ : ∀ V en w', DPost l V en w' → ∃ ao ao1 ae ae1 ai ai1, en = .returned (.tuple #[.agg #[.int .u8 k, .int .i64 tx, .int .i64 nx, .int .i64 id1, .slice ao ops.length ao1, .slice ae evs.length ae1, .int .i64 tn, .int .i64 tm, .slice ai op.length ai1, .int .i64 ta, .string nm, .int .i64 n, .int .i64 at1], .int .i64 x]) ∧ RdN w' (⟨k, tx, nx, id1, ops, evs, tn, tm, op, ta, nm, n, at1⟩ : En) (.slice ao ops.length ao1) (.slice ae evs.length ae1) (.slice ai op.length ai1) ∧ Kept V w' [] := by
    intro V en w' hp
    obtain ⟨vo, ve, vi, rfl, r, k⟩ := DP V en w' hp
    obtain ⟨ao, ao1, rfl⟩ := r.ro.shape
    obtain ⟨ae, ae1, rfl⟩ := r.re.shape
    obtain ⟨ai, ai1, e1, _⟩ := id r.ri
    subst e1
    exact ⟨ao, ao1, ae, ae1, ai, ai1, rfl, r, k⟩
  have HD := Lib.hid (fun v V h => (HD0 v V h).mono (DQ V))
  have HF := Lib.hid (fun v V h => (HF0 v V h).mono (DQ V))
  have HB : RowKit.Hid (∀ ao ao1 ae ae1 ai ai1 V, RdN V (⟨k, tx, nx, id1, ops, evs, tn, tm, op, ta, nm, n, at1⟩ : En) (.slice ao ops.length ao1) (.slice ae evs.length ae1) (.slice ai op.length ai1) → Calls Try.prog 20 #[.agg #[.int .u8 k, .int .i64 tx, .int .i64 nx, .int .i64 id1, .slice ao ops.length ao1, .slice ae evs.length ae1, .int .i64 tn, .int .i64 tm, .slice ai op.length ai1, .int .i64 ta, .string nm, .int .i64 n, .int .i64 at1]] V fun en w' => ∃ vo ve, en = .returned (.agg #[.int .u8 k, .int .i64 tx, .int .i64 nx, .int .i64 id1, vo, ve, .int .i64 tn, .int .i64 tm, .slice ai op.length ai1, .int .i64 ta, .string nm, .int .i64 n, .int .i64 at1]) ∧ RdN w' (⟨k, tx, nx, id1, ops, evs, tn, tm, op, ta, nm, n, at1⟩ : En) vo ve (.slice ai op.length ai1) ∧ Kept V w' []) := Lib.hid (fun ao ao1 ae ae1 ai ai1 V r => (back_ops (rd := r) (hl := Nat.le_trans hs1 (by decide)) (hle := Nat.le_trans hs2 (by decide))).mono (by
    rintro e w' ⟨vo, ve, rfl, o1, o2, k⟩
    exact ⟨vo, ve, rfl, ⟨o1.rd, o2.rd, r.ri.keep k⟩, k⟩))
  have HS : RowKit.Hid (∀ V vo ve vi ap bp cp, RdN V (⟨k, tx, nx, id1, ops, evs, tn, tm, op, ta, nm, n, at1⟩ : En) vo ve vi → RdN V (⟨k, tx, nx, id1, ops, evs, tn, tm, op, ta, nm, n, at1⟩ : En) ap bp cp → Calls Try.prog 19 #[.agg #[.int .u8 k, .int .i64 tx, .int .i64 nx, .int .i64 id1, vo, ve, .int .i64 tn, .int .i64 tm, vi, .int .i64 ta, .string nm, .int .i64 n, .int .i64 at1], .agg #[.int .u8 k, .int .i64 tx, .int .i64 nx, .int .i64 id1, ap, bp, .int .i64 tn, .int .i64 tm, cp, .int .i64 ta, .string nm, .int .i64 n, .int .i64 at1]] V fun e w' => e = .returned (.bool true) ∧ Kept V w' []) := Lib.hid (fun V vo ve vi ap bp cp r1 r2 => EqP.ye (w := V) (rsame_any (⟨k, tx, nx, id1, ops, evs, tn, tm, op, ta, nm, n, at1⟩ : En) (⟨k, tx, nx, id1, ops, evs, tn, tm, op, ta, nm, n, at1⟩ : En) vo ve vi ap bp cp V r1 r2 ⟨Nat.le_trans hs1 (by decide), Nat.le_trans hs2 (by decide)⟩) rfl)
  have R := Lib.hid h
  clear hE hx hs1 hs2 h DQ DP HD0 HF0
  go_enter Try.func21, Try.ntmps21
  go_wp2_with fail
  refine (HD.out _ _ R.out).mono ?_
  rintro e w1 ⟨ao, ao1, ae, ae1, ai, ai1, rfl, r1, k1⟩
  have R1 := Lib.hid r1; have K1 := Lib.hid k1
  clear r1 k1
  go_wp2_with fail
  refine (HF.out _ _ (R.out.kept (K1.out.alloc _) (by simp))).mono ?_
  rintro e w2 ⟨bo, bo1, be, be1, bi, bi1, rfl, r2, k2⟩
  have R2 := Lib.hid r2; have K2 := Lib.hid k2
  clear r2 k2
  go_upto_region 3 with fail
  obtain ⟨W3, hW3⟩ : ∃ W3, W3 = w2.alloc (.cells #[.int .u8 k, .int .i64 tx, .int .i64 nx, .int .i64 id1, .slice bo ops.length bo1, .slice be evs.length be1, .int .i64 tn, .int .i64 tm, .slice bi op.length bi1, .int .i64 ta, .string nm, .int .i64 n, .int .i64 at1] 35) := ⟨_, rfl⟩
  have K3 : RowKit.Hid (Kept w W3 []) := Lib.hid (by rw [hW3]; exact ((K1.out.alloc _).trans K2.out (by simp)).alloc _)
  have B1 : RowKit.Hid (W3.heap[w1.heap.size]? = some (.cells #[.int .u8 k, .int .i64 tx, .int .i64 nx, .int .i64 id1, .slice ao ops.length ao1, .slice ae evs.length ae1, .int .i64 tn, .int .i64 tm, .slice ai op.length ai1, .int .i64 ta, .string nm, .int .i64 n, .int .i64 at1] 41 (0, 0))) := Lib.hid (by rw [hW3]; exact (K2.out.alloc _).heap (by simp) (heap_alloc_new w1 _))
  have B2 : RowKit.Hid (W3.heap[w2.heap.size]? = some (.cells #[.int .u8 k, .int .i64 tx, .int .i64 nx, .int .i64 id1, .slice bo ops.length bo1, .slice be evs.length be1, .int .i64 tn, .int .i64 tm, .slice bi op.length bi1, .int .i64 ta, .string nm, .int .i64 n, .int .i64 at1] 35 (0, 0))) := Lib.hid (by rw [hW3]; exact heap_alloc_new w2 _)
  have RA : RowKit.Hid (∀ Z, Kept W3 Z [] → RdN Z (⟨k, tx, nx, id1, ops, evs, tn, tm, op, ta, nm, n, at1⟩ : En) (.slice ao ops.length ao1) (.slice ae evs.length ae1) (.slice ai op.length ai1)) := Lib.hid (fun Z hZ => R1.out.keep (((((Kept.refl w1 []).alloc _).trans K2.out (by simp)).alloc _).trans (by rw [← hW3]; exact hZ) (by simp)))
  have RB : RowKit.Hid (∀ Z, Kept W3 Z [] → RdN Z (⟨k, tx, nx, id1, ops, evs, tn, tm, op, ta, nm, n, at1⟩ : En) (.slice bo ops.length bo1) (.slice be evs.length be1) (.slice bi op.length bi1)) := Lib.hid (fun Z hZ => R2.out.keep (((Kept.refl w2 []).alloc _).trans (by rw [← hW3]; exact hZ) (by simp)))
  rw [← hW3]
  clear hW3
  refine wp_region_held_drew (S := fun Z => Kept W3 Z []) (by kernel_rfl) ((Kept.refl W3 []).drew) (fun hHeld => ?_)
  refine wpAnyH_take (i := 0) (oi := _) (v := .int .i64 x) rfl (by kernel_rfl) (by kernel_rfl) (by kernel_rfl) (fun _ _ _ h => h) (Or.inl ⟨by rfl, fun V hV => by go_simp⟩) hHeld ?_
  change wpAnyH _ _ _ _ _ _ _ (Act.put _ (some 17) _) _
  simp only [Act.put, List.setIfInBounds_toArray, List.set_cons_zero, List.set_cons_succ]
  refine wpAnyH_take (i := 1) (oi := _) (v := .int .i64 x) rfl (by kernel_rfl) (by kernel_rfl) (by kernel_rfl) (fun _ _ _ h => h) (Or.inl ⟨by rfl, fun V hV => by go_simp⟩) hHeld ?_
  change wpAnyH _ _ _ _ _ _ _ (Act.put _ (some 18) _) _
  simp only [Act.put, List.setIfInBounds_toArray, List.set_cons_zero, List.set_cons_succ]
  refine wpAnyH_take (i := 2) (oi := _) (v := .bool true) rfl (by kernel_rfl) (by kernel_rfl) (by kernel_rfl) (fun _ _ _ h => h) (Or.inl ⟨by rfl, fun V hV => by go_simp⟩) hHeld ?_
  change wpAnyH _ _ _ _ _ _ _ (Act.put _ (some 19) _) _
  simp only [Act.put, List.setIfInBounds_toArray, List.set_cons_zero, List.set_cons_succ]
  refine wpAnyH_take (i := 3) (oi := _) (v := .bool true) rfl (by kernel_rfl) (by kernel_rfl) (by kernel_rfl) (fun _ _ _ h => h) (Or.inl ⟨by rfl, fun V hV => by go_simp⟩) hHeld ?_
  change wpAnyH _ _ _ _ _ _ _ (Act.put _ (some 20) _) _
  simp only [Act.put, List.setIfInBounds_toArray, List.set_cons_zero, List.set_cons_succ]
  refine wpAnyH_take (i := 4) (oi := _) (v := .agg #[.int .u8 k, .int .i64 tx, .int .i64 nx, .int .i64 id1, .slice ao ops.length ao1, .slice ae evs.length ae1, .int .i64 tn, .int .i64 tm, .slice ai op.length ai1, .int .i64 ta, .string nm, .int .i64 n, .int .i64 at1]) rfl (by kernel_rfl) (by kernel_rfl) (by kernel_rfl) (fun _ _ _ h => h) (Or.inl ⟨by rfl, fun V hV => by (have hh := hV.heap (by simp) B1.out; have q0 := cell_of_row V _ 0 _ _ _ hh; have q1 := cell_of_row V _ 1 _ _ _ hh; have q2 := cell_of_row V _ 2 _ _ _ hh; have q3 := cell_of_row V _ 3 _ _ _ hh; have q4 := cell_of_row V _ 4 _ _ _ hh; have q5 := cell_of_row V _ 5 _ _ _ hh; have q6 := cell_of_row V _ 6 _ _ _ hh; have q7 := cell_of_row V _ 7 _ _ _ hh; have q8 := cell_of_row V _ 8 _ _ _ hh; have q9 := cell_of_row V _ 9 _ _ _ hh; have q10 := cell_of_row V _ 10 _ _ _ hh; have q11 := cell_of_row V _ 11 _ _ _ hh; have q12 := cell_of_row V _ 12 _ _ _ hh; clear hV hh; simp only [List.getElem?_toArray, List.getElem?_cons_zero, List.getElem?_cons_succ] at q0 q1 q2 q3 q4 q5 q6 q7 q8 q9 q10 q11 q12; go_simp)⟩) hHeld ?_
  change wpAnyH _ _ _ _ _ _ _ (Act.put _ (some 21) _) _
  simp only [Act.put, List.setIfInBounds_toArray, List.set_cons_zero, List.set_cons_succ]
  refine wpAnyH_take (i := 6) (oi := _) (v := .agg #[.int .u8 k, .int .i64 tx, .int .i64 nx, .int .i64 id1, .slice bo ops.length bo1, .slice be evs.length be1, .int .i64 tn, .int .i64 tm, .slice bi op.length bi1, .int .i64 ta, .string nm, .int .i64 n, .int .i64 at1]) rfl (by kernel_rfl) (by kernel_rfl) (by kernel_rfl) (fun _ _ _ h => h) (Or.inl ⟨by rfl, fun V hV => by (have hh := hV.heap (by simp) B2.out; have q0 := cell_of_row V _ 0 _ _ _ hh; have q1 := cell_of_row V _ 1 _ _ _ hh; have q2 := cell_of_row V _ 2 _ _ _ hh; have q3 := cell_of_row V _ 3 _ _ _ hh; have q4 := cell_of_row V _ 4 _ _ _ hh; have q5 := cell_of_row V _ 5 _ _ _ hh; have q6 := cell_of_row V _ 6 _ _ _ hh; have q7 := cell_of_row V _ 7 _ _ _ hh; have q8 := cell_of_row V _ 8 _ _ _ hh; have q9 := cell_of_row V _ 9 _ _ _ hh; have q10 := cell_of_row V _ 10 _ _ _ hh; have q11 := cell_of_row V _ 11 _ _ _ hh; have q12 := cell_of_row V _ 12 _ _ _ hh; clear hV hh; simp only [List.getElem?_toArray, List.getElem?_cons_zero, List.getElem?_cons_succ] at q0 q1 q2 q3 q4 q5 q6 q7 q8 q9 q10 q11 q12; go_simp)⟩) hHeld ?_
  change wpAnyH _ _ _ _ _ _ _ (Act.put _ (some 23) _) _
  simp only [Act.put, List.setIfInBounds_toArray, List.set_cons_zero, List.set_cons_succ]
  refine wpAnyH_ready (rs := [5]) (by kernel_rfl) (by simp) ?_
  refine AllReadyH.cons (o := _) rfl (fun K hK => ?_) AllReadyH.nil
  go_simp
  go_at_call 20
  refine (HB.out _ _ _ _ _ _ _ (RA.out _ (Kept.refl W3 []).drew)).mono ?_
  rintro e w4 ⟨vo, ve, rfl, r4, k4⟩
  have k4 := ((Kept.refl W3 []).drew).trans k4 (by simp)
  go_wp2_with fail
  refine hK.out _ _ k4 (fun hHeld => ?_)
  clear hK K
  refine wpAnyH_ready (rs := [7]) (by kernel_rfl) (by simp) ?_
  refine AllReadyH.cons (o := _) rfl (fun K hK => ?_) AllReadyH.nil
  go_simp
  go_at_call 19
  refine (HS.out _ _ _ _ _ _ _ r4 (RB.out _ k4)).mono ?_
  rintro e w5 ⟨rfl, k5⟩
  have k5 := k4.trans k5 (by simp)
  clear r4 k4
  go_wp2_with fail
  refine hK.out _ _ k5 (fun hHeld => ?_)
  clear hK K
  refine wpAnyH_take (i := 8) (oi := _) (v := .bool true) rfl (by kernel_rfl) (by kernel_rfl) (by kernel_rfl) (fun _ _ _ h => h) (Or.inl ⟨by rfl, fun V hV => by go_simp⟩) hHeld ?_
  change wpAnyH _ _ _ _ _ _ _ (Act.put _ (some 25) _) _
  simp only [Act.put, List.setIfInBounds_toArray, List.set_cons_zero, List.set_cons_succ]
  refine wpAnyH_take (i := 9) (oi := _) (v := .bool true) rfl (by kernel_rfl) (by kernel_rfl) (by kernel_rfl) (fun _ _ _ h => h) (Or.inl ⟨by rfl, fun V hV => by go_simp⟩) hHeld ?_
  change wpAnyH _ _ _ _ _ _ _ (Act.put _ (some 2) _) _
  simp only [Act.put, List.setIfInBounds_toArray, List.set_cons_zero, List.set_cons_succ]
  refine wpAnyH_done (by kernel_rfl) ?_ _
  have K5 := Lib.hid k5
  clear k5 hHeld
  go_wp2
  go_ret
  exact ⟨rfl, K3.out.trans K5.out (by simp)⟩

end Go.Proofs.Ytjdbmlifekghfaa
