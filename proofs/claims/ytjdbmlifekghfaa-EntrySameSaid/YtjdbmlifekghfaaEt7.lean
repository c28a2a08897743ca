/-
  Ek in one text.
-/
import Derived.Test.YtjdbmlifekghfaaEt0
import Derived.Test.YtjdbmlifekghfaaEt6
import Derived.Laws.Bits128
set_option linter.unusedVariables false
set_option maxHeartbeats 16000000
set_option maxRecDepth 100000
namespace Go.Proofs.Ytjdbmlifekghfaa
open Go.RowKit
theorem i64_mask (n m : Int) (k : Nat) (hk : k <= 62) (hm : m = ((2 ^ k - 1 : Nat) : Int)) : bits .and .i64 n m = n % ((2 ^ k : Nat) : Int) := by
 subst hm
 have hp : (2 : Nat) ^ k <= 2 ^ 62 := Nat.pow_le_pow_right (by decide) hk
 have h0 : 0 < (2 : Nat) ^ k := Nat.two_pow_pos k
 have hx : (2 : Nat) ^ k ∣ 2 ^ 64 := Nat.pow_dvd_pow 2 (by omega)
 have h1 : (BitVec.ofInt 64 ((2 ^ k - 1 : Nat) : Int)).toNat = 2 ^ k - 1 := by
  rw [BitVec.ofInt_natCast, BitVec.toNat_ofNat]
  omega
 have key : (BitVec.ofInt 64 n &&& BitVec.ofInt 64 ((2 ^ k - 1 : Nat) : Int)).toNat = (n % ((2 ^ 64 : Nat) : Int)).toNat % 2 ^ k := by
  rw [BitVec.toNat_and, BitVec.toNat_ofInt, h1, Nat.and_two_pow_sub_one_eq_mod]
 show IntKind.i64.wrap ((BitVec.ofInt 64 n &&& BitVec.ofInt 64 ((2 ^ k - 1 : Nat) : Int)).toNat : Nat) = _
 rw [key, IntKind.wrap_i64]
 have e : (((n % ((2 ^ 64 : Nat) : Int)).toNat % 2 ^ k : Nat) : Int) = n % ((2 ^ k : Nat) : Int) := by
  rw [Int.natCast_emod, Int.toNat_of_nonneg (Int.emod_nonneg _ (by decide))]
  exact Int.emod_emod_of_dvd n (by exact_mod_cast hx)
 rw [e]
 have h2 := Int.emod_nonneg n (show ((2 ^ k : Nat) : Int) ≠ 0 by omega)
 have h3 := Int.emod_lt_of_pos n (show (0 : Int) < ((2 ^ k : Nat) : Int) by omega)
 omega
def cutS (s : ByteArray) : ByteArray := if 40 < s.size then s.extract 0 40 else s
theorem xq8 (s : ByteArray) : (cutS s).size <= 40 := by
 unfold cutS
 split
 ·rw [ByteArray.size_extract]; first | done | omega
 omega
theorem cut_any (s : ByteArray) (w : World) : Calls Try.prog 23 #[.string s, .int .i64 40] w fun e w' => e = .returned (.string (cutS s)) /\ w = w' := by
 by_cases h : 40 < s.size
 ·have x1 : (40 : Int) < (s.size : Int) := by omega
  have x2 : (40 : Int) <= (s.size : Int) := by omega
  have HX : RowKit.Hid (cutS s = s.extract 0 40) := iH (by rw [cutS, if_pos h])
  clear h
  go_enter Try.func23, Try.ntmps23
  go_wp2
  go_ret
  exact ⟨ret_str (by rw [HX.out]), rfl⟩
 have x1 : ¬ (40 : Int) < (s.size : Int) := by omega
 have HX : RowKit.Hid (cutS s = s) := iH (by rw [cutS, if_neg h])
 clear h
 go_enter Try.func23, Try.ntmps23
 go_wp2
 go_ret
 exact ⟨ret_str HX.out.symm, rfl⟩
def ofE (id tx : Int) (ow : ByteArray) (tr tb kd key : Int) (t : ByteArray) : Ev :=
 ⟨if id < 1 then 1 + id % 1024 else id, if tx < 1 then 1 + tx % 16 else tx, cutS ow, tr % 2147483648, tb % 4, 1 + kd % 4, key, cutS t⟩
theorem ofE_right (id tx : Int) (ow : ByteArray) (tr tb kd key : Int) (t : ByteArray) : (ofE id tx ow tr tb kd key t).Right := by
 refine ⟨?_, ?_, xq8 _, xq8 _, ?_, ?_, ?_⟩
 ·unfold ofE; dsimp only; split <;> omega
 ·unfold ofE; dsimp only; split <;> omega
 ·unfold ofE; dsimp only; omega
 ·unfold ofE; dsimp only; omega
 unfold ofE; dsimp only; omega
theorem ofE_ok {id tx : Int} {ow : ByteArray} {tr tb kd key : Int} {t : ByteArray} (h1 : id <= 9223372036854775807) (h2 : tx <= 9223372036854775807) (h3 : -9223372036854775808 <= key /\ key <= 9223372036854775807) : (ofE id tx ow tr tb kd key t).Ok := by
 have a1 := xq8 ow
 have a2 := xq8 t
 refine ⟨?_, ?_, ?_, ?_, ?_, h3, by show (cutS ow).size <= _; omega, by show (cutS t).size <= _; omega⟩
 ·unfold ofE; dsimp only; split <;> omega
 ·unfold ofE; dsimp only; split <;> omega
 ·unfold ofE; dsimp only; omega
 ·unfold ofE; dsimp only; omega
 unfold ofE; dsimp only; omega
theorem of_any (id tx : Int) (ow : ByteArray) (tr tb kd key : Int) (t : ByteArray) (w : World) (hkd : 0 <= kd /\ kd <= 255) (htb : 0 <= tb /\ tb <= 255) :
  Calls Try.prog 24 #[.int .i64 id, .int .i64 tx, .string ow, .int .i64 tr, .int .u8 tb, .int .u8 kd, .agg #[.int .i64 key, .string t]] w fun e w' => e = .returned (.agg (ofE id tx ow tr tb kd key t).cs) /\ Kept w w' [] := by
 have m1 : bits .and .i64 id 1023 = id % 1024 := i64_mask id 1023 10 (by decide) rfl
 have m2 : bits .and .i64 tx 15 = tx % 16 := i64_mask tx 15 4 (by decide) rfl
 have m3 : bits .and .i64 tr 2147483647 = tr % 2147483648 := i64_mask tr 2147483647 31 (by decide) rfl
 have m4 : tb.tmod 4 = tb % 4 := Int.tmod_eq_emod_of_nonneg htb.1
 have m5 : kd.tmod 4 = kd % 4 := Int.tmod_eq_emod_of_nonneg hkd.1
 have m6 : IntKind.i64.wrap (tb % 4) = tb % 4 := by rw [IntKind.wrap_i64]; omega
 have m7 : IntKind.u8.wrap (1 + kd % 4) = 1 + kd % 4 := by rw [IntKind.wrap_u8]; omega
 have m8 : IntKind.u8.wrap (kd % 4) = kd % 4 := by rw [IntKind.wrap_u8]; omega
 have m9 : IntKind.u8.wrap (tb % 4) = tb % 4 := by rw [IntKind.wrap_u8]; omega
 have C1 := iH (fun V s => cut_any s V)
 obtain ⟨W1, hW1⟩ : ∃ W1, W1 = (w.alloc (.cells #[.int .i64 key, .string t] 59)).alloc (.cells #[.int .i64 0, .int .i64 0, .string ⟨#[]⟩, .int .i64 0, .int .i64 0, .int .u8 0, .int .i64 0, .string ⟨#[]⟩] 69) := ⟨_, rfl⟩
 have k1 : Kept w W1 [] := by rw [hW1]; exact ((Kept.refl w []).alloc _).alloc _
 have b1 : W1.heap[w.heap.size]? = some (.cells #[.int .i64 key, .string t] 59 (0, 0)) := by rw [hW1]; exact ((Kept.refl _ []).alloc _).heap (by simp) (heap_alloc_new w _)
 have b2 : W1.heap[w.heap.size + 1]? = some (.cells #[.int .i64 0, .int .i64 0, .string ⟨#[]⟩, .int .i64 0, .int .i64 0, .int .u8 0, .int .i64 0, .string ⟨#[]⟩] 69 (0, 0)) := by
  rw [hW1]
  simpa using heap_alloc_new (w.alloc (.cells #[.int .i64 key, .string t] 59)) (.cells #[.int .i64 0, .int .i64 0, .string ⟨#[]⟩, .int .i64 0, .int .i64 0, .int .u8 0, .int .i64 0, .string ⟨#[]⟩] 69)
 by_cases h1 : id < 1
 ·by_cases h2 : tx < 1
  ·skip
   have HE : RowKit.Hid ((ofE id tx ow tr tb kd key t).cs = #[.int .i64 (1 + id % 1024), .int .i64 (1 + tx % 16), .string (cutS ow), .int .i64 (tr % 2147483648), .int .i64 (tb % 4), .int .u8 (1 + kd % 4), .int .i64 key, .string (cutS t)]) := iH (by simp [ofE, Ev.cs, h1, h2])
   have y2 : W1.drew.cell? ⟨w.heap.size, 0, none⟩ = some (.int .i64 key) /\ W1.drew.cell? ⟨w.heap.size, 1, none⟩ = some (.string t) := ⟨by simpa using cell_of_row W1 w.heap.size 0 _ _ _ b1, by simpa using cell_of_row W1 w.heap.size 1 _ _ _ b1⟩
   have f0 := frozen_of_row W1 (w.heap.size + 1) 0 _ _ b2; have e0 : W1.cell? ⟨w.heap.size + 1, 0, none⟩ = some (.int .i64 0) := cell_of_row W1 (w.heap.size + 1) 0 _ _ _ b2; have g0 : W1.drew.frozen? ⟨w.heap.size + 1, 0, none⟩ = false := f0; have d0 : W1.drew.cell? ⟨w.heap.size + 1, 0, none⟩ = some (.int .i64 0) := e0
   have f1 := frozen_of_row W1 (w.heap.size + 1) 1 _ _ b2; have e1 : W1.cell? ⟨w.heap.size + 1, 1, none⟩ = some (.int .i64 0) := cell_of_row W1 (w.heap.size + 1) 1 _ _ _ b2; have g1 : W1.drew.frozen? ⟨w.heap.size + 1, 1, none⟩ = false := f1; have d1 : W1.drew.cell? ⟨w.heap.size + 1, 1, none⟩ = some (.int .i64 0) := e1
   have f2 := frozen_of_row W1 (w.heap.size + 1) 2 _ _ b2; have e2 : W1.cell? ⟨w.heap.size + 1, 2, none⟩ = some (.string ⟨#[]⟩) := cell_of_row W1 (w.heap.size + 1) 2 _ _ _ b2; have g2 : W1.drew.frozen? ⟨w.heap.size + 1, 2, none⟩ = false := f2; have d2 : W1.drew.cell? ⟨w.heap.size + 1, 2, none⟩ = some (.string ⟨#[]⟩) := e2
   have f3 := frozen_of_row W1 (w.heap.size + 1) 3 _ _ b2; have e3 : W1.cell? ⟨w.heap.size + 1, 3, none⟩ = some (.int .i64 0) := cell_of_row W1 (w.heap.size + 1) 3 _ _ _ b2; have g3 : W1.drew.frozen? ⟨w.heap.size + 1, 3, none⟩ = false := f3; have d3 : W1.drew.cell? ⟨w.heap.size + 1, 3, none⟩ = some (.int .i64 0) := e3
   have f4 := frozen_of_row W1 (w.heap.size + 1) 4 _ _ b2; have e4 : W1.cell? ⟨w.heap.size + 1, 4, none⟩ = some (.int .i64 0) := cell_of_row W1 (w.heap.size + 1) 4 _ _ _ b2; have g4 : W1.drew.frozen? ⟨w.heap.size + 1, 4, none⟩ = false := f4; have d4 : W1.drew.cell? ⟨w.heap.size + 1, 4, none⟩ = some (.int .i64 0) := e4
   have f5 := frozen_of_row W1 (w.heap.size + 1) 5 _ _ b2; have e5 : W1.cell? ⟨w.heap.size + 1, 5, none⟩ = some (.int .u8 0) := cell_of_row W1 (w.heap.size + 1) 5 _ _ _ b2; have g5 : W1.drew.frozen? ⟨w.heap.size + 1, 5, none⟩ = false := f5; have d5 : W1.drew.cell? ⟨w.heap.size + 1, 5, none⟩ = some (.int .u8 0) := e5
   have f6 := frozen_of_row W1 (w.heap.size + 1) 6 _ _ b2; have e6 : W1.cell? ⟨w.heap.size + 1, 6, none⟩ = some (.int .i64 0) := cell_of_row W1 (w.heap.size + 1) 6 _ _ _ b2; have g6 : W1.drew.frozen? ⟨w.heap.size + 1, 6, none⟩ = false := f6; have d6 : W1.drew.cell? ⟨w.heap.size + 1, 6, none⟩ = some (.int .i64 0) := e6
   have f7 := frozen_of_row W1 (w.heap.size + 1) 7 _ _ b2; have e7 : W1.cell? ⟨w.heap.size + 1, 7, none⟩ = some (.string ⟨#[]⟩) := cell_of_row W1 (w.heap.size + 1) 7 _ _ _ b2; have g7 : W1.drew.frozen? ⟨w.heap.size + 1, 7, none⟩ = false := f7; have d7 : W1.drew.cell? ⟨w.heap.size + 1, 7, none⟩ = some (.string ⟨#[]⟩) := e7
   have B2 := iH b2; have K1 := iH k1; have Y2 := iH y2
   clear b1 b2 k1
   go_enter Try.func24, Try.ntmps24
   go_wp2_with fail
   rw [<- hW1]
   clear hW1
   refine wp_region_held_drew (S := fun V => V.cell? ⟨w.heap.size, 0, none⟩ = some (.int .i64 key) /\ V.cell? ⟨w.heap.size, 1, none⟩ = some (.string t)) (by kernel_rfl) y2 (fun hJ => ?_)
   refine wx 0 25 (.int .i64 (1 + id % 1024)) rfl hJ ?_
   refine wx 1 26 (.int .i64 (1 + tx % 16)) rfl hJ ?_
   refine wx 2 27 (.string ow) rfl hJ ?_
   refine wx 4 29 (.int .i64 tr) rfl hJ ?_
   refine wx 5 30 (.int .i64 (tr % 2147483648)) rfl hJ ?_
   refine wx 6 31 (.int .u8 tb) rfl hJ ?_
   refine wx 7 32 (.int .u8 (tb % 4)) rfl hJ ?_
   refine wx 8 33 (.int .i64 (tb % 4)) rfl hJ ?_
   refine wx 9 34 (.int .u8 kd) rfl hJ ?_
   refine wx 10 35 (.int .u8 (kd % 4)) rfl hJ ?_
   refine wx 11 36 (.int .u8 (1 + kd % 4)) rfl hJ ?_
   refine wx 12 37 (.pointer (some ⟨w.heap.size, 0, none⟩)) rfl hJ ?_
   refine wx 13 38 (.int .i64 key) rfl hJ ?_ (hy := fun V hV => by (obtain ⟨q0, q1⟩ := hV; go_simp))
   refine wx 14 39 (.pointer (some ⟨w.heap.size, 1, none⟩)) rfl hJ ?_
   refine wx 15 40 (.string t) rfl hJ ?_ (hy := fun V hV => by (obtain ⟨q0, q1⟩ := hV; go_simp))
   refine wr1 3 rfl (fun K hK => ?_)
   go_simp
   go_at_call 23
   refine (C1.out _ _).mono ?_
   rintro en w8 ⟨rfl, rfl⟩
   go_wp2_with fail
   refine hK.out _ _ Y2.out (fun hJ => ?_)
   clear hK K
   refine wr1 16 rfl (fun K hK => ?_)
   go_simp
   go_at_call 23
   refine (C1.out _ _).mono ?_
   rintro en w8 ⟨rfl, rfl⟩
   go_wp2_with fail
   refine hK.out _ _ Y2.out (fun hJ => ?_)
   clear hK K
   refine wx 17 42 (.agg #[.int .i64 key, .string (cutS t)]) rfl hJ ?_
   refine wx 18 43 (.agg #[.int .i64 (1 + id % 1024), .int .i64 (1 + tx % 16), .string (cutS ow), .int .i64 (tr % 2147483648), .int .i64 (tb % 4), .int .u8 (1 + kd % 4), .int .i64 key, .string (cutS t)]) rfl hJ ?_
   refine wr1 19 rfl (fun K hK => ?_)
   go_simp
   obtain ⟨g8, k8⟩ := eight (p := w.heap.size + 1) B2.out (.int .i64 (1 + id % 1024)) (.int .i64 (1 + tx % 16)) (.string (cutS ow)) (.int .i64 (tr % 2147483648)) (.int .i64 (tb % 4)) (.int .u8 (1 + kd % 4)) (.int .i64 key) (.string (cutS t))
   have k9 := k8.drew
   have s0 : ((((((((W1.setCell ⟨w.heap.size + 1, 0, none⟩ (.int .i64 (1 + id % 1024))).setCell ⟨w.heap.size + 1, 1, none⟩ (.int .i64 (1 + tx % 16))).setCell ⟨w.heap.size + 1, 2, none⟩ (.string (cutS ow))).setCell ⟨w.heap.size + 1, 3, none⟩ (.int .i64 (tr % 2147483648))).setCell ⟨w.heap.size + 1, 4, none⟩ (.int .i64 (tb % 4))).setCell ⟨w.heap.size + 1, 5, none⟩ (.int .u8 (1 + kd % 4))).setCell ⟨w.heap.size + 1, 6, none⟩ (.int .i64 key)).setCell ⟨w.heap.size + 1, 7, none⟩ (.string (cutS t))).drew.cell? ⟨w.heap.size, 0, none⟩ = some (.int .i64 key) := k9.cell (by simp) Y2.out.1
   have s1 : ((((((((W1.setCell ⟨w.heap.size + 1, 0, none⟩ (.int .i64 (1 + id % 1024))).setCell ⟨w.heap.size + 1, 1, none⟩ (.int .i64 (1 + tx % 16))).setCell ⟨w.heap.size + 1, 2, none⟩ (.string (cutS ow))).setCell ⟨w.heap.size + 1, 3, none⟩ (.int .i64 (tr % 2147483648))).setCell ⟨w.heap.size + 1, 4, none⟩ (.int .i64 (tb % 4))).setCell ⟨w.heap.size + 1, 5, none⟩ (.int .u8 (1 + kd % 4))).setCell ⟨w.heap.size + 1, 6, none⟩ (.int .i64 key)).setCell ⟨w.heap.size + 1, 7, none⟩ (.string (cutS t))).drew.cell? ⟨w.heap.size, 1, none⟩ = some (.string t) := k9.cell (by simp) Y2.out.2
   have ss := And.intro s0 s1
   refine hK.out _ _ ss (fun hJ => ?_)
   clear hK K hJ ss s0 s1
   refine wd ?_
   have z0 := cell_of_row _ (w.heap.size + 1) 0 _ _ _ g8
   have z1 := cell_of_row _ (w.heap.size + 1) 1 _ _ _ g8
   have z2 := cell_of_row _ (w.heap.size + 1) 2 _ _ _ g8
   have z3 := cell_of_row _ (w.heap.size + 1) 3 _ _ _ g8
   have z4 := cell_of_row _ (w.heap.size + 1) 4 _ _ _ g8
   have z5 := cell_of_row _ (w.heap.size + 1) 5 _ _ _ g8
   have z6 := cell_of_row _ (w.heap.size + 1) 6 _ _ _ g8
   have z7 := cell_of_row _ (w.heap.size + 1) 7 _ _ _ g8
   simp at z0 z1 z2 z3 z4 z5 z6 z7
   go_wp2
   refine bodyPost_ret (v := .agg #[.int .i64 (1 + id % 1024), .int .i64 (1 + tx % 16), .string (cutS ow), .int .i64 (tr % 2147483648), .int .i64 (tb % 4), .int .u8 (1 + kd % 4), .int .i64 key, .string (cutS t)]) (by simp [results, Try.results24, go_sem, z0, z1, z2, z3, z4, z5, z6, z7]) rfl ?_
   exact ⟨by rw [HE.out], K1.out.trans k9 (by simp)⟩
  skip
  have HE : RowKit.Hid ((ofE id tx ow tr tb kd key t).cs = #[.int .i64 (1 + id % 1024), .int .i64 tx, .string (cutS ow), .int .i64 (tr % 2147483648), .int .i64 (tb % 4), .int .u8 (1 + kd % 4), .int .i64 key, .string (cutS t)]) := iH (by simp [ofE, Ev.cs, h1, h2])
  have y2 : W1.drew.cell? ⟨w.heap.size, 0, none⟩ = some (.int .i64 key) /\ W1.drew.cell? ⟨w.heap.size, 1, none⟩ = some (.string t) := ⟨by simpa using cell_of_row W1 w.heap.size 0 _ _ _ b1, by simpa using cell_of_row W1 w.heap.size 1 _ _ _ b1⟩
  have f0 := frozen_of_row W1 (w.heap.size + 1) 0 _ _ b2; have e0 : W1.cell? ⟨w.heap.size + 1, 0, none⟩ = some (.int .i64 0) := cell_of_row W1 (w.heap.size + 1) 0 _ _ _ b2; have g0 : W1.drew.frozen? ⟨w.heap.size + 1, 0, none⟩ = false := f0; have d0 : W1.drew.cell? ⟨w.heap.size + 1, 0, none⟩ = some (.int .i64 0) := e0
  have f1 := frozen_of_row W1 (w.heap.size + 1) 1 _ _ b2; have e1 : W1.cell? ⟨w.heap.size + 1, 1, none⟩ = some (.int .i64 0) := cell_of_row W1 (w.heap.size + 1) 1 _ _ _ b2; have g1 : W1.drew.frozen? ⟨w.heap.size + 1, 1, none⟩ = false := f1; have d1 : W1.drew.cell? ⟨w.heap.size + 1, 1, none⟩ = some (.int .i64 0) := e1
  have f2 := frozen_of_row W1 (w.heap.size + 1) 2 _ _ b2; have e2 : W1.cell? ⟨w.heap.size + 1, 2, none⟩ = some (.string ⟨#[]⟩) := cell_of_row W1 (w.heap.size + 1) 2 _ _ _ b2; have g2 : W1.drew.frozen? ⟨w.heap.size + 1, 2, none⟩ = false := f2; have d2 : W1.drew.cell? ⟨w.heap.size + 1, 2, none⟩ = some (.string ⟨#[]⟩) := e2
  have f3 := frozen_of_row W1 (w.heap.size + 1) 3 _ _ b2; have e3 : W1.cell? ⟨w.heap.size + 1, 3, none⟩ = some (.int .i64 0) := cell_of_row W1 (w.heap.size + 1) 3 _ _ _ b2; have g3 : W1.drew.frozen? ⟨w.heap.size + 1, 3, none⟩ = false := f3; have d3 : W1.drew.cell? ⟨w.heap.size + 1, 3, none⟩ = some (.int .i64 0) := e3
  have f4 := frozen_of_row W1 (w.heap.size + 1) 4 _ _ b2; have e4 : W1.cell? ⟨w.heap.size + 1, 4, none⟩ = some (.int .i64 0) := cell_of_row W1 (w.heap.size + 1) 4 _ _ _ b2; have g4 : W1.drew.frozen? ⟨w.heap.size + 1, 4, none⟩ = false := f4; have d4 : W1.drew.cell? ⟨w.heap.size + 1, 4, none⟩ = some (.int .i64 0) := e4
  have f5 := frozen_of_row W1 (w.heap.size + 1) 5 _ _ b2; have e5 : W1.cell? ⟨w.heap.size + 1, 5, none⟩ = some (.int .u8 0) := cell_of_row W1 (w.heap.size + 1) 5 _ _ _ b2; have g5 : W1.drew.frozen? ⟨w.heap.size + 1, 5, none⟩ = false := f5; have d5 : W1.drew.cell? ⟨w.heap.size + 1, 5, none⟩ = some (.int .u8 0) := e5
  have f6 := frozen_of_row W1 (w.heap.size + 1) 6 _ _ b2; have e6 : W1.cell? ⟨w.heap.size + 1, 6, none⟩ = some (.int .i64 0) := cell_of_row W1 (w.heap.size + 1) 6 _ _ _ b2; have g6 : W1.drew.frozen? ⟨w.heap.size + 1, 6, none⟩ = false := f6; have d6 : W1.drew.cell? ⟨w.heap.size + 1, 6, none⟩ = some (.int .i64 0) := e6
  have f7 := frozen_of_row W1 (w.heap.size + 1) 7 _ _ b2; have e7 : W1.cell? ⟨w.heap.size + 1, 7, none⟩ = some (.string ⟨#[]⟩) := cell_of_row W1 (w.heap.size + 1) 7 _ _ _ b2; have g7 : W1.drew.frozen? ⟨w.heap.size + 1, 7, none⟩ = false := f7; have d7 : W1.drew.cell? ⟨w.heap.size + 1, 7, none⟩ = some (.string ⟨#[]⟩) := e7
  have B2 := iH b2; have K1 := iH k1; have Y2 := iH y2
  clear b1 b2 k1
  go_enter Try.func24, Try.ntmps24
  go_wp2_with fail
  rw [<- hW1]
  clear hW1
  refine wp_region_held_drew (S := fun V => V.cell? ⟨w.heap.size, 0, none⟩ = some (.int .i64 key) /\ V.cell? ⟨w.heap.size, 1, none⟩ = some (.string t)) (by kernel_rfl) y2 (fun hJ => ?_)
  refine wx 0 25 (.int .i64 (1 + id % 1024)) rfl hJ ?_
  refine wx 1 26 (.int .i64 tx) rfl hJ ?_
  refine wx 2 27 (.string ow) rfl hJ ?_
  refine wx 4 29 (.int .i64 tr) rfl hJ ?_
  refine wx 5 30 (.int .i64 (tr % 2147483648)) rfl hJ ?_
  refine wx 6 31 (.int .u8 tb) rfl hJ ?_
  refine wx 7 32 (.int .u8 (tb % 4)) rfl hJ ?_
  refine wx 8 33 (.int .i64 (tb % 4)) rfl hJ ?_
  refine wx 9 34 (.int .u8 kd) rfl hJ ?_
  refine wx 10 35 (.int .u8 (kd % 4)) rfl hJ ?_
  refine wx 11 36 (.int .u8 (1 + kd % 4)) rfl hJ ?_
  refine wx 12 37 (.pointer (some ⟨w.heap.size, 0, none⟩)) rfl hJ ?_
  refine wx 13 38 (.int .i64 key) rfl hJ ?_ (hy := fun V hV => by (obtain ⟨q0, q1⟩ := hV; go_simp))
  refine wx 14 39 (.pointer (some ⟨w.heap.size, 1, none⟩)) rfl hJ ?_
  refine wx 15 40 (.string t) rfl hJ ?_ (hy := fun V hV => by (obtain ⟨q0, q1⟩ := hV; go_simp))
  refine wr1 3 rfl (fun K hK => ?_)
  go_simp
  go_at_call 23
  refine (C1.out _ _).mono ?_
  rintro en w8 ⟨rfl, rfl⟩
  go_wp2_with fail
  refine hK.out _ _ Y2.out (fun hJ => ?_)
  clear hK K
  refine wr1 16 rfl (fun K hK => ?_)
  go_simp
  go_at_call 23
  refine (C1.out _ _).mono ?_
  rintro en w8 ⟨rfl, rfl⟩
  go_wp2_with fail
  refine hK.out _ _ Y2.out (fun hJ => ?_)
  clear hK K
  refine wx 17 42 (.agg #[.int .i64 key, .string (cutS t)]) rfl hJ ?_
  refine wx 18 43 (.agg #[.int .i64 (1 + id % 1024), .int .i64 tx, .string (cutS ow), .int .i64 (tr % 2147483648), .int .i64 (tb % 4), .int .u8 (1 + kd % 4), .int .i64 key, .string (cutS t)]) rfl hJ ?_
  refine wr1 19 rfl (fun K hK => ?_)
  go_simp
  obtain ⟨g8, k8⟩ := eight (p := w.heap.size + 1) B2.out (.int .i64 (1 + id % 1024)) (.int .i64 tx) (.string (cutS ow)) (.int .i64 (tr % 2147483648)) (.int .i64 (tb % 4)) (.int .u8 (1 + kd % 4)) (.int .i64 key) (.string (cutS t))
  have k9 := k8.drew
  have s0 : ((((((((W1.setCell ⟨w.heap.size + 1, 0, none⟩ (.int .i64 (1 + id % 1024))).setCell ⟨w.heap.size + 1, 1, none⟩ (.int .i64 tx)).setCell ⟨w.heap.size + 1, 2, none⟩ (.string (cutS ow))).setCell ⟨w.heap.size + 1, 3, none⟩ (.int .i64 (tr % 2147483648))).setCell ⟨w.heap.size + 1, 4, none⟩ (.int .i64 (tb % 4))).setCell ⟨w.heap.size + 1, 5, none⟩ (.int .u8 (1 + kd % 4))).setCell ⟨w.heap.size + 1, 6, none⟩ (.int .i64 key)).setCell ⟨w.heap.size + 1, 7, none⟩ (.string (cutS t))).drew.cell? ⟨w.heap.size, 0, none⟩ = some (.int .i64 key) := k9.cell (by simp) Y2.out.1
  have s1 : ((((((((W1.setCell ⟨w.heap.size + 1, 0, none⟩ (.int .i64 (1 + id % 1024))).setCell ⟨w.heap.size + 1, 1, none⟩ (.int .i64 tx)).setCell ⟨w.heap.size + 1, 2, none⟩ (.string (cutS ow))).setCell ⟨w.heap.size + 1, 3, none⟩ (.int .i64 (tr % 2147483648))).setCell ⟨w.heap.size + 1, 4, none⟩ (.int .i64 (tb % 4))).setCell ⟨w.heap.size + 1, 5, none⟩ (.int .u8 (1 + kd % 4))).setCell ⟨w.heap.size + 1, 6, none⟩ (.int .i64 key)).setCell ⟨w.heap.size + 1, 7, none⟩ (.string (cutS t))).drew.cell? ⟨w.heap.size, 1, none⟩ = some (.string t) := k9.cell (by simp) Y2.out.2
  have ss := And.intro s0 s1
  refine hK.out _ _ ss (fun hJ => ?_)
  clear hK K hJ ss s0 s1
  refine wd ?_
  have z0 := cell_of_row _ (w.heap.size + 1) 0 _ _ _ g8
  have z1 := cell_of_row _ (w.heap.size + 1) 1 _ _ _ g8
  have z2 := cell_of_row _ (w.heap.size + 1) 2 _ _ _ g8
  have z3 := cell_of_row _ (w.heap.size + 1) 3 _ _ _ g8
  have z4 := cell_of_row _ (w.heap.size + 1) 4 _ _ _ g8
  have z5 := cell_of_row _ (w.heap.size + 1) 5 _ _ _ g8
  have z6 := cell_of_row _ (w.heap.size + 1) 6 _ _ _ g8
  have z7 := cell_of_row _ (w.heap.size + 1) 7 _ _ _ g8
  simp at z0 z1 z2 z3 z4 z5 z6 z7
  go_wp2
  refine bodyPost_ret (v := .agg #[.int .i64 (1 + id % 1024), .int .i64 tx, .string (cutS ow), .int .i64 (tr % 2147483648), .int .i64 (tb % 4), .int .u8 (1 + kd % 4), .int .i64 key, .string (cutS t)]) (by simp [results, Try.results24, go_sem, z0, z1, z2, z3, z4, z5, z6, z7]) rfl ?_
  exact ⟨by rw [HE.out], K1.out.trans k9 (by simp)⟩
 ·by_cases h2 : tx < 1
  ·skip
   have HE : RowKit.Hid ((ofE id tx ow tr tb kd key t).cs = #[.int .i64 id, .int .i64 (1 + tx % 16), .string (cutS ow), .int .i64 (tr % 2147483648), .int .i64 (tb % 4), .int .u8 (1 + kd % 4), .int .i64 key, .string (cutS t)]) := iH (by simp [ofE, Ev.cs, h1, h2])
   have y2 : W1.drew.cell? ⟨w.heap.size, 0, none⟩ = some (.int .i64 key) /\ W1.drew.cell? ⟨w.heap.size, 1, none⟩ = some (.string t) := ⟨by simpa using cell_of_row W1 w.heap.size 0 _ _ _ b1, by simpa using cell_of_row W1 w.heap.size 1 _ _ _ b1⟩
   have f0 := frozen_of_row W1 (w.heap.size + 1) 0 _ _ b2; have e0 : W1.cell? ⟨w.heap.size + 1, 0, none⟩ = some (.int .i64 0) := cell_of_row W1 (w.heap.size + 1) 0 _ _ _ b2; have g0 : W1.drew.frozen? ⟨w.heap.size + 1, 0, none⟩ = false := f0; have d0 : W1.drew.cell? ⟨w.heap.size + 1, 0, none⟩ = some (.int .i64 0) := e0
   have f1 := frozen_of_row W1 (w.heap.size + 1) 1 _ _ b2; have e1 : W1.cell? ⟨w.heap.size + 1, 1, none⟩ = some (.int .i64 0) := cell_of_row W1 (w.heap.size + 1) 1 _ _ _ b2; have g1 : W1.drew.frozen? ⟨w.heap.size + 1, 1, none⟩ = false := f1; have d1 : W1.drew.cell? ⟨w.heap.size + 1, 1, none⟩ = some (.int .i64 0) := e1
   have f2 := frozen_of_row W1 (w.heap.size + 1) 2 _ _ b2; have e2 : W1.cell? ⟨w.heap.size + 1, 2, none⟩ = some (.string ⟨#[]⟩) := cell_of_row W1 (w.heap.size + 1) 2 _ _ _ b2; have g2 : W1.drew.frozen? ⟨w.heap.size + 1, 2, none⟩ = false := f2; have d2 : W1.drew.cell? ⟨w.heap.size + 1, 2, none⟩ = some (.string ⟨#[]⟩) := e2
   have f3 := frozen_of_row W1 (w.heap.size + 1) 3 _ _ b2; have e3 : W1.cell? ⟨w.heap.size + 1, 3, none⟩ = some (.int .i64 0) := cell_of_row W1 (w.heap.size + 1) 3 _ _ _ b2; have g3 : W1.drew.frozen? ⟨w.heap.size + 1, 3, none⟩ = false := f3; have d3 : W1.drew.cell? ⟨w.heap.size + 1, 3, none⟩ = some (.int .i64 0) := e3
   have f4 := frozen_of_row W1 (w.heap.size + 1) 4 _ _ b2; have e4 : W1.cell? ⟨w.heap.size + 1, 4, none⟩ = some (.int .i64 0) := cell_of_row W1 (w.heap.size + 1) 4 _ _ _ b2; have g4 : W1.drew.frozen? ⟨w.heap.size + 1, 4, none⟩ = false := f4; have d4 : W1.drew.cell? ⟨w.heap.size + 1, 4, none⟩ = some (.int .i64 0) := e4
   have f5 := frozen_of_row W1 (w.heap.size + 1) 5 _ _ b2; have e5 : W1.cell? ⟨w.heap.size + 1, 5, none⟩ = some (.int .u8 0) := cell_of_row W1 (w.heap.size + 1) 5 _ _ _ b2; have g5 : W1.drew.frozen? ⟨w.heap.size + 1, 5, none⟩ = false := f5; have d5 : W1.drew.cell? ⟨w.heap.size + 1, 5, none⟩ = some (.int .u8 0) := e5
   have f6 := frozen_of_row W1 (w.heap.size + 1) 6 _ _ b2; have e6 : W1.cell? ⟨w.heap.size + 1, 6, none⟩ = some (.int .i64 0) := cell_of_row W1 (w.heap.size + 1) 6 _ _ _ b2; have g6 : W1.drew.frozen? ⟨w.heap.size + 1, 6, none⟩ = false := f6; have d6 : W1.drew.cell? ⟨w.heap.size + 1, 6, none⟩ = some (.int .i64 0) := e6
   have f7 := frozen_of_row W1 (w.heap.size + 1) 7 _ _ b2; have e7 : W1.cell? ⟨w.heap.size + 1, 7, none⟩ = some (.string ⟨#[]⟩) := cell_of_row W1 (w.heap.size + 1) 7 _ _ _ b2; have g7 : W1.drew.frozen? ⟨w.heap.size + 1, 7, none⟩ = false := f7; have d7 : W1.drew.cell? ⟨w.heap.size + 1, 7, none⟩ = some (.string ⟨#[]⟩) := e7
   have B2 := iH b2; have K1 := iH k1; have Y2 := iH y2
   clear b1 b2 k1
   go_enter Try.func24, Try.ntmps24
   go_wp2_with fail
   rw [<- hW1]
   clear hW1
   refine wp_region_held_drew (S := fun V => V.cell? ⟨w.heap.size, 0, none⟩ = some (.int .i64 key) /\ V.cell? ⟨w.heap.size, 1, none⟩ = some (.string t)) (by kernel_rfl) y2 (fun hJ => ?_)
   refine wx 0 25 (.int .i64 id) rfl hJ ?_
   refine wx 1 26 (.int .i64 (1 + tx % 16)) rfl hJ ?_
   refine wx 2 27 (.string ow) rfl hJ ?_
   refine wx 4 29 (.int .i64 tr) rfl hJ ?_
   refine wx 5 30 (.int .i64 (tr % 2147483648)) rfl hJ ?_
   refine wx 6 31 (.int .u8 tb) rfl hJ ?_
   refine wx 7 32 (.int .u8 (tb % 4)) rfl hJ ?_
   refine wx 8 33 (.int .i64 (tb % 4)) rfl hJ ?_
   refine wx 9 34 (.int .u8 kd) rfl hJ ?_
   refine wx 10 35 (.int .u8 (kd % 4)) rfl hJ ?_
   refine wx 11 36 (.int .u8 (1 + kd % 4)) rfl hJ ?_
   refine wx 12 37 (.pointer (some ⟨w.heap.size, 0, none⟩)) rfl hJ ?_
   refine wx 13 38 (.int .i64 key) rfl hJ ?_ (hy := fun V hV => by (obtain ⟨q0, q1⟩ := hV; go_simp))
   refine wx 14 39 (.pointer (some ⟨w.heap.size, 1, none⟩)) rfl hJ ?_
   refine wx 15 40 (.string t) rfl hJ ?_ (hy := fun V hV => by (obtain ⟨q0, q1⟩ := hV; go_simp))
   refine wr1 3 rfl (fun K hK => ?_)
   go_simp
   go_at_call 23
   refine (C1.out _ _).mono ?_
   rintro en w8 ⟨rfl, rfl⟩
   go_wp2_with fail
   refine hK.out _ _ Y2.out (fun hJ => ?_)
   clear hK K
   refine wr1 16 rfl (fun K hK => ?_)
   go_simp
   go_at_call 23
   refine (C1.out _ _).mono ?_
   rintro en w8 ⟨rfl, rfl⟩
   go_wp2_with fail
   refine hK.out _ _ Y2.out (fun hJ => ?_)
   clear hK K
   refine wx 17 42 (.agg #[.int .i64 key, .string (cutS t)]) rfl hJ ?_
   refine wx 18 43 (.agg #[.int .i64 id, .int .i64 (1 + tx % 16), .string (cutS ow), .int .i64 (tr % 2147483648), .int .i64 (tb % 4), .int .u8 (1 + kd % 4), .int .i64 key, .string (cutS t)]) rfl hJ ?_
   refine wr1 19 rfl (fun K hK => ?_)
   go_simp
   obtain ⟨g8, k8⟩ := eight (p := w.heap.size + 1) B2.out (.int .i64 id) (.int .i64 (1 + tx % 16)) (.string (cutS ow)) (.int .i64 (tr % 2147483648)) (.int .i64 (tb % 4)) (.int .u8 (1 + kd % 4)) (.int .i64 key) (.string (cutS t))
   have k9 := k8.drew
   have s0 : ((((((((W1.setCell ⟨w.heap.size + 1, 0, none⟩ (.int .i64 id)).setCell ⟨w.heap.size + 1, 1, none⟩ (.int .i64 (1 + tx % 16))).setCell ⟨w.heap.size + 1, 2, none⟩ (.string (cutS ow))).setCell ⟨w.heap.size + 1, 3, none⟩ (.int .i64 (tr % 2147483648))).setCell ⟨w.heap.size + 1, 4, none⟩ (.int .i64 (tb % 4))).setCell ⟨w.heap.size + 1, 5, none⟩ (.int .u8 (1 + kd % 4))).setCell ⟨w.heap.size + 1, 6, none⟩ (.int .i64 key)).setCell ⟨w.heap.size + 1, 7, none⟩ (.string (cutS t))).drew.cell? ⟨w.heap.size, 0, none⟩ = some (.int .i64 key) := k9.cell (by simp) Y2.out.1
   have s1 : ((((((((W1.setCell ⟨w.heap.size + 1, 0, none⟩ (.int .i64 id)).setCell ⟨w.heap.size + 1, 1, none⟩ (.int .i64 (1 + tx % 16))).setCell ⟨w.heap.size + 1, 2, none⟩ (.string (cutS ow))).setCell ⟨w.heap.size + 1, 3, none⟩ (.int .i64 (tr % 2147483648))).setCell ⟨w.heap.size + 1, 4, none⟩ (.int .i64 (tb % 4))).setCell ⟨w.heap.size + 1, 5, none⟩ (.int .u8 (1 + kd % 4))).setCell ⟨w.heap.size + 1, 6, none⟩ (.int .i64 key)).setCell ⟨w.heap.size + 1, 7, none⟩ (.string (cutS t))).drew.cell? ⟨w.heap.size, 1, none⟩ = some (.string t) := k9.cell (by simp) Y2.out.2
   have ss := And.intro s0 s1
   refine hK.out _ _ ss (fun hJ => ?_)
   clear hK K hJ ss s0 s1
   refine wd ?_
   have z0 := cell_of_row _ (w.heap.size + 1) 0 _ _ _ g8
   have z1 := cell_of_row _ (w.heap.size + 1) 1 _ _ _ g8
   have z2 := cell_of_row _ (w.heap.size + 1) 2 _ _ _ g8
   have z3 := cell_of_row _ (w.heap.size + 1) 3 _ _ _ g8
   have z4 := cell_of_row _ (w.heap.size + 1) 4 _ _ _ g8
   have z5 := cell_of_row _ (w.heap.size + 1) 5 _ _ _ g8
   have z6 := cell_of_row _ (w.heap.size + 1) 6 _ _ _ g8
   have z7 := cell_of_row _ (w.heap.size + 1) 7 _ _ _ g8
   simp at z0 z1 z2 z3 z4 z5 z6 z7
   go_wp2
   refine bodyPost_ret (v := .agg #[.int .i64 id, .int .i64 (1 + tx % 16), .string (cutS ow), .int .i64 (tr % 2147483648), .int .i64 (tb % 4), .int .u8 (1 + kd % 4), .int .i64 key, .string (cutS t)]) (by simp [results, Try.results24, go_sem, z0, z1, z2, z3, z4, z5, z6, z7]) rfl ?_
   exact ⟨by rw [HE.out], K1.out.trans k9 (by simp)⟩
  skip
  have HE : RowKit.Hid ((ofE id tx ow tr tb kd key t).cs = #[.int .i64 id, .int .i64 tx, .string (cutS ow), .int .i64 (tr % 2147483648), .int .i64 (tb % 4), .int .u8 (1 + kd % 4), .int .i64 key, .string (cutS t)]) := iH (by simp [ofE, Ev.cs, h1, h2])
  have y2 : W1.drew.cell? ⟨w.heap.size, 0, none⟩ = some (.int .i64 key) /\ W1.drew.cell? ⟨w.heap.size, 1, none⟩ = some (.string t) := ⟨by simpa using cell_of_row W1 w.heap.size 0 _ _ _ b1, by simpa using cell_of_row W1 w.heap.size 1 _ _ _ b1⟩
  have f0 := frozen_of_row W1 (w.heap.size + 1) 0 _ _ b2; have e0 : W1.cell? ⟨w.heap.size + 1, 0, none⟩ = some (.int .i64 0) := cell_of_row W1 (w.heap.size + 1) 0 _ _ _ b2; have g0 : W1.drew.frozen? ⟨w.heap.size + 1, 0, none⟩ = false := f0; have d0 : W1.drew.cell? ⟨w.heap.size + 1, 0, none⟩ = some (.int .i64 0) := e0
  have f1 := frozen_of_row W1 (w.heap.size + 1) 1 _ _ b2; have e1 : W1.cell? ⟨w.heap.size + 1, 1, none⟩ = some (.int .i64 0) := cell_of_row W1 (w.heap.size + 1) 1 _ _ _ b2; have g1 : W1.drew.frozen? ⟨w.heap.size + 1, 1, none⟩ = false := f1; have d1 : W1.drew.cell? ⟨w.heap.size + 1, 1, none⟩ = some (.int .i64 0) := e1
  have f2 := frozen_of_row W1 (w.heap.size + 1) 2 _ _ b2; have e2 : W1.cell? ⟨w.heap.size + 1, 2, none⟩ = some (.string ⟨#[]⟩) := cell_of_row W1 (w.heap.size + 1) 2 _ _ _ b2; have g2 : W1.drew.frozen? ⟨w.heap.size + 1, 2, none⟩ = false := f2; have d2 : W1.drew.cell? ⟨w.heap.size + 1, 2, none⟩ = some (.string ⟨#[]⟩) := e2
  have f3 := frozen_of_row W1 (w.heap.size + 1) 3 _ _ b2; have e3 : W1.cell? ⟨w.heap.size + 1, 3, none⟩ = some (.int .i64 0) := cell_of_row W1 (w.heap.size + 1) 3 _ _ _ b2; have g3 : W1.drew.frozen? ⟨w.heap.size + 1, 3, none⟩ = false := f3; have d3 : W1.drew.cell? ⟨w.heap.size + 1, 3, none⟩ = some (.int .i64 0) := e3
  have f4 := frozen_of_row W1 (w.heap.size + 1) 4 _ _ b2; have e4 : W1.cell? ⟨w.heap.size + 1, 4, none⟩ = some (.int .i64 0) := cell_of_row W1 (w.heap.size + 1) 4 _ _ _ b2; have g4 : W1.drew.frozen? ⟨w.heap.size + 1, 4, none⟩ = false := f4; have d4 : W1.drew.cell? ⟨w.heap.size + 1, 4, none⟩ = some (.int .i64 0) := e4
  have f5 := frozen_of_row W1 (w.heap.size + 1) 5 _ _ b2; have e5 : W1.cell? ⟨w.heap.size + 1, 5, none⟩ = some (.int .u8 0) := cell_of_row W1 (w.heap.size + 1) 5 _ _ _ b2; have g5 : W1.drew.frozen? ⟨w.heap.size + 1, 5, none⟩ = false := f5; have d5 : W1.drew.cell? ⟨w.heap.size + 1, 5, none⟩ = some (.int .u8 0) := e5
  have f6 := frozen_of_row W1 (w.heap.size + 1) 6 _ _ b2; have e6 : W1.cell? ⟨w.heap.size + 1, 6, none⟩ = some (.int .i64 0) := cell_of_row W1 (w.heap.size + 1) 6 _ _ _ b2; have g6 : W1.drew.frozen? ⟨w.heap.size + 1, 6, none⟩ = false := f6; have d6 : W1.drew.cell? ⟨w.heap.size + 1, 6, none⟩ = some (.int .i64 0) := e6
  have f7 := frozen_of_row W1 (w.heap.size + 1) 7 _ _ b2; have e7 : W1.cell? ⟨w.heap.size + 1, 7, none⟩ = some (.string ⟨#[]⟩) := cell_of_row W1 (w.heap.size + 1) 7 _ _ _ b2; have g7 : W1.drew.frozen? ⟨w.heap.size + 1, 7, none⟩ = false := f7; have d7 : W1.drew.cell? ⟨w.heap.size + 1, 7, none⟩ = some (.string ⟨#[]⟩) := e7
  have B2 := iH b2; have K1 := iH k1; have Y2 := iH y2
  clear b1 b2 k1
  go_enter Try.func24, Try.ntmps24
  go_wp2_with fail
  rw [<- hW1]
  clear hW1
  refine wp_region_held_drew (S := fun V => V.cell? ⟨w.heap.size, 0, none⟩ = some (.int .i64 key) /\ V.cell? ⟨w.heap.size, 1, none⟩ = some (.string t)) (by kernel_rfl) y2 (fun hJ => ?_)
  refine wx 0 25 (.int .i64 id) rfl hJ ?_
  refine wx 1 26 (.int .i64 tx) rfl hJ ?_
  refine wx 2 27 (.string ow) rfl hJ ?_
  refine wx 4 29 (.int .i64 tr) rfl hJ ?_
  refine wx 5 30 (.int .i64 (tr % 2147483648)) rfl hJ ?_
  refine wx 6 31 (.int .u8 tb) rfl hJ ?_
  refine wx 7 32 (.int .u8 (tb % 4)) rfl hJ ?_
  refine wx 8 33 (.int .i64 (tb % 4)) rfl hJ ?_
  refine wx 9 34 (.int .u8 kd) rfl hJ ?_
  refine wx 10 35 (.int .u8 (kd % 4)) rfl hJ ?_
  refine wx 11 36 (.int .u8 (1 + kd % 4)) rfl hJ ?_
  refine wx 12 37 (.pointer (some ⟨w.heap.size, 0, none⟩)) rfl hJ ?_
  refine wx 13 38 (.int .i64 key) rfl hJ ?_ (hy := fun V hV => by (obtain ⟨q0, q1⟩ := hV; go_simp))
  refine wx 14 39 (.pointer (some ⟨w.heap.size, 1, none⟩)) rfl hJ ?_
  refine wx 15 40 (.string t) rfl hJ ?_ (hy := fun V hV => by (obtain ⟨q0, q1⟩ := hV; go_simp))
  refine wr1 3 rfl (fun K hK => ?_)
  go_simp
  go_at_call 23
  refine (C1.out _ _).mono ?_
  rintro en w8 ⟨rfl, rfl⟩
  go_wp2_with fail
  refine hK.out _ _ Y2.out (fun hJ => ?_)
  clear hK K
  refine wr1 16 rfl (fun K hK => ?_)
  go_simp
  go_at_call 23
  refine (C1.out _ _).mono ?_
  rintro en w8 ⟨rfl, rfl⟩
  go_wp2_with fail
  refine hK.out _ _ Y2.out (fun hJ => ?_)
  clear hK K
  refine wx 17 42 (.agg #[.int .i64 key, .string (cutS t)]) rfl hJ ?_
  refine wx 18 43 (.agg #[.int .i64 id, .int .i64 tx, .string (cutS ow), .int .i64 (tr % 2147483648), .int .i64 (tb % 4), .int .u8 (1 + kd % 4), .int .i64 key, .string (cutS t)]) rfl hJ ?_
  refine wr1 19 rfl (fun K hK => ?_)
  go_simp
  obtain ⟨g8, k8⟩ := eight (p := w.heap.size + 1) B2.out (.int .i64 id) (.int .i64 tx) (.string (cutS ow)) (.int .i64 (tr % 2147483648)) (.int .i64 (tb % 4)) (.int .u8 (1 + kd % 4)) (.int .i64 key) (.string (cutS t))
  have k9 := k8.drew
  have s0 : ((((((((W1.setCell ⟨w.heap.size + 1, 0, none⟩ (.int .i64 id)).setCell ⟨w.heap.size + 1, 1, none⟩ (.int .i64 tx)).setCell ⟨w.heap.size + 1, 2, none⟩ (.string (cutS ow))).setCell ⟨w.heap.size + 1, 3, none⟩ (.int .i64 (tr % 2147483648))).setCell ⟨w.heap.size + 1, 4, none⟩ (.int .i64 (tb % 4))).setCell ⟨w.heap.size + 1, 5, none⟩ (.int .u8 (1 + kd % 4))).setCell ⟨w.heap.size + 1, 6, none⟩ (.int .i64 key)).setCell ⟨w.heap.size + 1, 7, none⟩ (.string (cutS t))).drew.cell? ⟨w.heap.size, 0, none⟩ = some (.int .i64 key) := k9.cell (by simp) Y2.out.1
  have s1 : ((((((((W1.setCell ⟨w.heap.size + 1, 0, none⟩ (.int .i64 id)).setCell ⟨w.heap.size + 1, 1, none⟩ (.int .i64 tx)).setCell ⟨w.heap.size + 1, 2, none⟩ (.string (cutS ow))).setCell ⟨w.heap.size + 1, 3, none⟩ (.int .i64 (tr % 2147483648))).setCell ⟨w.heap.size + 1, 4, none⟩ (.int .i64 (tb % 4))).setCell ⟨w.heap.size + 1, 5, none⟩ (.int .u8 (1 + kd % 4))).setCell ⟨w.heap.size + 1, 6, none⟩ (.int .i64 key)).setCell ⟨w.heap.size + 1, 7, none⟩ (.string (cutS t))).drew.cell? ⟨w.heap.size, 1, none⟩ = some (.string t) := k9.cell (by simp) Y2.out.2
  have ss := And.intro s0 s1
  refine hK.out _ _ ss (fun hJ => ?_)
  clear hK K hJ ss s0 s1
  refine wd ?_
  have z0 := cell_of_row _ (w.heap.size + 1) 0 _ _ _ g8
  have z1 := cell_of_row _ (w.heap.size + 1) 1 _ _ _ g8
  have z2 := cell_of_row _ (w.heap.size + 1) 2 _ _ _ g8
  have z3 := cell_of_row _ (w.heap.size + 1) 3 _ _ _ g8
  have z4 := cell_of_row _ (w.heap.size + 1) 4 _ _ _ g8
  have z5 := cell_of_row _ (w.heap.size + 1) 5 _ _ _ g8
  have z6 := cell_of_row _ (w.heap.size + 1) 6 _ _ _ g8
  have z7 := cell_of_row _ (w.heap.size + 1) 7 _ _ _ g8
  simp at z0 z1 z2 z3 z4 z5 z6 z7
  go_wp2
  refine bodyPost_ret (v := .agg #[.int .i64 id, .int .i64 tx, .string (cutS ow), .int .i64 (tr % 2147483648), .int .i64 (tb % 4), .int .u8 (1 + kd % 4), .int .i64 key, .string (cutS t)]) (by simp [results, Try.results24, go_sem, z0, z1, z2, z3, z4, z5, z6, z7]) rfl ?_
  exact ⟨by rw [HE.out], K1.out.trans k9 (by simp)⟩
end Go.Proofs.Ytjdbmlifekghfaa
