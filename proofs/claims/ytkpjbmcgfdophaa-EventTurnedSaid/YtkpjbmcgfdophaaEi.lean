/-
  The document's example of layer 9 holds (carrierlaw09.nine), in any world; an event is itself.
-/
import Derived.Test.YtkpjbmcgfdophaaEh
import Derived.Laws.StructEq
namespace Go.Proofs.Ytkpjbmcgfdophaa
open Go.RowKit

theorem numL_s (n : Nat) (h : n < 128) : numL n = [UInt8.ofNat n] := numL_small h

/-- The example. -/
def e9 : Ev := ⟨1, 2, ⟨#[]⟩, 0, 0, 1, 3, ⟨#[120]⟩⟩
theorem e9_right : e9.Right := ⟨by decide, by decide, by decide, by decide, by decide, by decide, by decide⟩
theorem e9_ok : e9.Ok := ⟨by decide, by decide, by decide, by decide, by decide, by decide, by decide, by decide⟩
theorem e9_enc : e9.encL = [1, 2, 0, 0, 0, 1, 6, 1, 120] := by
  simp only [Ev.encL, Ev.r2, Ev.r3, Ev.r4, Ev.r5, Ev.r6, Ev.r7, Ev.r8, textL, intL, e9]
  rw [numL_s _ (by decide), numL_s _ (by decide), numL_s _ (by decide), numL_s _ (by decide), numL_s _ (by decide), numL_s _ (by decide)]
  rfl
theorem e9_dec : cErr [1, 2, 0, 0, 0, 1, 6, 1, 120] = 0 ∧ cEv [1, 2, 0, 0, 0, 1, 6, 1, 120] = e9 := by
  obtain ⟨h1, h2⟩ := dec_back e9_right e9_ok
  rw [e9_enc] at h1 h2
  obtain ⟨h3, h4⟩ := dec_same [1, 2, 0, 0, 0, 1, 6, 1, 120]
  exact ⟨h3.trans h1, h4.trans h2⟩

set_option maxRecDepth 100000 in
theorem ev_eq (a b : Int) (o : ByteArray) (c d k y : Int) (t : ByteArray) (w : World) :
    (binOp .eql 26 (.agg #[.int .i64 a, .int .i64 b, .string o, .int .i64 c, .int .i64 d, .int .u8 k, .int .i64 y, .string t]) (.agg #[.int .i64 a, .int .i64 b, .string o, .int .i64 c, .int .i64 d, .int .u8 k, .int .i64 y, .string t])).run Try.prog w = .ok (.bool true) w := by
  rw [run_eql_struct]
  go_simp

set_option maxHeartbeats 400000 in
set_option maxRecDepth 100000 in
theorem nine_any (w : World) : Calls Try.prog 9 #[] w fun e w' => e = .returned (.bool true) ∧ Kept w w' [] := by
  have HD := fun v V h => decode_any v [1, 2, 0, 0, 0, 1, 6, 1, 120] V h (by decide)
  rw [e9_dec.1, e9_dec.2] at HD
  have HE := encode_any e9 e9_right e9_ok
  rw [e9_enc] at HE
  have HR := right_any e9
  rw [(Ev.rightB_iff e9).2 e9_right] at HR
  have HD := Lib.hid HD; have HE := Lib.hid HE; have HR := Lib.hid HR
  have QE := ev_eq 1 2 ⟨#[]⟩ 0 0 1 3 ⟨#[120]⟩
  have R0 : Rd ((w.alloc (.cells #[.int .i64 1, .int .i64 2, .string ⟨#[]⟩, .int .i64 0, .int .i64 0, .int .u8 1, .int .i64 3, .string ⟨#[120]⟩] 26)).alloc (.cells #[.int .u8 1, .int .u8 2, .int .u8 0, .int .u8 0, .int .u8 0, .int .u8 1, .int .u8 6, .int .u8 1, .int .u8 120] 5)) (.slice (some ⟨w.heap.size + 1, 0, none⟩) 9 9) [1, 2, 0, 0, 0, 1, 6, 1, 120] := by
    have := rd_lit (w.alloc (.cells #[.int .i64 1, .int .i64 2, .string ⟨#[]⟩, .int .i64 0, .int .i64 0, .int .u8 1, .int .i64 3, .string ⟨#[120]⟩] 26)) [1, 2, 0, 0, 0, 1, 6, 1, 120] #[.int .u8 1, .int .u8 2, .int .u8 0, .int .u8 0, .int .u8 0, .int .u8 1, .int .u8 6, .int .u8 1, .int .u8 120] 5 9 rfl rfl
    simpa using this
  go_enter Try.func9, Try.ntmps9
  go_wp2_with fail
  refine (HD.out _ _ R0).mono ?_
  rintro e w1 ⟨rfl, k1⟩
  have hz := k1.size
  have B1 : w1.heap[w.heap.size]? = some (.cells #[.int .i64 1, .int .i64 2, .string ⟨#[]⟩, .int .i64 0, .int .i64 0, .int .u8 1, .int .i64 3, .string ⟨#[120]⟩] 26 (0, 0)) := k1.heap (by simp) (((Kept.refl (w.alloc (.cells e9.cs 26)) []).alloc _).heap (by simp) (heap_alloc_new w (.cells e9.cs 26)))
  have hlt : w.heap.size < w1.heap.size := (Array.getElem?_eq_some_iff.1 B1).1
  have K1 := Lib.hid ((((Kept.refl w []).alloc _).alloc _).trans k1 (by simp))
  have HB1 := Lib.hid B1
  have C1 := fun j => cell_of_row w1 w.heap.size j _ _ _ B1
  have a0 := C1 0
  have a1 := C1 1
  have a2 := C1 2
  have a3 := C1 3
  have a4 := C1 4
  have a5 := C1 5
  have a6 := C1 6
  have a7 := C1 7
  simp at a0 a1 a2 a3 a4 a5 a6 a7
  clear k1 B1 hz R0 C1
  rw [show e9.cs = #[.int .i64 1, .int .i64 2, .string ⟨#[]⟩, .int .i64 0, .int .i64 0, .int .u8 1, .int .i64 3, .string ⟨#[120]⟩] from rfl]
  go_wp2_with fail
  refine (HE.out _).mono ?_
  rintro e w2 ⟨v2, rfl, o2, k2⟩
  have B2 : w2.heap[w.heap.size]? = some (.cells #[.int .i64 1, .int .i64 2, .string ⟨#[]⟩, .int .i64 0, .int .i64 0, .int .u8 1, .int .i64 3, .string ⟨#[120]⟩] 26 (0, 0)) := k2.heap (by simp) (((Kept.refl w1 []).alloc _).heap (by simp) HB1.out)
  have B3 : w2.heap[w1.heap.size]? = some (.cells #[.int .i64 1, .int .i64 2, .string ⟨#[]⟩, .int .i64 0, .int .i64 0, .int .u8 1, .int .i64 3, .string ⟨#[120]⟩] 26 (0, 0)) := k2.heap (by simp) (heap_alloc_new w1 _)
  have K2 := Lib.hid ((K1.out.alloc _).trans k2 (by simp))
  have O2 := Lib.hid o2; have HB2 := Lib.hid B2; have HB3 := Lib.hid B3
  clear a0 a1 a2 a3 a4 a5 a6 a7 o2 k2 B2 B3
  go_wp2_with fail
  refine (alike_any v2 _ _ [1, 2, 0, 0, 0, 1, 6, 1, 120] _ ((O2.out.rd).kept ((Kept.refl w2 []).alloc _) (by simp)) (rd_lit w2 [1, 2, 0, 0, 0, 1, 6, 1, 120] _ _ 9 rfl rfl) (by decide)).mono ?_
  rintro e w3 ⟨rfl, k3⟩
  have K3 := Lib.hid ((K2.out.alloc _).trans k3 (by simp))
  have B2 := k3.heap (by simp) (((Kept.refl w2 []).alloc (.cells #[.int .u8 1, .int .u8 2, .int .u8 0, .int .u8 0, .int .u8 0, .int .u8 1, .int .u8 6, .int .u8 1, .int .u8 120] 5)).heap (by simp) HB2.out)
  have B3 := k3.heap (by simp) (((Kept.refl w2 []).alloc (.cells #[.int .u8 1, .int .u8 2, .int .u8 0, .int .u8 0, .int .u8 0, .int .u8 1, .int .u8 6, .int .u8 1, .int .u8 120] 5)).heap (by simp) HB3.out)
  have C2 := fun j => cell_of_row w3 w.heap.size j _ _ _ B2
  have C3 := fun j => cell_of_row w3 w1.heap.size j _ _ _ B3
  have a0 := C2 0; have b0 := C3 0
  have a1 := C2 1; have b1 := C3 1
  have a2 := C2 2; have b2 := C3 2
  have a3 := C2 3; have b3 := C3 3
  have a4 := C2 4; have b4 := C3 4
  have a5 := C2 5; have b5 := C3 5
  have a6 := C2 6; have b6 := C3 6
  have a7 := C2 7; have b7 := C3 7
  simp at a0 a1 a2 a3 a4 a5 a6 a7 b0 b1 b2 b3 b4 b5 b6 b7
  clear k3 B2 B3 C2 C3
  have x1 : (([1, 2, 0, 0, 0, 1, 6, 1, 120] : List UInt8) == [1, 2, 0, 0, 0, 1, 6, 1, 120]) = true := by decide
  go_wp2_with fail
  refine (HR.out _).mono ?_
  rintro e w4 ⟨rfl, k4⟩
  have K4 := Lib.hid (K3.out.trans k4 (by simp))
  clear k4
  go_wp2
  go_ret
  exact ⟨rfl, K4.out⟩

end Go.Proofs.Ytkpjbmcgfdophaa
