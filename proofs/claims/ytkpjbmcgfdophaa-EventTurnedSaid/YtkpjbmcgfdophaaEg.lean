/-
  The contract of event.Encode, of an event that is right.
-/
import Derived.Test.YtkpjbmcgfdophaaEf
namespace Go.Proofs.Ytkpjbmcgfdophaa
open Go.RowKit

/-- While the code encodes: the event's box at b, its writer at p from base B on, the bytes so far. -/
def Ew (w : World) (b B p : Nat) (e : Ev) (W : World) (l : List UInt8) : Prop :=
  ∃ v, Wr W B p v l ∧ W.heap[b]? = some (.cells e.cs 26 (0, 0)) ∧ b < B ∧ w.heap.size ≤ b ∧ B ≤ p ∧ Kept w W [] ∧ B ≤ W.heap.size

theorem Ew.drew {w : World} {b B p : Nat} {e : Ev} {W : World} {l : List UInt8} (h : Ew w b B p e W l) : Ew w b B p e W.drew l := by
  obtain ⟨v, h1, h2, h3, h4, h5, h6, h7⟩ := h
  exact ⟨v, h1, h2, h3, h4, h5, h6.drew, h7⟩

theorem Ew.cells {w : World} {b B p : Nat} {e : Ev} {W : World} {l : List UInt8} (h : Ew w b B p e W l) (j : Nat) : W.cell? ⟨b, j, none⟩ = e.cs[j]? := by
  obtain ⟨v, h1, h2, _⟩ := h
  exact cell_of_row W b j _ _ _ h2

theorem Ew.step {w : World} {b B p : Nat} {e : Ev} {W W' : World} {l m : List UInt8} {v v' : Value} (hw : Wr W B p v l) (hb : W.heap[b]? = some (.cells e.cs 26 (0, 0))) (h3 : b < B) (h4 : w.heap.size ≤ b) (h5 : B ≤ p) (h6 : Kept w W []) (h7 : B ≤ W.heap.size)
    (g : Wr W' B p v' m) (s : Stp W W' [p] v v') : Ew w b B p e W' m := by
  have hx : ∀ x ∈ [p] ++ v.ownBlock.toList, B ≤ x := by
    intro x hx
    rcases List.mem_append.1 hx with h | h
    · simp at h; omega
    · exact (hw.2.lt x (by simpa using h)).1
  have hs := s.1.size
  refine ⟨v', g, s.1.heap (fun hm => by have := hx b hm; omega) hb, h3, h4, h5, h6.trans s.1 (fun x hm => .inr (by have := hx x hm; omega)), by omega⟩

theorem ew_num (w : World) (b B p : Nat) (e : Ev) (W : World) (l : List UInt8) (x : Int) (h : Ew w b B p e W l) (hx : 0 ≤ x ∧ x ≤ 18446744073709551615) (hl : l.length ≤ 1099511627776) :
    Calls Try.prog 23 #[.pointer (some ⟨p, 0, none⟩), .int .u64 x] W fun en w' => en = .returned (.pointer (some ⟨p, 0, none⟩)) ∧ Ew w b B p e w' (l ++ numL x.toNat) := by
  obtain ⟨n, rfl⟩ := Int.eq_ofNat_of_zero_le hx.1
  obtain ⟨v, h1, h2, h3, h4, h5, h6, h7⟩ := h
  refine (num_any B p v l n W h1 h7 (by omega) hl).mono ?_
  rintro en w' ⟨rfl, v', g, s⟩
  exact ⟨rfl, Ew.step h1 h2 h3 h4 h5 h6 h7 g s⟩

theorem ew_int (w : World) (b B p : Nat) (e : Ev) (W : World) (l : List UInt8) (x : Int) (h : Ew w b B p e W l) (hx : -9223372036854775808 ≤ x ∧ x ≤ 9223372036854775807) (hl : l.length ≤ 1099511627776) :
    Calls Try.prog 25 #[.pointer (some ⟨p, 0, none⟩), .int .i64 x] W fun en w' => en = .returned (.pointer (some ⟨p, 0, none⟩)) ∧ Ew w b B p e w' (l ++ intL x) := by
  obtain ⟨v, h1, h2, h3, h4, h5, h6, h7⟩ := h
  refine (int_any B p v l x W h1 h7 hx hl).mono ?_
  rintro en w' ⟨rfl, v', g, s⟩
  exact ⟨rfl, Ew.step h1 h2 h3 h4 h5 h6 h7 g s⟩

theorem ew_text (w : World) (b B p : Nat) (e : Ev) (W : World) (l : List UInt8) (x : ByteArray) (h : Ew w b B p e W l) (hx : x.size ≤ 1099511627776) (hl : l.length ≤ 1099511627776) :
    Calls Try.prog 24 #[.pointer (some ⟨p, 0, none⟩), .string x] W fun en w' => en = .returned (.pointer (some ⟨p, 0, none⟩)) ∧ Ew w b B p e w' (l ++ textL x.data.toList) := by
  obtain ⟨v, h1, h2, h3, h4, h5, h6, h7⟩ := h
  refine (text_any B p v l x W h1 h7 hx hl).mono ?_
  rintro en w' ⟨rfl, v', g, s⟩
  exact ⟨rfl, Ew.step h1 h2 h3 h4 h5 h6 h7 g s⟩

/-- So many bytes at most. -/
theorem Ev.parts_len {e : Ev} (h : e.Right) (o : e.Ok) : (numL e.id.toNat).length ≤ 10 ∧ (numL e.tx.toNat).length ≤ 10 ∧ (textL e.ow.data.toList).length ≤ 50 ∧ (numL e.tr.toNat).length ≤ 10 ∧ (numL e.tb.toNat).length ≤ 10 ∧ (numL e.kd.toNat).length ≤ 10 ∧ (intL e.key).length ≤ 10 ∧ (textL e.t.data.toList).length ≤ 50 := by
  have a1 := numL_ten (n := e.id.toNat) (by have := o.id; omega)
  have a2 := numL_ten (n := e.tx.toNat) (by have := o.tx; omega)
  have a3 := numL_ten (n := e.tr.toNat) (by have := o.tr; omega)
  have a4 := numL_ten (n := e.tb.toNat) (by have := o.tb; omega)
  have a5 := numL_ten (n := e.kd.toNat) (by have := o.kd; omega)
  have a6 := numL_ten (Lib.zigzag_lt o.key.1 o.key.2)
  have a7 := numL_ten (n := e.ow.data.toList.length) (by have := h.ow; rw [size_list]; omega)
  have a8 := numL_ten (n := e.t.data.toList.length) (by have := h.t; rw [size_list]; omega)
  have b1 := h.ow
  have b2 := h.t
  have b3 := size_list e.ow
  have b4 := size_list e.t
  simp only [textL, intL, List.length_append]
  omega

set_option maxHeartbeats 4000000 in
set_option maxRecDepth 100000 in
theorem encode_any (e : Ev) (h : e.Right) (o : e.Ok) (w : World) :
    Calls Try.prog 11 #[.agg e.cs] w fun en w' => ∃ v', en = .returned v' ∧ Own w' w.heap.size 5 v' e.encL ∧ Kept w w' [] := by
  have HR := right_any e
  rw [(Ev.rightB_iff e).2 h] at HR
  have HR := Lib.hid HR
  obtain ⟨p1, p2, p3, p4, p5, p6, p7, p8⟩ := Ev.parts_len h o
  have z1 : 0 ≤ e.id ∧ e.id ≤ 18446744073709551615 := by have := h.id; have := o.id; omega
  have z2 : 0 ≤ e.tx ∧ e.tx ≤ 18446744073709551615 := by have := h.tx; have := o.tx; omega
  have z3 : 0 ≤ e.tr ∧ e.tr ≤ 18446744073709551615 := by have := h.tr; omega
  have z4 : 0 ≤ e.tb ∧ e.tb ≤ 18446744073709551615 := by have := h.tb; omega
  have z5 : 0 ≤ e.kd ∧ e.kd ≤ 18446744073709551615 := by have := h.kd; omega
  have z7 : e.ow.size ≤ 1099511627776 := by have := h.ow; omega
  have z8 : e.t.size ≤ 1099511627776 := by have := h.t; omega
  have HK := Lib.hid o.key
  have v1 : IntKind.u64.wrap e.id = e.id := by rw [IntKind.wrap_u64]; omega
  have v2 : IntKind.u64.wrap e.tx = e.tx := by rw [IntKind.wrap_u64]; omega
  have v3 : IntKind.u64.wrap e.tr = e.tr := by rw [IntKind.wrap_u64]; omega
  have v4 : IntKind.u64.wrap e.tb = e.tb := by rw [IntKind.wrap_u64]; omega
  have v5 : IntKind.u64.wrap e.kd = e.kd := by rw [IntKind.wrap_u64]; omega
  have P := Lib.hid (And.intro p1 (And.intro p2 (And.intro p3 (And.intro p4 (And.intro p5 (And.intro p6 (And.intro p7 p8)))))))
  have Z := Lib.hid (And.intro z1 (And.intro z2 (And.intro z3 (And.intro z4 (And.intro z5 (And.intro z7 z8))))))
  clear p1 p2 p3 p4 p5 p6 p7 p8 z1 z2 z3 z4 z5 z7 z8 h o
  change Calls Try.prog 11 #[.agg #[.int .i64 e.id, .int .i64 e.tx, .string e.ow, .int .i64 e.tr, .int .i64 e.tb, .int .u8 e.kd, .int .i64 e.key, .string e.t]] w _
  go_enter Try.func11, Try.ntmps11
  go_wp2_with fail
  refine (HR.out _).mono ?_
  rintro en w1 ⟨rfl, hk1⟩
  have g0 := heap_alloc_new w (.cells e.cs 26)
  have hk : Kept w w1 [] := ((Kept.refl w []).alloc _).trans hk1 (by simp)
  have hb := hk1.heap (by simp) g0
  have hlt : w.heap.size < w1.heap.size := (Array.getElem?_eq_some_iff.1 hb).1
  have E0 : Ew w w.heap.size w1.heap.size w1.heap.size e (w1.alloc (.cells #[.slice none 0 0] 48)) [] :=
    ⟨.slice none 0 0, ⟨heap_alloc_new w1 _, Own.nil _ _ _⟩, ((Kept.refl w1 []).alloc _).heap (by simp) hb, hlt, Nat.le_refl _, Nat.le_refl _, hk.alloc _, by simp⟩
  have HN := Lib.hid (fun V l x => ew_num w w.heap.size w1.heap.size w1.heap.size e V l x)
  have HI := Lib.hid (fun V l x => ew_int w w.heap.size w1.heap.size w1.heap.size e V l x)
  have HT := Lib.hid (fun V l x => ew_text w w.heap.size w1.heap.size w1.heap.size e V l x)
  have E0 := Lib.hid E0
  clear hk1 g0 hk hb hlt
  have k8 := E0.out.drew
  have y2 : ((w1.alloc (.cells #[.slice none 0 0] 48)).drew.cell? ⟨w.heap.size, 0, none⟩ = some (.int .i64 e.id) ∧ (w1.alloc (.cells #[.slice none 0 0] 48)).drew.cell? ⟨w.heap.size, 1, none⟩ = some (.int .i64 e.tx)) ∧ (w1.alloc (.cells #[.slice none 0 0] 48)).drew.cell? ⟨w.heap.size, 2, none⟩ = some (.string e.ow) := ⟨⟨k8.cells 0, k8.cells 1⟩, k8.cells 2⟩
  go_wp2_with fail
  go_region_held3 (fun V => (V.cell? ⟨w.heap.size, 0, none⟩ = some (.int .i64 e.id) ∧ V.cell? ⟨w.heap.size, 1, none⟩ = some (.int .i64 e.tx)) ∧ V.cell? ⟨w.heap.size, 2, none⟩ = some (.string e.ow)) (exact y2)
    (first
      | (go_at_call 23; refine (HN.out _ _ _ k8 ?_ ?_).mono ?_; (first | exact Z.out.1 | exact Z.out.2.1); (have := P.out; simp only [List.length_append, List.length_nil]; omega); rintro en w8 ⟨rfl, k8⟩; have y2 : (w8.cell? ⟨w.heap.size, 0, none⟩ = some (.int .i64 e.id) ∧ w8.cell? ⟨w.heap.size, 1, none⟩ = some (.int .i64 e.tx)) ∧ w8.cell? ⟨w.heap.size, 2, none⟩ = some (.string e.ow) := ⟨⟨k8.cells 0, k8.cells 1⟩, k8.cells 2⟩)
      | (go_at_call 24; refine (HT.out _ _ _ k8 ?_ ?_).mono ?_; (first | exact Z.out.2.2.2.2.2.1); (have := P.out; simp only [List.length_append, List.length_nil]; omega); rintro en w8 ⟨rfl, k8⟩; have y2 : (w8.cell? ⟨w.heap.size, 0, none⟩ = some (.int .i64 e.id) ∧ w8.cell? ⟨w.heap.size, 1, none⟩ = some (.int .i64 e.tx)) ∧ w8.cell? ⟨w.heap.size, 2, none⟩ = some (.string e.ow) := ⟨⟨k8.cells 0, k8.cells 1⟩, k8.cells 2⟩))
  have E1 := Lib.hid k8
  clear k8 y2
  have k8 := E1.out.drew
  have y2 : (w8.drew.cell? ⟨w.heap.size, 3, none⟩ = some (.int .i64 e.tr) ∧ w8.drew.cell? ⟨w.heap.size, 4, none⟩ = some (.int .i64 e.tb)) ∧ w8.drew.cell? ⟨w.heap.size, 5, none⟩ = some (.int .u8 e.kd) := ⟨⟨k8.cells 3, k8.cells 4⟩, k8.cells 5⟩
  go_wp2_with fail
  go_region_held3 (fun V => (V.cell? ⟨w.heap.size, 3, none⟩ = some (.int .i64 e.tr) ∧ V.cell? ⟨w.heap.size, 4, none⟩ = some (.int .i64 e.tb)) ∧ V.cell? ⟨w.heap.size, 5, none⟩ = some (.int .u8 e.kd)) (exact y2)
    (first
      | (go_at_call 23; refine (HN.out _ _ _ k8 ?_ ?_).mono ?_; (first | exact Z.out.2.2.1 | exact Z.out.2.2.2.1 | exact Z.out.2.2.2.2.1); (have := P.out; simp only [List.length_append, List.length_nil]; omega); rintro en w9 ⟨rfl, k8⟩; have y2 : (w9.cell? ⟨w.heap.size, 3, none⟩ = some (.int .i64 e.tr) ∧ w9.cell? ⟨w.heap.size, 4, none⟩ = some (.int .i64 e.tb)) ∧ w9.cell? ⟨w.heap.size, 5, none⟩ = some (.int .u8 e.kd) := ⟨⟨k8.cells 3, k8.cells 4⟩, k8.cells 5⟩))
  have E2 := Lib.hid k8
  clear k8 y2
  have k8 := E2.out.drew
  have y2 : w9.drew.cell? ⟨w.heap.size, 6, none⟩ = some (.int .i64 e.key) ∧ w9.drew.cell? ⟨w.heap.size, 7, none⟩ = some (.string e.t) := ⟨k8.cells 6, k8.cells 7⟩
  go_wp2_with fail
  go_region_held3 (fun V => V.cell? ⟨w.heap.size, 6, none⟩ = some (.int .i64 e.key) ∧ V.cell? ⟨w.heap.size, 7, none⟩ = some (.string e.t)) (exact y2)
    (first
      | (go_at_call 25; refine (HI.out _ _ _ k8 ?_ ?_).mono ?_; exact HK.out; (have := P.out; simp only [List.length_append, List.length_nil]; omega); rintro en w10 ⟨rfl, k8⟩; have y2 : w10.cell? ⟨w.heap.size, 6, none⟩ = some (.int .i64 e.key) ∧ w10.cell? ⟨w.heap.size, 7, none⟩ = some (.string e.t) := ⟨k8.cells 6, k8.cells 7⟩)
      | (go_at_call 24; refine (HT.out _ _ _ k8 ?_ ?_).mono ?_; exact Z.out.2.2.2.2.2.2; (have := P.out; simp only [List.length_append, List.length_nil]; omega); rintro en w10 ⟨rfl, k8⟩; have y2 : w10.cell? ⟨w.heap.size, 6, none⟩ = some (.int .i64 e.key) ∧ w10.cell? ⟨w.heap.size, 7, none⟩ = some (.string e.t) := ⟨k8.cells 6, k8.cells 7⟩))
  have E3 := Lib.hid k8
  clear k8 y2
  go_wp2_with fail
  obtain ⟨v, h1, h2, h3, h4, h5, h6, h7⟩ := E3.out
  refine (bytes_any _ _ v _ _ h1 (by have := P.out; simp only [List.length_append, List.length_nil]; omega)).mono ?_
  rintro en w11 ⟨v', rfl, g, k⟩
  have G := Lib.hid g; have K := Lib.hid k; have H6 := Lib.hid h6
  clear g k h1 h2 h3 h4 h5 h6 h7
  go_wp2
  go_ret
  refine ⟨v', rfl, ?_, H6.out.trans K.out (by simp)⟩
  have := G.out.mono (base' := w.heap.size) (by have := H6.out.size; simp at this ⊢; omega)
  simpa only [Ev.encL, Ev.r2, Ev.r3, Ev.r4, Ev.r5, Ev.r6, Ev.r7, Ev.r8, List.nil_append, List.append_assoc] using this

end Go.Proofs.Ytkpjbmcgfdophaa
