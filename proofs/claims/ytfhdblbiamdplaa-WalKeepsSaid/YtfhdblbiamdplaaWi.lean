/-
  The contracts of a log's Size and Room, of the calls of a nil log; the document's example of layer 4 (fresh).
-/
import Derived.Test.YtfhdblbiamdplaaWh
import Derived.Lib.SlBytesConst
namespace Go.Proofs.Ytfhdblbiamdplaa
open Go.RowKit

theorem Lg.cell {w : World} {q p s : Nat} (h : Lg w q p s) : w.cell? ⟨q, 0, none⟩ = some (.pointer (some ⟨p, 0, none⟩)) ∧ w.cell? ⟨q, 1, none⟩ = some (.int .i64 s) :=
  ⟨by simpa using cell_of_row w q 0 _ _ _ h, by simpa using cell_of_row w q 1 _ _ _ h⟩

theorem Lg.frame {w w' : World} {q p s C : Nat} {ts : List TypeId} (h : Lg w q p s) (hf : Fr C ts w w') (ht : 100 ∉ ts) : Lg w' q p s := hf.heap h ht

theorem lsize_any {w : World} {q p s : Nat} (h : Lg w q p s) : Calls Try.prog 30 #[.pointer (some ⟨q, 0, none⟩)] w fun e w' => e = .returned (.int .i64 s) ∧ w = w' := by
  obtain ⟨c0, c1⟩ := h.cell
  go_enter Try.func30, Try.ntmps30
  go_wp2
  go_ret
  exact ⟨rfl, rfl⟩

theorem lsize_nil (w : World) : Calls Try.prog 30 #[.pointer none] w fun e w' => e = .returned (.int .i64 0) ∧ w = w' := by
  go_enter Try.func30, Try.ntmps30
  go_wp2
  go_ret
  exact ⟨rfl, rfl⟩

theorem room_nil (w : World) : Calls Try.prog 31 #[.pointer none] w fun e w' => e = .returned (.int .i64 0) ∧ w = w' := by
  go_enter Try.func31, Try.ntmps31
  go_wp2
  go_ret
  exact ⟨rfl, rfl⟩

theorem lsync_nil (w : World) : Calls Try.prog 21 #[.pointer none] w fun e w' => e = .returned (.tuple #[]) ∧ w = w' := by
  go_enter Try.func21, Try.ntmps21
  go_wp2
  first | go_end0 | refine bodyPost_ret (results_none rfl _ _ _) rfl ?_
  exact ⟨rfl, rfl⟩

theorem append_nil (w : World) (a : Option Addr) (n c : Nat) : Calls Try.prog 19 #[.pointer none, .slice a n c] w fun e w' => e = .returned (.int .i64 4) ∧ w = w' := by
  go_enter Try.func19, Try.ntmps19
  go_wp2
  go_ret
  exact ⟨rfl, rfl⟩

theorem ret_i {a b : Int} (h : a = b) : Ending.returned (.int .i64 a) = .returned (.int .i64 b) := by rw [h]

set_option maxHeartbeats 1000000 in
set_option maxRecDepth 100000 in
theorem room_any {w : World} {B p gn gs n q s : Nat} {v : Value} {now safe : List UInt8} {ws : List Wt} (D : Dv w B p gn gs v n now safe ws) (h : Lg w q p s) (hs : s ≤ 32 * n) :
    Calls Try.prog 31 #[.pointer (some ⟨q, 0, none⟩)] w fun e w' => e = .returned (.int .i64 ((32 * n - s : Nat) : Int)) ∧ Kept w w' [] := by
  obtain ⟨c0, c1⟩ := h.cell
  have hn12 := D.n12
  have HS : Hid (∀ k, Calls Try.prog 62 #[.pointer (some ⟨p, 0, none⟩)] (w.drewN k) fun e w' => e = .returned (.int .i64 n) ∧ w.drewN k = w') := Lib.hid (fun k => size_any (D.frame (Fr.ofKept ((Kept.refl w []).drewN k) 0 []) (by simp) (by simp) (by simp)))
  have Hs := Lib.hid hs
  clear D h hs
  go_enter Try.func31, Try.ntmps31
  go_wp2
  go_quiet ((go_at_call 62; exact Calls.quiet_of_same ((HS.out _).mono fun _ _ h => ⟨h.1, h.2.symm⟩)))
  go_wp2
  go_ret
  exact ⟨ret_i (by have := Hs.out; simp only [wrap64]; omega), (Kept.refl w []).drewN _⟩

theorem fresh_scan : scan (noughts 3) = [] := scan_nil (by decide +kernel)
theorem fresh_clr : clr (noughts 3) = noughts 3 := by rw [clr, fresh_scan]; decide +kernel

set_option maxHeartbeats 1000000 in
set_option maxRecDepth 100000 in
theorem fresh_any (w : World) : Calls Try.prog 14 #[] w fun e w' => e = .returned (.bool true) ∧ Kept w w' [] := by
  have kc := fun (w : World) (C : Array Value) (n c : Nat) => Lib.run_convert_bytes_const (P := Try.prog) w 36 5 C n c Try.underlying36 Try.underlying5
  go_enter Try.func14, Try.ntmps14
  go_wp2_with fail
  refine (new_any 3 w).mono ?_
  rintro e w1 ⟨p, gn, gs, rfl, hd, hk⟩
  have D1 := Lib.hid (show Dv w1 w.heap.size p gn gs (.slice none 0 0) 3 (noughts 3) (noughts 3) [] from hd); have K1 := Lib.hid hk
  have hz1 := hk.size
  clear hd hk
  go_wp2_with fail
  refine (open_any D1.out rfl (by decide) hz1).mono ?_
  rintro e w2 ⟨q, vr, rfl, v2, s2, ws2, hd, _, _, _, hf, hg, hq, hrow⟩
  rw [fresh_clr] at hd
  rw [fresh_scan] at hg hrow
  have D2 := Lib.hid hd; have G2 := Lib.hid (show Lg w2 q p 0 from hg); have K2 := Lib.hid (((Fr.ofKept K1.out 0 []).later hf (Nat.le_refl _)).kept)
  obtain ⟨xs, ho, _⟩ := hrow
  obtain ⟨ar, cr, hvr⟩ := ownsRow_shape ho
  rw [List.length_nil] at hvr
  subst hvr
  have hz2 := hf.size
  clear hd hf hg hq ho
  go_wp2_with fail
  refine (lsize_any G2.out).mono ?_
  rintro e w3 ⟨rfl, rfl⟩
  go_wp2_with fail
  refine (room_any D2.out G2.out (by decide)).mono ?_
  rintro e w3 ⟨rfl, hk⟩
  have K3 := Lib.hid (K2.out.trans hk (by simp))
  clear hk
  have R1 := Lib.hid (rb_lit w3 0 [97] #[.int .u8 97] 5 (1, 2) 1 rfl rfl).rd
  have KA := Lib.hid ((Kept.refl w3 []).alloc (.cells #[.int .u8 97] 5 (1, 2)))
  go_wp2_with fail
  refine (frame_any _ [97] _ R1.out (by decide)).mono ?_
  rintro e w4 ⟨v4, rfl, ho, hk⟩
  have O4 := Lib.hid ho; have K4 := Lib.hid ((K3.out.trans KA.out (by simp)).trans hk (by simp))
  obtain ⟨a4, n4, c4, hv4⟩ := Own.shape3 ho
  subst hv4
  have R2 := Lib.hid (rb_lit w4 0 [97] #[.int .u8 97] 5 (1, 2) 1 rfl rfl).rd
  have KB := Lib.hid ((Kept.refl w4 []).alloc (.cells #[.int .u8 97] 5 (1, 2)))
  clear ho hk
  go_wp2_with fail
  refine (rframe_any _ [97] _ R2.out (by decide)).mono ?_
  rintro e w5 ⟨v5, rfl, ho, hk⟩
  have O5 := Lib.hid ho; have kk := KB.out.trans hk (by simp); have K5 := Lib.hid (K4.out.trans kk (by simp)); have O4 := Lib.hid (O4.out.kept kk (by simp))
  obtain ⟨a5, n5, c5, hv5⟩ := Own.shape3 ho
  subst hv5
  clear ho hk kk
  go_wp2_with fail
  refine (alike_any _ _ (frameB [97]) (frameB [97]) w5 O4.out.rd O5.out.rd (by rw [frameB_length]; decide)).mono ?_
  rintro e w6 ⟨rfl, hk⟩
  have K6 := Lib.hid (K5.out.trans hk (by simp))
  have x1 : (frameB [97] == frameB [97]) = true := by simp
  clear hk
  go_wp2
  go_ret
  exact ⟨rfl, K6.out⟩

end Go.Proofs.Ytfhdblbiamdplaa
