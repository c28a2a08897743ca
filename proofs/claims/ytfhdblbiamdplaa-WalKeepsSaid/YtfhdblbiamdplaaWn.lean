/-
  The contracts of carrierlaw04.bytes (all of a device), of a log's Sync, and of carrierlaw04.same for lists that are alike.
-/
import Derived.Test.YtfhdblbiamdplaaWm
namespace Go.Proofs.Ytfhdblbiamdplaa
open Go.RowKit

theorem lsync_any {w : World} {B p gn gs n q s : Nat} {v : Value} {now safe : List UInt8} {ws : List Wt} (D : Dv w B p gn gs v n now safe ws) (G : Lg w q p s) (hws : ws.length ≤ 1000000) :
    Calls Try.prog 21 #[.pointer (some ⟨q, 0, none⟩)] w fun e w' => e = .returned (.tuple #[]) ∧ Dv w' B p gn gs (.slice none 0 0) n now (carry now (ws.map Wt.blk) safe) [] ∧ Fr B dts w w' := by
  obtain ⟨c0, c1⟩ := G.cell
  have H := Lib.hid D
  clear D G
  go_enter Try.func21, Try.ntmps21
  go_wp2_with fail
  refine (sync_any H.out hws).mono ?_
  rintro e w1 ⟨rfl, hd, hf⟩
  have D1 := Lib.hid hd; have F1 := Lib.hid hf
  clear hd hf
  go_wp2
  go_end0
  exact ⟨rfl, D1.out, F1.out⟩

set_option maxHeartbeats 1000000 in
set_option maxRecDepth 100000 in
theorem bytes_any {w : World} {B p gn gs n : Nat} {v : Value} {now safe : List UInt8} {ws : List Wt} (h : Dv w B p gn gs v n now safe ws) :
    Calls Try.prog 27 #[.pointer (some ⟨p, 0, none⟩)] w fun e w' => ∃ v', e = .returned v' ∧ Rd w' v' now ∧ Kept w w' [] := by
  have D := Lib.hid h
  have hn12 := h.n12
  have hln := Lib.hid h.ln
  clear h
  go_enter Try.func27, Try.ntmps27
  go_wp2
  go_loopw [3, 4] (fun t3 t4 wr => ∃ (i n3 c3 : Nat) (a3 : Option Addr), t4 = .int .i64 i ∧ t3 = .slice a3 n3 c3 ∧ i ≤ n ∧ Rd wr (.slice a3 n3 c3) (now.take (32 * i)) ∧ Kept w wr []) (fun _ t4 _ => n - (intOf t4).toNat)
  case atStart => exact ⟨0, 0, 0, none, rfl, rfl, Nat.zero_le _, Rd.nil _, Kept.refl _ _⟩
  case round =>
    obtain ⟨i, n3, c3, a3, rfl, rfl, hin, ho, hk⟩ := hrel
    have O := Lib.hid ho; have K := Lib.hid hk
    clear ho hk
    go_wp2_with fail
    refine (size_any (D.out.frame (Fr.ofKept K.out 0 []) (by simp) (by simp) (by simp))).mono ?_
    rintro e w1 ⟨rfl, rfl⟩
    by_cases hlt : i < n
    · have x1 : (i : Int) < (n : Int) := by omega
      have hb32 := Lib.hid (blkOf_length now n i hln.out hlt)
      go_wp2_with fail
      refine (read_ok (D.out.frame (Fr.ofKept K.out 0 []) (by simp) (by simp) (by simp)) i hlt).mono ?_
      rintro e w2 ⟨v2, rfl, ho, hk⟩
      have O2 := Lib.hid ho; have K2 := Lib.hid (K.out.trans hk (by simp)); have O1 := Lib.hid (O.out.kept hk (by simp))
      obtain ⟨a2, n2, c2, hv2⟩ := Own.shape3 ho
      subst hv2
      clear ho hk
      go_wp2_with fail
      refine (join_any _ _ (now.take (32 * i)) (blkOf now i) w2 O1.out O2.out.rd (by have := hln.out; simp; omega) (by rw [hb32.out]; decide)).mono ?_
      rintro e w3 ⟨v3, rfl, ho, hk⟩
      rw [← take_blk] at ho
      have O3 := Lib.hid ho.rd; have K3 := Lib.hid (K2.out.trans hk (by simp))
      obtain ⟨a4, n4, c4, hv4⟩ := Own.shape3 ho
      subst hv4
      clear ho hk
      go_wp2
      go_roundw
      case rel => exact ⟨i + 1, _, _, _, by go_num, rfl, by omega, O3.out, K3.out⟩
      case measure => simp [intOf]; omega
    · obtain rfl : i = n := by omega
      have O3 := Lib.hid (show Rd wr (.slice a3 n3 c3) now by have := O.out; rwa [List.take_of_length_le (by have := hln.out; omega)] at this)
      go_wp2
      go_ret
      exact ⟨_, rfl, O3.out, K.out⟩

end Go.Proofs.Ytfhdblbiamdplaa
