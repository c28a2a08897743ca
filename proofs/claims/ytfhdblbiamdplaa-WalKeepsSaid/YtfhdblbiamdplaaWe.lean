/-
  The contract of wal's content: all bytes of a device.
-/
import Derived.Test.YtfhdblbiamdplaaWd
namespace Go.Proofs.Ytfhdblbiamdplaa
open Go.RowKit

theorem take_blk {L : List UInt8} {i : Nat} : L.take (32 * (i + 1)) = L.take (32 * i) ++ blkOf L i := by
  rw [blkOf, Nat.mul_add, List.take_add]

set_option maxHeartbeats 1000000 in
set_option maxRecDepth 100000 in
theorem content_any {w : World} {B p gn gs n : Nat} {v : Value} {now safe : List UInt8} {ws : List Wt} (h : Dv w B p gn gs v n now safe ws) :
    Calls Try.prog 54 #[.pointer (some ⟨p, 0, none⟩)] w fun e w' => ∃ v', e = .returned v' ∧ Own w' w.heap.size 5 v' now ∧ Kept w w' [] := by
  obtain ⟨i0, hi, hz0, hz1, hz2⟩ := info_parts Try.infoB
  have D := Lib.hid h
  have hn12 := h.n12
  have hln := h.ln
  clear h
  go_enter Try.func54, Try.ntmps54
  go_wp2_with fail
  refine (size_any D.out).mono ?_
  rintro e w0 ⟨rfl, rfl⟩
  go_wp2
  go_loopw [3, 9] (fun t3 t9 wr => ∃ (i n3 c3 : Nat) (a3 : Option Addr), t9 = .int .i64 i ∧ t3 = .slice a3 n3 c3 ∧ i ≤ n ∧ Own wr w.heap.size 5 (.slice a3 n3 c3) (now.take (32 * i)) ∧ Kept w wr []) (fun _ t9 _ => n - (intOf t9).toNat)
  case atStart => exact ⟨0, 0, 0, none, rfl, rfl, Nat.zero_le _, Own.nil _ _ _, Kept.refl _ _⟩
  case round =>
    obtain ⟨i, n3, c3, a3, rfl, rfl, hin, ho, hk⟩ := hrel
    have O := Lib.hid ho; have K := Lib.hid hk
    have hl3 : n3 = 32 * i := by
      obtain ⟨_, _, e⟩ := ho.shape
      simp only [Value.slice.injEq] at e
      have := e.2.1
      rw [List.length_take] at this
      omega
    subst hl3
    have hzr := hk.size
    clear ho hk
    by_cases hlt : i < n
    · have x1 : (i : Int) < (n : Int) := by omega
      go_wp2_with fail
      refine (read_ok (D.out.frame (Fr.ofKept K.out 0 []) (by simp) (by simp) (by simp)) i hlt).mono ?_
      rintro e w2 ⟨v2, rfl, ho, hk⟩
      have O2 := Lib.hid ho; have K2 := Lib.hid (K.out.trans hk (by simp)); have O1 := Lib.hid (O.out.kept hk (by simp))
      have hb32 := blkOf_length now n i hln hlt
      have B32 := Lib.hid hb32
      obtain ⟨a2, n2, c2, hv2⟩ := Own.shape3 ho
      subst hv2
      have hn2 : n2 = 32 := by
        obtain ⟨_, _, e⟩ := ho.shape
        simp only [Value.slice.injEq] at e
        omega
      subst hn2
      have hz2' := hk.size
      have T32 : (now.take (32 * i)).length = 32 * i := by rw [List.length_take]; omega
      have T := Lib.hid T32
      clear ho hk hb32 T32
      go_wp2_with (at_builtin; refine wpList_append_fr _ rfl (.tmp 18) (.tmp 19) 36 36 rfl w.heap.size 5 i0 (.int .u8 0) 1 1 Try.underlying36 hi hz0 hz1 hz2 rfl (.slice a3 (32 * i) c3) (32 * i) (bc (now.take (32 * i))) rfl ?hown (.slice a2 32 c2) 32 (bc (blkOf now i)) rfl ?src ?b1 ?b2 ?base ?next)
      case hown => have := O1.out; unfold Own at this; rwa [T.out] at this
      case src => have := O2.out.rd.src (P := Try.prog) Try.underlying36; rwa [B32.out] at this
      case b1 => unfold maxLen; omega
      case b2 => omega
      case base => omega
      case next =>
        intro v3 w3 hown hf _
        have ho3 : Own w3 w.heap.size 5 v3 (now.take (32 * (i + 1))) := by
          rw [take_blk]; unfold Own; rw [bc_append, List.length_append, T.out, B32.out]; exact hown
        have O3 := Lib.hid ho3
        have K3 := Lib.hid (((Fr.ofKept K2.out 0 []).later hf (Nat.le_refl _)).kept)
        obtain ⟨a4, n4, c4, hv4⟩ := Own.shape3 ho3
        subst hv4
        clear hown hf ho3
        go_wp2
        go_roundw
        case rel => exact ⟨i + 1, _, _, _, by go_num, rfl, by omega, O3.out, K3.out⟩
        case measure => simp [intOf]; omega
    · obtain rfl : i = n := by omega
      have O3 := Lib.hid (show Own wr w.heap.size 5 (.slice a3 (32 * i) c3) now by have := O.out; rwa [List.take_of_length_le (by omega)] at this)
      go_wp2
      go_ret
      exact ⟨_, rfl, O3.out, K.out⟩

end Go.Proofs.Ytfhdblbiamdplaa
