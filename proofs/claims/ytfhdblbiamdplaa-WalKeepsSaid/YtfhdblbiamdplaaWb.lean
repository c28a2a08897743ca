/-
  Frames: the contracts of wal.Frame and of carrierref04.Frame.
-/
import Derived.Test.YtfhdblbiamdplaaWa
import Derived.Test.YtfhdblbiamdplaaDev
import Derived.Test.YtfhdblbiamdplaaDRead
namespace Go.Proofs.Ytfhdblbiamdplaa
open Go.RowKit

/-- The first two bytes of a frame; the four of a sum; a frame. -/
def hd2 (n : Nat) : List UInt8 := [UInt8.ofNat (n / 256), UInt8.ofNat n]
def s4 (c : Nat) : List UInt8 := [UInt8.ofNat (c / 16777216), UInt8.ofNat (c / 65536), UInt8.ofNat (c / 256), UInt8.ofNat c]
def frameB (p : List UInt8) : List UInt8 := hd2 p.length ++ s4 (sumN (hd2 p.length ++ p)) ++ p

theorem u8_of (n : Nat) : ((UInt8.ofNat n).toNat : Int) = (n : Int) % 256 := by
  rw [UInt8.toNat_ofNat']
  omega

/-- Bytes written out, of the call's own. -/
theorem own_lit (w : World) (B : Nat) (hB : B ≤ w.heap.size) (l : List UInt8) (cs : Array Value) (e : TypeId) (n : Nat) (hn : n = l.length) (h : cs.toList = bc l) (hm : n ≤ maxLen) : Own (w.alloc (.cells cs e)) B e (.slice (some ⟨w.heap.size, 0, none⟩) n n) l := by
  have : cs = (bc l).toArray := by rw [← h]
  subst this
  exact own_block (heap_alloc_new w _) hB hn.symm hm

set_option maxHeartbeats 1000000 in
set_option maxRecDepth 100000 in
theorem frame_any (v : Value) (p : List UInt8) (w : World) (h : Rd w v p) (hp : p.length ≤ 1000000) :
    Calls Try.prog 37 #[v] w fun e w' => ∃ v', e = .returned v' ∧ Own w' w.heap.size 5 v' (frameB p) ∧ Kept w w' [] := by
  obtain ⟨i0, hi, hz0, hz1, hz2⟩ := info_parts Try.infoB
  have H := Lib.hid h
  obtain ⟨a, c, rfl, hc, _⟩ := h
  obtain ⟨h1, hh1⟩ : ∃ h1 : UInt8, h1 = UInt8.ofNat (p.length / 256) := ⟨_, rfl⟩
  obtain ⟨h2, hh2⟩ : ∃ h2 : UInt8, h2 = UInt8.ofNat p.length := ⟨_, rfl⟩
  have e1 : (p.length : Int) / 256 % 256 = (h1.toNat : Int) := by rw [hh1, u8_of]; omega
  have e2 : (p.length : Int) % 256 = (h2.toNat : Int) := by rw [hh2, u8_of]
  have F := Lib.hid (show frameB p = [h1, h2] ++ s4 (sumN ([h1, h2] ++ p)) ++ p by rw [hh1, hh2]; rfl)
  have l2 : ([h1, h2] ++ p).length = 2 + p.length := by simp; omega
  have L2 := Lib.hid l2
  clear hh1 hh2 l2
  go_enter Try.func37, Try.ntmps37
  go_wp2_with (at_builtin; refine wpList_append_fr _ rfl (.tmp 16) (.tmp 17) 36 36 rfl w.heap.size 5 i0 (.int .u8 0) 1 1 Try.underlying36 hi hz0 hz1 hz2 rfl (.slice (some ⟨w.heap.size, 0, none⟩) 2 2) 2 (bc [h1, h2]) rfl ?hown (.slice a p.length c) p.length (bc p) rfl ?src ?b1 ?b2 ?base ?next)
  case hown => exact own_lit w w.heap.size (Nat.le_refl _) [h1, h2] _ _ 2 rfl rfl (by decide)
  case src => exact (H.out.kept ((Kept.refl w []).alloc _) (by simp)).src Try.underlying36
  case b1 => unfold maxLen; omega
  case b2 => omega
  case base => simp
  case next =>
    intro v2 w2 hown hf _
    have ho : Own w2 w.heap.size 5 v2 ([h1, h2] ++ p) := by unfold Own; rw [bc_append, L2.out]; exact hown
    have K2 := Lib.hid (((Fr.ofKept ((Kept.refl w []).alloc (.cells #[.int .u8 h1.toNat, .int .u8 h2.toNat] 5)) 0 []).later hf (Nat.le_refl _)).kept)
    obtain ⟨s, hs⟩ : ∃ s, s = sumN ([h1, h2] ++ p) := ⟨_, rfl⟩
    have hs32 : s < 4294967296 := by rw [hs]; exact sumN_lt _
    have rd2 := Lib.hid ho.rd
    obtain ⟨a2, n2, c2, hv2⟩ := Own.shape3 ho
    subst hv2
    clear hown hf ho
    go_wp2_with fail
    refine (sum_any _ _ w2 rd2.out (by rw [L2.out]; omega)).mono ?_
    rintro e w3 ⟨rfl, rfl⟩
    rw [← hs]
    rw [← hs] at F
    obtain ⟨c1, hc1⟩ : ∃ c1 : UInt8, c1 = UInt8.ofNat (s / 16777216) := ⟨_, rfl⟩
    obtain ⟨c3, hc3⟩ : ∃ c1 : UInt8, c1 = UInt8.ofNat (s / 65536) := ⟨_, rfl⟩
    obtain ⟨c4, hc4⟩ : ∃ c1 : UInt8, c1 = UInt8.ofNat (s / 256) := ⟨_, rfl⟩
    obtain ⟨c5, hc5⟩ : ∃ c1 : UInt8, c1 = UInt8.ofNat s := ⟨_, rfl⟩
    have f1 : (s : Int) / 16777216 % 256 = (c1.toNat : Int) := by rw [hc1, u8_of]; omega
    have f2 : (s : Int) / 16777216 = (c1.toNat : Int) := by rw [hc1, u8_of]; omega
    have f3 : (s : Int) / 65536 % 256 = (c3.toNat : Int) := by rw [hc3, u8_of]; omega
    have f4 : (s : Int) / 256 % 256 = (c4.toNat : Int) := by rw [hc4, u8_of]; omega
    have f5 : (s : Int) % 256 = (c5.toNat : Int) := by rw [hc5, u8_of]
    have F2 := Lib.hid (show frameB p = [h1, h2, c1, c3, c4, c5] ++ p by rw [F.out, hc1, hc3, hc4, hc5]; rfl)
    have l6 : ([h1, h2, c1, c3, c4, c5] ++ p).length = 6 + p.length := by simp; omega
    have L6 := Lib.hid l6
    have hzw := K2.out.size
    clear hs hc1 hc3 hc4 hc5 l6
    go_wp2_with (at_builtin; refine wpList_append_fr _ rfl (.tmp 34) (.tmp 35) 36 36 rfl w.heap.size 5 i0 (.int .u8 0) 1 1 Try.underlying36 hi hz0 hz1 hz2 rfl (.slice (some ⟨w2.heap.size, 0, none⟩) 6 6) 6 (bc [h1, h2, c1, c3, c4, c5]) rfl ?hown (.slice a p.length c) p.length (bc p) rfl ?src ?b1 ?b2 ?base ?next)
    case hown => exact own_lit w2 w.heap.size hzw [h1, h2, c1, c3, c4, c5] _ _ 6 rfl rfl (by decide)
    case src => exact (H.out.kept (K2.out.alloc _) (by simp)).src Try.underlying36
    case b1 => unfold maxLen; omega
    case b2 => omega
    case base => simp; omega
    case next =>
      intro v4 w4 hown hf _
      have ho : Own w4 w.heap.size 5 v4 (frameB p) := by rw [F2.out]; unfold Own; rw [bc_append, L6.out]; exact hown
      have K4 := Lib.hid (((Fr.ofKept (K2.out.alloc (.cells #[.int .u8 h1.toNat, .int .u8 h2.toNat, .int .u8 c1.toNat, .int .u8 c3.toNat, .int .u8 c4.toNat, .int .u8 c5.toNat] 5)) 0 []).later hf (Nat.le_refl _)).kept)
      have O := Lib.hid ho
      clear hown hf ho
      go_wp2
      go_ret
      exact ⟨_, rfl, O.out, K4.out⟩

set_option maxHeartbeats 1000000 in
set_option maxRecDepth 100000 in
theorem rframe_any (v : Value) (p : List UInt8) (w : World) (h : Rd w v p) (hp : p.length ≤ 1000000) :
    Calls Try.prog 35 #[v] w fun e w' => ∃ v', e = .returned v' ∧ Own w' w.heap.size 5 v' (frameB p) ∧ Kept w w' [] := by
  have H := Lib.hid h
  obtain ⟨a, c, rfl, hc, _⟩ := h
  obtain ⟨h1, hh1⟩ : ∃ h1 : UInt8, h1 = UInt8.ofNat (p.length / 256) := ⟨_, rfl⟩
  obtain ⟨h2, hh2⟩ : ∃ h2 : UInt8, h2 = UInt8.ofNat p.length := ⟨_, rfl⟩
  have e1 : (p.length : Int) / 256 % 256 = (h1.toNat : Int) := by rw [hh1, u8_of]; omega
  have e2 : (p.length : Int) % 256 = (h2.toNat : Int) := by rw [hh2, u8_of]
  have F := Lib.hid (show frameB p = [h1, h2] ++ s4 (sumN ([h1, h2] ++ p)) ++ p by rw [hh1, hh2]; rfl)
  have l2 : ([h1, h2] ++ p).length = 2 + p.length := by simp; omega
  have L2 := Lib.hid l2
  have R2 := Lib.hid (own_lit w w.heap.size (Nat.le_refl _) [h1, h2] #[.int .u8 h1.toNat, .int .u8 h2.toNat] 5 2 rfl rfl (by decide)).rd
  have K1 := Lib.hid ((Kept.refl w []).alloc (.cells #[.int .u8 h1.toNat, .int .u8 h2.toNat] 5))
  clear hh1 hh2 l2
  go_enter Try.func35, Try.ntmps35
  go_wp2_with fail
  refine (join_any _ _ [h1, h2] p _ R2.out (H.out.kept K1.out (by simp)) (by simp) (by omega)).mono ?_
  rintro e w2 ⟨v2, rfl, ho, hk⟩
  have O2 := Lib.hid ho; have K2 := Lib.hid (K1.out.trans hk (by simp)); have R2 := Lib.hid (R2.out.kept hk (by simp))
  clear ho hk
  go_wp2_with fail
  refine (rof_any _ _ w2 O2.out.rd (by rw [L2.out]; omega)).mono ?_
  rintro e w3 ⟨rfl, rfl⟩
  obtain ⟨s, hs⟩ : ∃ s, s = sumN ([h1, h2] ++ p) := ⟨_, rfl⟩
  have hs32 : s < 4294967296 := by rw [hs]; exact sumN_lt _
  rw [← hs]
  rw [← hs] at F
  obtain ⟨c1, hc1⟩ : ∃ c1 : UInt8, c1 = UInt8.ofNat (s / 16777216) := ⟨_, rfl⟩
  obtain ⟨c3, hc3⟩ : ∃ c1 : UInt8, c1 = UInt8.ofNat (s / 65536) := ⟨_, rfl⟩
  obtain ⟨c4, hc4⟩ : ∃ c1 : UInt8, c1 = UInt8.ofNat (s / 256) := ⟨_, rfl⟩
  obtain ⟨c5, hc5⟩ : ∃ c1 : UInt8, c1 = UInt8.ofNat s := ⟨_, rfl⟩
  have f1 : (s : Int) / 16777216 % 256 = (c1.toNat : Int) := by rw [hc1, u8_of]; omega
  have f2 : (s : Int) / 16777216 = (c1.toNat : Int) := by rw [hc1, u8_of]; omega
  have f3 : (s : Int) / 65536 % 256 = (c3.toNat : Int) := by rw [hc3, u8_of]; omega
  have f4 : (s : Int) / 256 % 256 = (c4.toNat : Int) := by rw [hc4, u8_of]; omega
  have f5 : (s : Int) % 256 = (c5.toNat : Int) := by rw [hc5, u8_of]
  have F2 := Lib.hid (show frameB p = ([h1, h2] ++ [c1, c3, c4, c5]) ++ p by rw [F.out, hc1, hc3, hc4, hc5]; rfl)
  have R4 := Lib.hid (own_lit w2 w2.heap.size (Nat.le_refl _) [c1, c3, c4, c5] #[.int .u8 c1.toNat, .int .u8 c3.toNat, .int .u8 c4.toNat, .int .u8 c5.toNat] 5 4 rfl rfl (by decide)).rd
  have K3 := Lib.hid ((Kept.refl w2 []).alloc (.cells #[.int .u8 c1.toNat, .int .u8 c3.toNat, .int .u8 c4.toNat, .int .u8 c5.toNat] 5))
  have hzw := K2.out.size
  clear hs hc1 hc3 hc4 hc5
  go_wp2_with fail
  refine (join_any _ _ [h1, h2] [c1, c3, c4, c5] _ (R2.out.kept K3.out (by simp)) R4.out (by simp) (by simp)).mono ?_
  rintro e w4 ⟨v4, rfl, ho, hk⟩
  have O4 := Lib.hid ho; have K4 := Lib.hid ((K2.out.trans K3.out (by simp)).trans hk (by simp))
  clear ho hk
  have hz4 := K4.out.size
  go_wp2_with fail
  refine (join_any _ _ ([h1, h2] ++ [c1, c3, c4, c5]) p _ O4.out.rd (H.out.kept K4.out (by simp)) (by simp) (by omega)).mono ?_
  rintro e w5 ⟨v5, rfl, ho, hk⟩
  have O5 := Lib.hid (show Own w5 w.heap.size 5 v5 (frameB p) by rw [F2.out]; exact ho.mono hz4); have K5 := Lib.hid (K4.out.trans hk (by simp))
  clear ho hk
  go_wp2
  go_ret
  exact ⟨_, rfl, O5.out, K5.out⟩

end Go.Proofs.Ytfhdblbiamdplaa
