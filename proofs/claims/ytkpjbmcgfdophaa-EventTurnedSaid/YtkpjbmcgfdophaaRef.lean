/-
  The contracts of the document's own answers for layer 2: carrierref01.Join, carrierref02.Num, Int, Text.
-/
import Derived.Test.YtkpjbmcgfdophaaRead2
import Derived.Lib.ConvBytes
namespace Go.Proofs.Ytkpjbmcgfdophaa
open Go.RowKit

/-- What '[]byte(s)' lays. -/
theorem rd_conv (w : World) (e : TypeId) (s : ByteArray) : Rd (Lib.bytesWorld w e s) (.slice (some ⟨w.heap.size, 0, none⟩) s.size (grownCap w s.size 0 e)) s.data.toList ∧ Kept w (Lib.bytesWorld w e s) [] := by
  have hsz : s.data.toList.length = s.size := by rw [Array.length_toList]; rfl
  refine ⟨⟨_, _, by rw [hsz], by rw [hsz]; exact grownCap_ge _ _ _ _, by simp, fun _ => ⟨w.heap.size, 0, rfl, fun i hi => ?_⟩⟩, ⟨?_, ?_, ?_, ?_, fun k hk _ => Lib.bytesWorld_at_old w e s k hk⟩⟩
  · rw [Nat.zero_add]; exact Lib.bytesWorld_cell w e s i (by omega)
  · simp [Lib.bytesWorld, World.freeze]; rfl
  · simp [Lib.bytesWorld, World.freeze]
  · simp [Lib.bytesWorld, World.freeze]; rfl
  · rw [Lib.bytesWorld_size]; omega

set_option maxHeartbeats 400000 in
set_option maxRecDepth 100000 in
theorem join_any (va vb : Value) (l m : List UInt8) (w : World) (ha : Rd w va l) (hb : Rd w vb m) (hl : l.length ≤ 1099511627776) (hm : m.length ≤ 1099511627776) :
    Calls Try.prog 17 #[va, vb] w fun e w' => ∃ v', e = .returned v' ∧ Own w' w.heap.size 5 v' (l ++ m) ∧ Kept w w' [] := by
  obtain ⟨i0, hi, hz0, hz1, hz2⟩ := info_parts Try.infoB
  have Ha := Lib.hid ha; have Hb := Lib.hid hb; clear ha hb
  go_enter Try.func17, Try.ntmps17
  go_wp2_with (at_builtin; refine wpList_append_src _ rfl (.tmp 6) (.tmp 7) 28 28 rfl w.heap.size 5 i0 (.int .u8 0) 1 1 Try.underlying28 hi hz0 hz1 hz2 rfl (.slice none 0 0) 0 [] rfl (Own.nil w _ _) va l.length (bc l) rfl (Ha.out.src Try.underlying28) ?b1 ?b2 ?base ?next)
  case b1 => unfold maxLen; omega
  case b2 => omega
  case base => omega
  case next =>
    intro v2 w2 hown hgrow _ _
    have ho : Own w2 w.heap.size 5 v2 l := by unfold Own; simpa using hown
    have hk : Kept w w2 [] := (Kept.refl w []).grown hgrow (fun k hk => by simp [Value.ownBlock] at hk)
    have hz : w.heap.size ≤ w2.heap.size := hk.size
    have Ho := Lib.hid ho; have Hk := Lib.hid hk
    clear ho hk hown hgrow
    go_wp2_with (at_builtin; refine wpList_append_src _ rfl (.tmp 9) (.tmp 10) 28 28 rfl w.heap.size 5 i0 (.int .u8 0) 1 1 Try.underlying28 hi hz0 hz1 hz2 rfl v2 l.length (bc l) rfl Ho.out vb m.length (bc m) rfl ((Hb.out.kept Hk.out (by simp)).src Try.underlying28) ?b1 ?b2 ?base ?next)
    case b1 => unfold maxLen; omega
    case b2 => omega
    case base => omega
    case next =>
      intro v3 w3 hown hgrow _ _
      have ho : Own w3 w.heap.size 5 v3 (l ++ m) := by unfold Own; rw [bc_append, List.length_append]; exact hown
      have hk : Kept w w3 [] := Hk.out.grown hgrow (fun k hk => .inr (Ho.out.lt k hk).1)
      have Ho3 := Lib.hid ho; have Hk3 := Lib.hid hk
      clear ho hk hown hgrow
      go_wp2
      go_ret
      exact ⟨_, rfl, Ho3.out, Hk3.out⟩

set_option maxHeartbeats 1000000 in
set_option maxRecDepth 100000 in
theorem refnum_any (n : Nat) (w : World) (hn : n ≤ 18446744073709551615) :
    Calls Try.prog 19 #[.int .u64 n] w fun e w' => ∃ v', e = .returned v' ∧ Own w' w.heap.size 5 v' (numL n) ∧ Kept w w' [] := by
  obtain ⟨i0, hi, hz0, hz1, hz2⟩ := info_parts Try.infoB
  go_enter Try.func19, Try.ntmps19
  go_wp2
  go_loopw [0, 3] (fun t s wr => ∃ (m : Nat) (l' : List UInt8) (x : Value), t = .int .u64 m ∧ s = x ∧ m ≤ n ∧ numL n = l' ++ numL m ∧ l'.length + (numL m).length ≤ 10 ∧ Own wr w.heap.size 5 x l' ∧ Kept w wr []) (fun t _ _ => (intOf t).toNat)
  case atStart => exact ⟨n, [], _, rfl, rfl, by omega, rfl, by have := numL_ten (n := n) (by omega); simpa using this, Own.nil _ _ _, Kept.refl _ _⟩
  case round =>
    obtain ⟨m, l', x, rfl, rfl, hmn, hnum, hlen, hown, hk⟩ := hrel
    have hpos := numL_pos m
    have hbr : w.heap.size ≤ wr.heap.size := hk.size
    have Hnum := Lib.hid hnum; have Hown := Lib.hid hown; have Hk := Lib.hid hk
    clear hnum hown hk
    by_cases hlt : 127 < m
    · have H2 := Lib.hid (numL_great (n := m) (by omega))
      go_wp2_with (at_builtin; refine wpList_append_src _ rfl (.tmp 6) (.tmp 11) 28 28 rfl w.heap.size 5 i0 (.int .u8 0) 1 1 Try.underlying28 hi hz0 hz1 hz2 rfl _ l'.length (bc l') rfl ?hown _ 1 [.int .u8 ((m : Int) % 128 + 128)] rfl (src_one Try.underlying28 wr _ rfl _) ?b1 ?b2 ?base ?next)
      case hown => exact World.ownsRow.alloc Hown.out _
      case b1 => unfold maxLen; omega
      case b2 => omega
      case base => first | omega | (simp; omega)
      case next =>
        intro v2 w2 hown hgrow _ _
        have e1 : bc [UInt8.ofNat (m % 128 + 128)] = [Value.int .u8 ((m : Int) % 128 + 128)] := by rw [bc_nat (by omega)]; simp
        rw [← e1] at hown
        have ho : Own w2 w.heap.size 5 v2 (l' ++ [UInt8.ofNat (m % 128 + 128)]) := by unfold Own; rw [bc_append, List.length_append]; exact hown
        have hk : Kept w w2 [] := (Hk.out.alloc _).grown hgrow (fun k hk => .inr (Hown.out.lt k hk).1)
        have Ho := Lib.hid ho; have Hk2 := Lib.hid hk
        clear ho hk hown hgrow e1
        go_wp2
        go_roundw
        case rel =>
          refine ⟨m / 128, l' ++ [UInt8.ofNat (m % 128 + 128)], _, by go_num, rfl, by omega, ?_, ?_, Ho.out, Hk2.out⟩
          · rw [Hnum.out, H2.out]; simp
          · have := H2.out; rw [this] at hlen; simp at hlen ⊢; omega
        case measure => simp [intOf]; omega
    · have H2 := Lib.hid (numL_small (n := m) (by omega))
      have hm : ¬ (127 : Int) < (m : Int) := by omega
      go_wp2_with (at_builtin; refine wpList_append_src _ rfl (.tmp 15) (.tmp 18) 28 28 rfl w.heap.size 5 i0 (.int .u8 0) 1 1 Try.underlying28 hi hz0 hz1 hz2 rfl _ l'.length (bc l') rfl ?hown _ 1 [.int .u8 (m : Int)] rfl (src_one Try.underlying28 wr _ rfl _) ?b1 ?b2 ?base ?next)
      case hown => exact World.ownsRow.alloc Hown.out _
      case b1 => unfold maxLen; omega
      case b2 => omega
      case base => first | omega | (simp; omega)
      case next =>
        intro v2 w2 hown hgrow _ _
        have e1 : bc [UInt8.ofNat m] = [Value.int .u8 (m : Int)] := bc_nat (by omega)
        rw [← e1] at hown
        have ho : Own w2 w.heap.size 5 v2 (numL n) := by rw [Hnum.out, H2.out]; unfold Own; rw [bc_append, List.length_append]; exact hown
        have hk : Kept w w2 [] := (Hk.out.alloc _).grown hgrow (fun k hk => .inr (Hown.out.lt k hk).1)
        have Ho := Lib.hid ho; have Hk2 := Lib.hid hk
        clear ho hk hown hgrow e1
        go_wp2
        go_ret
        exact ⟨_, rfl, Ho.out, Hk2.out⟩

set_option maxHeartbeats 400000 in
set_option maxRecDepth 100000 in
theorem refint_any (n : Int) (w : World) (hn : -9223372036854775808 ≤ n ∧ n ≤ 9223372036854775807) :
    Calls Try.prog 33 #[.int .i64 n] w fun e w' => ∃ v', e = .returned v' ∧ Own w' w.heap.size 5 v' (intL n) ∧ Kept w w' [] := by
  obtain ⟨h1, h2⟩ := hn
  have hz := Lib.zigzag_lt h1 h2
  by_cases h0 : 0 ≤ n
  · go_enter Try.func33, Try.ntmps33
    go_wp2_with fail
    rw [show (2 * n : Int) = ((Lib.zigzag n : Nat) : Int) from by rw [Lib.zigzag_nonneg h0]; omega]
    refine (refnum_any (Lib.zigzag n) w (by omega)).mono ?_
    rintro e w1 ⟨v1, rfl, ho, hk⟩
    have Ho := Lib.hid ho; have Hk := Lib.hid hk; clear ho hk
    go_wp2
    go_ret
    exact ⟨_, rfl, Ho.out, Hk.out⟩
  · go_enter Try.func33, Try.ntmps33
    go_wp2_with fail
    rw [show (2 * -(n + 1) + 1 : Int) = ((Lib.zigzag n : Nat) : Int) from by unfold Lib.zigzag; rw [if_neg (by omega)]; omega]
    refine (refnum_any (Lib.zigzag n) w (by omega)).mono ?_
    rintro e w1 ⟨v1, rfl, ho, hk⟩
    have Ho := Lib.hid ho; have Hk := Lib.hid hk; clear ho hk
    go_wp2
    go_ret
    exact ⟨_, rfl, Ho.out, Hk.out⟩

set_option maxHeartbeats 400000 in
set_option maxRecDepth 100000 in
theorem reftext_any (s : ByteArray) (w : World) (hs : s.size ≤ 1099511627776) :
    Calls Try.prog 32 #[.string s] w fun e w' => ∃ v', e = .returned v' ∧ Own w' w.heap.size 5 v' (textL s.data.toList) ∧ Kept w w' [] := by
  go_enter Try.func32, Try.ntmps32
  go_wp2_with fail
  refine (refnum_any s.size w (by omega)).mono ?_
  rintro e w1 ⟨v1, rfl, ho, hk⟩
  have Ho := Lib.hid ho; have Hk := Lib.hid hk; clear ho hk
  have hcv := Lib.run_convert_string_bytes w1 9 28 5 s Try.underlying9 Try.underlying28 Try.underlying5
  obtain ⟨rdc, hkc⟩ := rd_conv w1 5 s
  obtain ⟨vc, hvc⟩ : ∃ vc, vc = Value.slice (some ⟨w1.heap.size, 0, none⟩) s.size (grownCap w1 s.size 0 5) := ⟨_, rfl⟩
  obtain ⟨wc, hwc⟩ : ∃ wc, wc = Lib.bytesWorld w1 5 s := ⟨_, rfl⟩
  rw [← hvc, ← hwc] at hcv rdc
  rw [← hwc] at hkc
  have Rc := Lib.hid rdc; have Kc := Lib.hid hkc
  clear rdc hkc hvc hwc
  have hlen := numL_ten (n := s.size) (by omega)
  go_wp2_with fail
  refine (join_any v1 vc _ _ wc ((Ho.out.rd).kept Kc.out (by simp)) Rc.out (by omega) (by rw [Array.length_toList]; exact hs)).mono ?_
  rintro e w2 ⟨v2, rfl, ho2, hk2⟩
  have hsz : s.data.toList.length = s.size := by rw [Array.length_toList]; rfl
  have Ho2 := Lib.hid (Own.mono ho2 (Nat.le_trans Hk.out.size Kc.out.size)); have Hk2 := Lib.hid ((Hk.out.trans Kc.out (by simp)).trans hk2 (by simp))
  have Hsz := Lib.hid hsz
  clear ho2 hk2 hcv hsz
  go_wp2
  go_ret
  exact ⟨_, rfl, by unfold textL; rw [Hsz.out]; exact Ho2.out, Hk2.out⟩

end Go.Proofs.Ytkpjbmcgfdophaa
