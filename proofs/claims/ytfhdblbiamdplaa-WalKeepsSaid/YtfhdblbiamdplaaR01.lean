/-
  The contracts of carrierref01: Bytes (are bytes alike?) and Join.
-/
import Derived.Test.YtfhdblbiamdplaaRows
import Derived.Test.YtfhdblbiamdplaaFr
import Derived.Deep.QuietTactic
import Derived.BigQuiet
namespace Go.Proofs.Ytfhdblbiamdplaa
open Go.RowKit

theorem Try.infoB : (Try.prog.info? 5).map (fun i => (i.zero, i.size, i.bytes)) = some (some (.int .u8 0), 1, 1) := by kernel_rfl

theorem alike_no {l m : List UInt8} {k : Nat} (h1 : k < l.length) (h2 : k < m.length) (h : ((l[k].toNat : Int) != (m[k].toNat : Int)) = true) : (l == m) = false := by
  rw [beq_eq_false_iff_ne]
  rintro rfl
  simp at h

theorem alike_step {l m : List UInt8} {k : Nat} (ht : l.take k = m.take k) (h1 : k < l.length) (h2 : k < m.length) (h : ((l[k].toNat : Int) != (m[k].toNat : Int)) = false) : l.take (k + 1) = m.take (k + 1) := by
  rw [List.take_succ_eq_append_getElem h1, List.take_succ_eq_append_getElem h2, ht]
  have : l[k] = m[k] := by
    apply UInt8.toNat.inj
    have h' : (l[k].toNat : Int) = m[k].toNat := by simpa using h
    omega
  rw [this]

theorem ret_bool {a b : Bool} (h : a = b) : Ending.returned (.bool a) = .returned (.bool b) := by rw [h]

set_option maxHeartbeats 400000 in
set_option maxRecDepth 100000 in
theorem alike_any (va vb : Value) (l m : List UInt8) (w : World) (ha : Rd w va l) (hb : Rd w vb m) (hl : l.length ≤ 9223372036854775807) :
    Calls Try.prog 26 #[va, vb] w fun e w' => e = .returned (.bool (l == m)) ∧ Kept w w' [] := by
  obtain ⟨a, c, rfl, hc, _, hla⟩ := ha
  obtain ⟨b, d, rfl, hd, _, hlb⟩ := hb
  by_cases hlen : l.length = m.length
  · by_cases hne : l = []
    · subst hne
      obtain rfl : m = [] := List.eq_nil_of_length_eq_zero (by simpa using hlen.symm)
      clear hla hlb hlen
      go_enter Try.func26, Try.ntmps26
      go_wp2
      go_loop [5] (fun t => t = .int .i64 0) (fun _ => 0)
      case atStart => rfl
      case round =>
        subst hrel
        go_wp2
        go_ret
        exact ⟨ret_bool (by simp), Kept.refl _ _⟩
    · obtain ⟨ab, ao, rfl, hca⟩ := hla hne
      obtain ⟨bb, bo, rfl, hcb⟩ := hlb (by rintro rfl; exact hne (List.eq_nil_of_length_eq_zero (by simpa using hlen)))
      have Hl := Lib.hid hlen
      have h1 : ((l.length : Int) != (m.length : Int)) = false := by simp; omega
      have h2 : m.length ≤ l.length := by omega
      have h3 : l.length ≤ m.length := by omega
      have Ca := Lib.hid hca; have Cb := Lib.hid hcb
      clear hca hcb hla hlb hlen
      go_enter Try.func26, Try.ntmps26
      go_wp2
      go_loopw [5] (fun t wr => ∃ k : Nat, k ≤ l.length ∧ t = .int .i64 k ∧ l.take k = m.take k ∧ ∃ q, wr = w.drewN q) (fun t _ => l.length - (intOf t).toNat)
      case atStart => exact ⟨0, Nat.zero_le _, rfl, rfl, 0, rfl⟩
      case round =>
        obtain ⟨k, hk, rfl, heq, q, rfl⟩ := hrel
        have He := Lib.hid heq; clear heq
        by_cases hlt : k < l.length
        · have c1 := Ca.out k hlt
          have c2 := Cb.out k (by omega)
          have hltm : k < m.length := by omega
          have x1 : (k : Int) < (l.length : Int) := by omega
          have x2 : (k : Int) < (m.length : Int) := by omega
          go_wp2
          go_quiet (fail)
          go_wp2
          · go_ret
            exact ⟨ret_bool (alike_no hlt hltm (by assumption)).symm, ((Kept.refl w []).drewN _).drewN _⟩
          · go_roundw
            case rel => exact ⟨k + 1, by omega, by go_num, alike_step He.out hlt hltm (by assumption), q + nq, rfl⟩
            case measure => simp [intOf]; omega
        · have hk2 : k = l.length := by omega
          have x1 : ¬ (k : Int) < (l.length : Int) := by omega
          have hfin : (l == m) = true := by
            rw [beq_iff_eq]
            have := He.out
            rw [List.take_of_length_le (by omega), List.take_of_length_le (by omega)] at this
            exact this
          have Hf := Lib.hid hfin; clear hfin hk2
          go_wp2
          go_ret
          exact ⟨ret_bool Hf.out.symm, (Kept.refl w []).drewN _⟩
  · have h0 : (l == m) = false := by rw [beq_eq_false_iff_ne]; rintro rfl; exact hlen rfl
    have h1 : ((l.length : Int) != (m.length : Int)) = true := by rw [bne_iff_ne]; omega
    have H0 := Lib.hid h0; clear h0 hla hlb
    go_enter Try.func26, Try.ntmps26
    go_wp2
    go_ret
    exact ⟨ret_bool (by rw [H0.out]), Kept.refl _ _⟩

set_option maxHeartbeats 400000 in
set_option maxRecDepth 100000 in
theorem join_any (va vb : Value) (l m : List UInt8) (w : World) (ha : Rd w va l) (hb : Rd w vb m) (hl : l.length ≤ 1099511627776) (hm : m.length ≤ 1099511627776) :
    Calls Try.prog 34 #[va, vb] w fun e w' => ∃ v', e = .returned v' ∧ Own w' w.heap.size 5 v' (l ++ m) ∧ Kept w w' [] := by
  obtain ⟨i0, hi, hz0, hz1, hz2⟩ := info_parts Try.infoB
  have Ha := Lib.hid ha; have Hb := Lib.hid hb; clear ha hb
  go_enter Try.func34, Try.ntmps34
  go_wp2_with (at_builtin; refine wpList_append_src _ rfl (.tmp 6) (.tmp 7) 36 36 rfl w.heap.size 5 i0 (.int .u8 0) 1 1 Try.underlying36 hi hz0 hz1 hz2 rfl (.slice none 0 0) 0 [] rfl (Own.nil w _ _) va l.length (bc l) rfl (Ha.out.src Try.underlying36) ?b1 ?b2 ?base ?next)
  case b1 => unfold maxLen; omega
  case b2 => omega
  case base => omega
  case next =>
    intro v2 w2 hown hgrow _ _
    have ho : Own w2 w.heap.size 5 v2 l := by unfold Own; simpa using hown
    have hk : Kept w w2 [] := (Kept.refl w []).grown hgrow (fun k hk => by simp [Value.ownBlock] at hk)
    have hz : w.heap.size ≤ w2.heap.size := hk.size
    have Ho := Lib.hid ho; have Hk := Lib.hid hk
    clear ho hk hown hgrow
    go_wp2_with (at_builtin; refine wpList_append_src _ rfl (.tmp 9) (.tmp 10) 36 36 rfl w.heap.size 5 i0 (.int .u8 0) 1 1 Try.underlying36 hi hz0 hz1 hz2 rfl v2 l.length (bc l) rfl Ho.out vb m.length (bc m) rfl ((Hb.out.kept Hk.out (by simp)).src Try.underlying36) ?b1 ?b2 ?base ?next)
    case b1 => unfold maxLen; omega
    case b2 => omega
    case base => omega
    case next =>
      intro v3 w3 hown hgrow _ _
      have ho : Own w3 w.heap.size 5 v3 (l ++ m) := by unfold Own; rw [bc_append, List.length_append]; exact hown
      have hk : Kept w w3 [] := Hk.out.grown hgrow (fun k hk => .inr (Ho.out.lt k hk).1)
      have Ho3 := Lib.hid ho; have Hk3 := Lib.hid hk
      clear ho hk hown hgrow
      go_wp2
      go_ret
      exact ⟨_, rfl, Ho3.out, Hk3.out⟩


end Go.Proofs.Ytfhdblbiamdplaa
