/-
  The contract of code.Writer's Text; and of carrierref01.Bytes: are bytes alike?
-/
import Derived.Test.YtkpjbmcgfdophaaWriter
import Derived.Deep.QuietTactic
import Derived.BigQuiet
namespace Go.Proofs.Ytkpjbmcgfdophaa
open Go.RowKit

/-- The bytes of a text: how many, and these. -/
def textL (s : List UInt8) : List UInt8 := numL s.length ++ s

set_option maxHeartbeats 400000 in
set_option maxRecDepth 100000 in
theorem text_any (base p : Nat) (v : Value) (l : List UInt8) (s : ByteArray) (w : World) (hw : Wr w base p v l) (hbase : base ≤ w.heap.size) (hs : s.size ≤ 1099511627776) (hl : l.length ≤ 1099511627776) :
    Calls Try.prog 24 #[.pointer (some ⟨p, 0, none⟩), .string s] w fun e w' => e = .returned (.pointer (some ⟨p, 0, none⟩)) ∧ ∃ v', Wr w' base p v' (l ++ textL s.data.toList) ∧ Stp w w' [p] v v' := by
  obtain ⟨i0, hi, hz0, hz1, hz2⟩ := info_parts Try.infoB
  have Hw := Lib.hid hw; clear hw
  have Hsz : RowKit.Hid (s.data.toList.length = s.size) := Lib.hid (by rw [Array.length_toList]; rfl)
  go_enter Try.func24, Try.ntmps24
  go_wp2_with fail
  refine (num_any base p v l s.size w Hw.out hbase (by omega) hl).mono ?_
  rintro e wr ⟨rfl, v', hwr, hst⟩
  have hlen : (numL s.size).length ≤ 10 := numL_ten (by omega)
  have hll : (l ++ numL s.size).length ≤ 1099511627786 := by rw [List.length_append]; omega
  have hbr : base ≤ wr.heap.size := Nat.le_trans hbase hst.1.size
  have hc : wr.cell? ⟨p, 0, none⟩ = some v' := by simpa using cell_of_row wr p 0 #[v'] _ _ hwr.1
  have Hwr := Lib.hid hwr; clear hwr
  have Hst := Lib.hid hst; clear hst
  go_wp2_with (at_builtin; refine wpList_append_src _ rfl (.tmp 16) (.tmp 17) 28 9 rfl base 5 i0 (.int .u8 0) 1 1 Try.underlying28 hi hz0 hz1 hz2 rfl v' (l ++ numL s.size).length (bc (l ++ numL s.size)) rfl ?hown (.string s) s.size (bc s.data.toList) rfl (Src.ofString wr Try.underlying9 s) ?b1 ?b2 ?base ?next)
  case hown => exact Hwr.out.2
  case b1 => unfold maxLen; omega
  case b2 => omega
  case base => omega
  case next =>
    intro v2 w2 hown hgrow hblk _
    obtain ⟨hw2, hs2, k0, e0⟩ := Wr.step (m := s.data.toList) Hwr.out hown ((Kept.refl wr _).grown hgrow (fun k hk => .inl (by simp [hk]))) hblk
    obtain ⟨a2, n2, c2, hv2⟩ := Own.shape3 hw2.2
    have Hw2 := Lib.hid hw2; have Hs2 := Lib.hid hs2
    clear hw2 hs2 hown hgrow hblk hc
    subst hv2
    go_wp2
    go_ret
    refine ⟨rfl, _, ?_, Hst.out.trans Hs2.out⟩
    unfold textL
    rw [Hsz.out, ← List.append_assoc]
    exact Hw2.out

theorem alike_no {l m : List UInt8} {k : Nat} (h1 : k < l.length) (h2 : k < m.length) (h : ((l[k].toNat : Int) != (m[k].toNat : Int)) = true) : (l == m) = false := by
  rw [beq_eq_false_iff_ne]
  rintro rfl
  simp at h

theorem alike_step {l m : List UInt8} {k : Nat} (ht : l.take k = m.take k) (h1 : k < l.length) (h2 : k < m.length) (h : ((l[k].toNat : Int) != (m[k].toNat : Int)) = false) : l.take (k + 1) = m.take (k + 1) := by
  rw [List.take_succ_eq_append_getElem h1, List.take_succ_eq_append_getElem h2, ht]
  have : l[k] = m[k] := by
    apply UInt8.toNat.inj
    have h' : (l[k].toNat : Int) = m[k].toNat := by simpa using h
    omega
  rw [this]

theorem ret_bool {a b : Bool} (h : a = b) : Ending.returned (.bool a) = .returned (.bool b) := by rw [h]

set_option maxHeartbeats 400000 in
set_option maxRecDepth 100000 in
theorem alike_any (va vb : Value) (l m : List UInt8) (w : World) (ha : Rd w va l) (hb : Rd w vb m) (hl : l.length ≤ 9223372036854775807) :
    Calls Try.prog 14 #[va, vb] w fun e w' => e = .returned (.bool (l == m)) ∧ Kept w w' [] := by
  obtain ⟨a, c, rfl, hc, _, hla⟩ := ha
  obtain ⟨b, d, rfl, hd, _, hlb⟩ := hb
  by_cases hlen : l.length = m.length
  · by_cases hne : l = []
    · subst hne
      obtain rfl : m = [] := List.eq_nil_of_length_eq_zero (by simpa using hlen.symm)
      clear hla hlb hlen
      go_enter Try.func14, Try.ntmps14
      go_wp2
      go_loop [5] (fun t => t = .int .i64 0) (fun _ => 0)
      case atStart => rfl
      case round =>
        subst hrel
        go_wp2
        go_ret
        exact ⟨ret_bool (by simp), Kept.refl _ _⟩
    · obtain ⟨ab, ao, rfl, hca⟩ := hla hne
      obtain ⟨bb, bo, rfl, hcb⟩ := hlb (by rintro rfl; exact hne (List.eq_nil_of_length_eq_zero (by simpa using hlen)))
      have Hl := Lib.hid hlen
      have h1 : ((l.length : Int) != (m.length : Int)) = false := by simp; omega
      have h2 : m.length ≤ l.length := by omega
      have h3 : l.length ≤ m.length := by omega
      have Ca := Lib.hid hca; have Cb := Lib.hid hcb
      clear hca hcb hla hlb hlen
      go_enter Try.func14, Try.ntmps14
      go_wp2
      go_loopw [5] (fun t wr => ∃ k : Nat, k ≤ l.length ∧ t = .int .i64 k ∧ l.take k = m.take k ∧ ∃ q, wr = w.drewN q) (fun t _ => l.length - (intOf t).toNat)
      case atStart => exact ⟨0, Nat.zero_le _, rfl, rfl, 0, rfl⟩
      case round =>
        obtain ⟨k, hk, rfl, heq, q, rfl⟩ := hrel
        have He := Lib.hid heq; clear heq
        by_cases hlt : k < l.length
        · have c1 := Ca.out k hlt
          have c2 := Cb.out k (by omega)
          have hltm : k < m.length := by omega
          have x1 : (k : Int) < (l.length : Int) := by omega
          have x2 : (k : Int) < (m.length : Int) := by omega
          go_wp2
          go_quiet (fail)
          go_wp2
          · go_ret
            exact ⟨ret_bool (alike_no hlt hltm (by assumption)).symm, ((Kept.refl w []).drewN _).drewN _⟩
          · go_roundw
            case rel => exact ⟨k + 1, by omega, by go_num, alike_step He.out hlt hltm (by assumption), q + nq, rfl⟩
            case measure => simp [intOf]; omega
        · have hk2 : k = l.length := by omega
          have x1 : ¬ (k : Int) < (l.length : Int) := by omega
          have hfin : (l == m) = true := by
            rw [beq_iff_eq]
            have := He.out
            rw [List.take_of_length_le (by omega), List.take_of_length_le (by omega)] at this
            exact this
          have Hf := Lib.hid hfin; clear hfin hk2
          go_wp2
          go_ret
          exact ⟨ret_bool Hf.out.symm, (Kept.refl w []).drewN _⟩
  · have h0 : (l == m) = false := by rw [beq_eq_false_iff_ne]; rintro rfl; exact hlen rfl
    have h1 : ((l.length : Int) != (m.length : Int)) = true := by rw [bne_iff_ne]; omega
    have H0 := Lib.hid h0; clear h0 hla hlb
    go_enter Try.func14, Try.ntmps14
    go_wp2
    go_ret
    exact ⟨ret_bool (by rw [H0.out]), Kept.refl _ _⟩

end Go.Proofs.Ytkpjbmcgfdophaa
