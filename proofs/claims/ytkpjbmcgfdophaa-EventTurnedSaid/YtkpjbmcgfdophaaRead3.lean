/-
  The contracts of code.Reader's Int and Text.
-/
import Derived.Test.YtkpjbmcgfdophaaRefRead2
import Derived.Lib.SlBytesRow
namespace Go.Proofs.Ytkpjbmcgfdophaa
open Go.RowKit

set_option maxHeartbeats 1000000 in
set_option maxRecDepth 100000 in
theorem rint_any (r : Nat) (v : Value) (e : Int) (l : List UInt8) (w : World) (h : Rr w r v e l) (hl : l.length ≤ 1099511627796) :
    Calls Try.prog 30 #[.pointer (some ⟨r, 0, none⟩)] w fun en w' => en = .returned (.int .i64 (unzig (rNum e l).1)) ∧ ∃ v', Rr w' r v' (rNum e l).2.2 (rNum e l).2.1 ∧ Kept w w' [r] ∧ (∀ b, v'.ownBlock = some b → v.ownBlock = some b) := by
  have H := Lib.hid h; clear h
  have hn2 := rNum_lt e l
  obtain ⟨n, hn⟩ : ∃ n, n = (rNum e l).1 := ⟨_, rfl⟩
  rw [← hn] at hn2
  have Hn := Lib.hid hn; clear hn
  have hx2 : bits .and .u64 (n : Int) 1 = (n : Int) % 2 := Lib.u64_and1 n (by omega) (by omega)
  go_enter Try.func30, Try.ntmps30
  go_wp2_with fail
  refine (rnum_any r v e l w H.out hl).mono ?_
  rintro en w1 ⟨rfl, hq⟩
  have Hq := Lib.hid hq; clear hq
  rw [← Hn.out]
  by_cases ho : n % 2 = 1
  · have x1 : ((n : Int) % 2 == 1) = true := by simp; omega
    have Hu : RowKit.Hid (unzig n = -((n / 2 : Nat) : Int) - 1) := Lib.hid (by rw [unzig, if_pos ho])
    clear ho
    go_wp2
    all_goals
      go_ret
      refine ⟨ret_i64 ?_, Hq.out⟩
      rw [← Hn.out, Hu.out, show ((n : Int) / 2) = ((n / 2 : Nat) : Int) from by omega]
      exact Lib.i64_not (n / 2) (by omega)
  · have x1 : ((n : Int) % 2 == 1) = false := by simp; omega
    have Hu : RowKit.Hid (unzig n = ((n / 2 : Nat) : Int)) := Lib.hid (by rw [unzig, if_neg ho])
    clear ho
    go_wp2
    go_ret
    refine ⟨ret_i64 ?_, Hq.out⟩
    rw [← Hn.out, Hu.out]
    omega

/-- What a read of a text makes of the first error and the bytes that are left: the text, the bytes left, the first error. -/
def rTextOf (most : Int) (n : Nat) (l1 : List UInt8) (e1 : Int) : List UInt8 × List UInt8 × Int :=
  if e1 = 0 then (if max most 0 < (n : Int) then ([], [], 2) else if l1.length < n then ([], [], 3) else (l1.take n, l1.drop n, 0)) else ([], l1, e1)
def rText (most e : Int) (l : List UInt8) : List UInt8 × List UInt8 × Int := rTextOf most (rNum e l).1 (rNum e l).2.1 (rNum e l).2.2

/-- A text of these bytes. -/
def strL (l : List UInt8) : ByteArray := ⟨l.toArray⟩

theorem ret_str {a b : ByteArray} (h : a = b) : Ending.returned (.string a) = .returned (.string b) := by rw [h]

theorem conv_empty (w : World) (x : Option Addr) (k : Nat) : (convert 28 9 (.slice x 0 k)).run Try.prog w = .ok (.string ⟨#[]⟩) w := by
  rw [run_convert_bytes_string w 28 9 5 x 0 k Try.underlying28 Try.underlying5 Try.underlying9]
  cases x <;> simp [Conv.bytesToString, loadCells, loadCellsFrom] <;> rfl

theorem conv_take (w : World) (b o k n : Nat) (l : List UInt8) (hn : n ≤ l.length) (hcell : ∀ i, i < l.length → w.cell? ⟨b, o + i, none⟩ = some (.int .u8 (l.getD i 0).toNat)) :
    (convert 28 9 (.slice (some ⟨b, o, none⟩) n k)).run Try.prog w = .ok (.string (strL (l.take n))) w := by
  have h := run_convert_bytes_arg (P := Try.prog) w 28 5 Try.underlying28 Try.underlying5 b o n k ((l.take n).map fun x => (x.toNat : Int)) (by simp; omega) (fun i hi => by
    rw [hcell i (by omega)]
    simp [List.getD, hi, show i < l.length by omega]) 9 Try.underlying9
  rw [h]
  congr 2
  apply ByteArray.ext
  apply Array.toList_inj.1
  rw [strOfNums_data, List.map_map]
  show _ = l.take n
  conv => rhs; rw [← List.map_id (l.take n)]
  apply List.map_congr_left
  intro x _
  simp

set_option maxHeartbeats 1000000 in
set_option maxRecDepth 100000 in
theorem rtext_any (r : Nat) (v : Value) (most e : Int) (l : List UInt8) (w : World) (h : Rr w r v e l) (hl : l.length ≤ 1099511627796) (hm : -9223372036854775808 ≤ most ∧ most ≤ 9223372036854775807) :
    Calls Try.prog 29 #[.pointer (some ⟨r, 0, none⟩), .int .i64 most] w fun en w' => en = .returned (.string (strL (rText most e l).1)) ∧ ∃ v', Rr w' r v' (rText most e l).2.2 (rText most e l).2.1 ∧ Kept w w' [r] ∧ (∀ b, v'.ownBlock = some b → v.ownBlock = some b) := by
  have H := Lib.hid h; clear h
  obtain ⟨h1, h2⟩ := hm
  have hn2 := rNum_lt e l
  have hln := rNum_len e l
  obtain ⟨n, hn⟩ : ∃ n, n = (rNum e l).1 := ⟨_, rfl⟩
  obtain ⟨l1, hl1⟩ : ∃ l1, l1 = (rNum e l).2.1 := ⟨_, rfl⟩
  obtain ⟨e1, he1⟩ : ∃ e1, e1 = (rNum e l).2.2 := ⟨_, rfl⟩
  have hT : rText most e l = rTextOf most n l1 e1 := by rw [rText, ← hn, ← hl1, ← he1]
  rw [← hn] at hn2
  rw [← hl1] at hln
  have Hn := Lib.hid hn; have Hl1 := Lib.hid hl1; have He1 := Lib.hid he1; have HT := Lib.hid hT
  clear hn hl1 he1 hT
  go_enter Try.func29, Try.ntmps29
  go_wp2_with fail
  refine (rnum_any r v e l w H.out hl).mono ?_
  rintro en w1 ⟨rfl, v1, hr1, hk1, hb1⟩
  rw [← Hl1.out, ← He1.out] at hr1
  have Hr1 := Lib.hid hr1; have Hk1 := Lib.hid hk1; have Hb1 := Lib.hid hb1
  clear hr1 hk1 hb1
  rw [← Hn.out]
  go_wp2_with fail
  refine (error_any r v1 e1 l1 w1 Hr1.out).mono ?_
  rintro en w2 ⟨rfl, rfl⟩
  by_cases he : e1 = 0
  · subst he
    by_cases hmx : max most 0 < (n : Int)
    · have HX : RowKit.Hid (rText most e l = ([], [], 2)) := Lib.hid (by rw [HT.out, rTextOf, if_pos rfl, if_pos hmx])
      go_wp2_with fail
      refine (fail_any r v1 0 2 l1 w1 Hr1.out).mono ?_
      rintro en w3 ⟨rfl, q1, q2⟩
      have Q1 := Lib.hid q1; have Q2 := Lib.hid (Hk1.out.trans q2 (fun x hx => .inl hx)); clear q1 q2
      go_wp2
      go_ret
      rw [HX.out]
      exact ⟨rfl, _, Q1.out, Q2.out, by simp [Value.ownBlock]⟩
    · obtain ⟨c0, c1, f0, f1⟩ := Hr1.out.cells
      by_cases hlen : l1.length < n
      · have HX : RowKit.Hid (rText most e l = ([], [], 3)) := Lib.hid (by rw [HT.out, rTextOf, if_pos rfl, if_neg hmx, if_pos hlen])
        obtain ⟨a, c, hv, _⟩ := Hr1.out.2.1
        have Hv := Lib.hid hv
        rw [hv] at c0
        have hlen2 : (l1.length : Int) < (n : Int) := by omega
        clear hv
        go_wp2_with fail
        refine (fail_any r v1 0 3 l1 w1 Hr1.out).mono ?_
        rintro en w3 ⟨rfl, q1, q2⟩
        have Q1 := Lib.hid q1; have Q2 := Lib.hid (Hk1.out.trans q2 (fun x hx => .inl hx)); clear q1 q2
        go_wp2
        go_ret
        rw [HX.out]
        exact ⟨rfl, _, Q1.out, Q2.out, by simp [Value.ownBlock]⟩
      · have HX : RowKit.Hid (rText most e l = (l1.take n, l1.drop n, 0)) := Lib.hid (by rw [HT.out, rTextOf, if_pos rfl, if_neg hmx, if_neg hlen])
        have hlen2 : ¬ (l1.length : Int) < (n : Int) := by omega
        obtain ⟨a, c, hv, hcc, hna, hcell⟩ := Hr1.out.2.1
        by_cases hne : l1 = []
        · subst hne
          obtain rfl : n = 0 := by simpa using hlen
          have hcv : ∀ (x : Option Addr) (k : Nat), (convert 28 9 (.slice x 0 k)).run Try.prog w1 = .ok (.string ⟨#[]⟩) w1 := conv_empty w1
          have Hv := Lib.hid hv
          rw [hv] at c0
          clear hv hcell
          cases a with
          | none =>
            obtain rfl := hna rfl
            clear hna
            go_wp2
            go_ret
            rw [HX.out]
            have hk := (Kept.refl w1 [r]).setCell (p := ⟨r, 0, none⟩) (.inl (by simp)) (.slice none 0 0)
            exact ⟨rfl, .slice none 0 0, ⟨by simpa using heap_setCell_at Hr1.out.1 0 (.slice none 0 0), Rd.nil _, by simp [Value.ownBlock]⟩, Hk1.out.trans hk (fun x hx => .inl hx), by simp [Value.ownBlock]⟩
          | some x =>
            clear hna
            go_wp2
            go_ret
            rw [HX.out]
            have hk := (Kept.refl w1 [r]).setCell (p := ⟨r, 0, none⟩) (.inl (by simp)) (.slice (some x) 0 c)
            have hb : ∀ y, (Value.slice (some x) 0 c).ownBlock = some y → v1.ownBlock = some y := by rw [Hv.out]; exact fun y hy => hy
            exact ⟨rfl, .slice (some x) 0 c, ⟨by simpa using heap_setCell_at Hr1.out.1 0 (.slice (some x) 0 c), ⟨some x, c, rfl, Nat.zero_le _, by simp, fun h => absurd rfl h⟩, fun y hy => Hr1.out.2.2 y (hb y hy)⟩, Hk1.out.trans hk (fun x hx => .inl hx), fun y hy => Hb1.out y (hb y hy)⟩
        · obtain ⟨b, o, rfl, hcell2⟩ := hcell hne
          have hcv : ∀ k : Nat, (convert 28 9 (.slice (some ⟨b, o, none⟩) n k)).run Try.prog w1 = .ok (.string (strL (l1.take n))) w1 := fun k => conv_take w1 b o k n l1 (by omega) hcell2
          obtain ⟨S, hS⟩ : ∃ S, S = strL (l1.take n) := ⟨_, rfl⟩
          rw [← hS] at hcv
          have HS := Lib.hid hS; have Hv := Lib.hid hv; have Hcell := Lib.hid hcell2
          rw [hv] at c0
          clear hv hcell hcell2 hna hS
          by_cases hcs : c = n
          · subst hcs
            go_wp2
            go_ret
            obtain ⟨q1, q2, q3⟩ := Hr1.out.cut Hv.out Hcell.out c o 0 0 (by omega) (by omega) (by omega)
            rw [HX.out]
            exact ⟨ret_str HS.out, _, q1, Hk1.out.trans q2 (fun x hx => .inl hx), fun x hx => Hb1.out x (q3 x hx)⟩
          · have hcs' : (n : Int) < (c : Int) := by omega
            go_wp2
            go_ret
            obtain ⟨q1, q2, q3⟩ := Hr1.out.cut Hv.out Hcell.out n (o + n) (l1.length - n) (c - n) rfl (by omega) (fun _ => rfl)
            rw [HX.out]
            exact ⟨ret_str HS.out, _, q1, Hk1.out.trans q2 (fun x hx => .inl hx), fun x hx => Hb1.out x (q3 x hx)⟩
  · have x1 : (e1 != 0) = true := by simpa using he
    have HX : RowKit.Hid (rText most e l = ([], l1, e1)) := Lib.hid (by rw [HT.out, rTextOf, if_neg he])
    clear he
    go_wp2
    go_ret
    rw [HX.out]
    exact ⟨rfl, v1, Hr1.out, Hk1.out, Hb1.out⟩

end Go.Proofs.Ytkpjbmcgfdophaa
