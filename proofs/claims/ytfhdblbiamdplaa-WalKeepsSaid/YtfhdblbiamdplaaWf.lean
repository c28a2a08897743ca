/-
  The contract of wal's write: all a device's content is made what is told, by the blocks alone in which it is another one.
-/
import Derived.Test.YtfhdblbiamdplaaWe
import Derived.Test.YtfhdblbiamdplaaRefRest
namespace Go.Proofs.Ytfhdblbiamdplaa
open Go.RowKit

/-- The first i blocks of L, and behind them now's. -/
def mixL (L now : List UInt8) (i : Nat) : List UInt8 := L.take (32 * i) ++ now.drop (32 * i)

theorem mixL_zero (L now : List UInt8) : mixL L now 0 = now := by simp [mixL]
theorem mixL_all {L now : List UInt8} {n : Nat} (h1 : L.length = 32 * n) (h2 : now.length = 32 * n) : mixL L now n = L := by
  rw [mixL, List.take_of_length_le (by omega), List.drop_of_length_le (by omega), List.append_nil]
theorem mixL_length {L now : List UInt8} {n i : Nat} (h1 : L.length = 32 * n) (h2 : now.length = 32 * n) (hi : i ≤ n) : (mixL L now i).length = 32 * n := by
  simp [mixL]; omega
theorem mixL_blk {L now : List UInt8} {n i : Nat} (h1 : L.length = 32 * n) (hi : i < n) : blkOf (mixL L now i) i = blkOf now i := by
  have e : (L.take (32 * i)).length = 32 * i := by simp; omega
  rw [blkOf, mixL, List.drop_append, e, Nat.sub_self, List.drop_zero, List.drop_of_length_le (by omega), List.nil_append, blkOf]
theorem drop_blk {now : List UInt8} {i : Nat} : now.drop (32 * i) = blkOf now i ++ now.drop (32 * (i + 1)) := by
  rw [blkOf, show 32 * (i + 1) = 32 * i + 32 by omega, ← List.drop_drop, List.take_append_drop]
theorem mixL_step {L now : List UInt8} {i : Nat} (h : blkOf now i = blkOf L i) : mixL L now (i + 1) = mixL L now i := by
  rw [mixL, mixL, take_blk, List.append_assoc, ← h, ← drop_blk]
theorem mixL_lay {L now : List UInt8} {n i : Nat} (h1 : L.length = 32 * n) (hi : i < n) : lay (mixL L now i) i (blkOf L i) = mixL L now (i + 1) := by
  have e : (L.take (32 * i)).length = 32 * i := by simp; omega
  have eb : (blkOf L i).length = 32 := blkOf_length L n i h1 hi
  rw [lay, splice, eb, mixL, List.take_append, e, Nat.sub_self, List.take_zero, List.append_nil, List.take_of_length_le (by omega)]
  rw [List.drop_append, e, show 32 * i + 32 - 32 * i = 32 by omega, List.drop_of_length_le (by omega), List.nil_append, List.drop_drop]
  rw [mixL, take_blk, List.append_assoc, show 32 * i + 32 = 32 * (i + 1) by omega]

/-- What write leaves. -/
def Wrote (w : World) (B p gn gs n : Nat) (now safe L : List UInt8) (ws : List Wt) (w' : World) : Prop :=
  ∃ v' safe' ws', Dv w' B p gn gs v' n L safe' ws' ∧ L = laid safe' (pairs ws') ∧ (now = L → safe' = safe ∧ ws' = ws) ∧ (now ≠ L → safe' = L ∧ ws' = []) ∧ Fr B dts w w'

set_option maxHeartbeats 2000000 in
set_option maxRecDepth 100000 in
theorem wwrite_any {w : World} {B p gn gs n : Nat} {v : Value} {now safe : List UInt8} {ws : List Wt} (h : Dv w B p gn gs v n now safe ws) (vl : Value) (L : List UInt8) (hL : L.length = 32 * n) (hr : Rb w B 5 vl L) (hnow : now = laid safe (pairs ws)) (hws : ws.length ≤ 900000) (hB : B ≤ w.heap.size) :
    Calls Try.prog 56 #[.pointer (some ⟨p, 0, none⟩), vl] w fun e w' => e = .returned (.tuple #[]) ∧ Wrote w B p gn gs n now safe L ws w' := by
  have D := Lib.hid h; have R := Lib.hid hr; have HL := Lib.hid hL; have Now := Lib.hid hnow
  have hn12 := h.n12
  have hln := Lib.hid h.ln
  obtain ⟨a, c, rfl, hc, _⟩ := hr
  clear h hnow
  go_enter Try.func56, Try.ntmps56
  go_wp2_with fail
  refine (size_any D.out).mono ?_
  rintro e w0 ⟨rfl, rfl⟩
  go_wp2
  go_loopw [4, 11] (fun t4 t11 wr => ∃ (i : Nat) (r : Bool) (v' : Value) (ws' : List Wt), t4 = .bool r ∧ t11 = .int .i64 i ∧ i ≤ n ∧ Dv wr B p gn gs v' n (mixL L now i) safe ws' ∧ mixL L now i = laid safe (pairs ws') ∧ (r = false → ws' = ws ∧ now = mixL L now i) ∧ (r = true → now ≠ L) ∧ ws'.length ≤ ws.length + i ∧ Fr B dts w wr) (fun _ t11 _ => n - (intOf t11).toNat)
  case atStart => exact ⟨0, false, _, ws, rfl, rfl, Nat.zero_le _, by rw [mixL_zero]; exact D.out, by rw [mixL_zero]; exact Now.out, fun _ => ⟨rfl, (mixL_zero _ _).symm⟩, fun h => by simp at h, by omega, Fr.refl _ _ _⟩
  case round =>
    obtain ⟨i, r, v', ws', rfl, rfl, hin, hd, hlaid, hno, hyes, hlw, hf⟩ := hrel
    have Dr := Lib.hid hd; have La := Lib.hid hlaid; have No := Lib.hid hno; have Yes := Lib.hid hyes; have F := Lib.hid hf
    have hzr := hf.size
    clear hd hlaid hno hyes hf
    by_cases hlt : i < n
    · have x1 : (i : Int) < (n : Int) := by omega
      obtain ⟨k, hk⟩ : ∃ k, k = 32 * i := ⟨_, rfl⟩
      have e1 : (i : Int) * 32 = (k : Int) := by omega
      obtain ⟨lb, lo, ha⟩ : ∃ lb lo, a = some ⟨lb, lo, none⟩ := by
        obtain ⟨_, _, e, _, _, hh⟩ := R.out
        simp only [Value.slice.injEq, true_and] at e
        obtain ⟨rfl, rfl⟩ := e
        obtain ⟨lb, lo, e, _⟩ := hh (by rintro rfl; simp at hL; omega)
        exact ⟨lb, lo, e⟩
      subst ha
      have W0 := (R.out.frame F.out (Nat.le_refl _) (by decide)).sub k 32 (c - k) (by omega) (by omega) (by decide)
      have eW : (L.drop k).take 32 = blkOf L i := by rw [hk]; rfl
      rw [eW] at W0
      have W := Lib.hid W0
      have x2 : (k : Int) ≤ (L.length : Int) := by omega
      have x3 : (32 : Int) ≤ (c : Int) - (k : Int) := by omega
      have x4 : (L.length : Int) ≤ (c : Int) := by omega
      have x5 : ¬ c = k := by omega
      have bl := Lib.hid (blkOf_length L n i hL hlt)
      have mb := Lib.hid (mixL_blk (now := now) hL hlt)
      clear hk eW W0
      go_wp2_with fail
      refine (read_ok Dr.out i hlt).mono ?_
      rintro e w2 ⟨v2, rfl, ho, hkk⟩
      rw [mb.out] at ho
      have O2 := Lib.hid ho; have F2 := Lib.hid (F.out.trans (Fr.ofKept hkk _ _)); have K2 := Lib.hid hkk
      have D2 := Lib.hid (Dr.out.frame (Fr.ofKept hkk 0 []) (by simp) (by simp) (by simp))
      obtain ⟨a2, n2, c2, hv2⟩ := Own.shape3 ho
      subst hv2
      have hz2 := hkk.size
      clear ho hkk
      go_wp2_with fail
      refine (beq_any _ _ (blkOf now i) (blkOf L i) w2 O2.out.rd (W.out.rd.kept K2.out (by simp))).mono ?_
      rintro e w3 ⟨rfl, rfl⟩
      by_cases heq : blkOf now i = blkOf L i
      · have d1 : (blkOf now i == blkOf L i) = true := by rw [heq]; simp
        have ms := Lib.hid (mixL_step heq)
        clear heq
        go_wp2
        go_roundw
        case rel => exact ⟨i + 1, r, v', ws', rfl, by go_num, by omega, by rw [ms.out]; exact D2.out, by rw [ms.out]; exact La.out, by rw [ms.out]; exact No.out, Yes.out, by omega, F2.out⟩
        case measure => simp [intOf]; omega
      · have d1 : (blkOf now i == blkOf L i) = false := by rw [beq_eq_false_iff_ne]; exact heq
        have ne := Lib.hid (show now ≠ L from fun h => heq (by rw [h]))
        have ml := Lib.hid (mixL_lay (now := now) HL.out hlt)
        clear heq
        go_wp2_with fail
        refine (write_ok D2.out i hlt _ (blkOf L i) (by rw [bl.out]; omega) (W.out.frame (Fr.ofKept K2.out B []) (Nat.le_refl _) (by simp)) (by omega) (by omega)).mono ?_
        rintro e w4 ⟨rfl, v4, hd, hf⟩
        rw [ml.out] at hd
        have D4 := Lib.hid hd; have F4 := Lib.hid (F2.out.trans hf)
        have la4 := Lib.hid (show mixL L now (i + 1) = laid safe (pairs (ws' ++ [⟨i, (blkOf L i).length, splice (noughts 1) 0 (blkOf L i)⟩])) by rw [pairs_snoc, laid_snoc, ← La.out, ml.out])
        clear hd hf
        go_wp2
        go_roundw
        case rel => exact ⟨i + 1, true, v4, _, rfl, by go_num, by omega, D4.out, la4.out, fun h => by simp at h, fun _ => ne.out, by simp; omega, F4.out⟩
        case measure => simp [intOf]; omega
    · obtain rfl : i = n := by omega
      have x1 : ¬ (i : Int) < (i : Int) := by omega
      have ma := mixL_all HL.out hln.out
      rw [ma] at Dr La No
      cases r with
      | false =>
        have w1 := Lib.hid (No.out rfl)
        go_wp2
        go_end0
        exact ⟨rfl, v', safe, ws', Dr.out, La.out, fun _ => ⟨rfl, w1.out.1⟩, fun h => absurd w1.out.2 h, F.out⟩
      | true =>
        have ne := Lib.hid (Yes.out rfl)
        have ss := Lib.hid (sync_safe i safe L ws' Dr.out.ls Dr.out.hw La.out)
        go_wp2_with fail
        refine (sync_any Dr.out (by omega)).mono ?_
        rintro e w4 ⟨rfl, hd, hf⟩
        rw [ss.out] at hd
        have D4 := Lib.hid hd; have F4 := Lib.hid (F.out.trans hf)
        clear hd hf
        go_wp2
        go_end0
        exact ⟨rfl, _, L, [], D4.out, rfl, fun h => absurd h ne.out, fun _ => ⟨rfl, rfl⟩, F4.out⟩

end Go.Proofs.Ytfhdblbiamdplaa
