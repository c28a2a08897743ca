/-
  The contract of wal's Append.
-/
import Derived.Test.YtfhdblbiamdplaaWk
namespace Go.Proofs.Ytfhdblbiamdplaa
open Go.RowKit

theorem append_bad {q : Nat} (w : World) (a : Option Addr) (n c : Nat) (h : n = 0 ∨ 4000 < n) : Calls Try.prog 19 #[.pointer (some ⟨q, 0, none⟩), .slice a n c] w fun e w' => e = .returned (.int .i64 1) ∧ w = w' := by
  by_cases h0 : n = 0
  · subst h0
    clear h
    go_enter Try.func19, Try.ntmps19
    go_wp2
    go_ret
    exact ⟨rfl, rfl⟩
  · have h1 : (4000 : Int) < (n : Int) := by omega
    have h2 : ((n : Int) == 0) = false := by rw [beq_eq_false_iff_ne]; omega
    clear h
    go_enter Try.func19, Try.ntmps19
    go_wp2
    go_ret
    exact ⟨rfl, rfl⟩

set_option maxHeartbeats 1000000 in
set_option maxRecDepth 100000 in
theorem append_full {w : World} {B p gn gs n q s : Nat} {v : Value} {now safe : List UInt8} {ws : List Wt} (D : Dv w B p gn gs v n now safe ws) (G : Lg w q p s) (hs : s ≤ 32 * n) (a : Option Addr) (m c : Nat) (h1 : 1 ≤ m) (h2 : m ≤ 4000) (hf : 32 * n - s < 6 + m) :
    Calls Try.prog 19 #[.pointer (some ⟨q, 0, none⟩), .slice a m c] w fun e w' => e = .returned (.int .i64 8) ∧ Kept w w' [] := by
  have x1 : ¬ (4000 : Int) < (m : Int) := by omega
  have x2 : ((m : Int) == 0) = false := by rw [beq_eq_false_iff_ne]; omega
  obtain ⟨r, hr⟩ : ∃ r, r = 32 * n - s := ⟨_, rfl⟩
  have x3 : (r : Int) < 6 + (m : Int) := by omega
  have HD := Lib.hid D; have HG := Lib.hid G; have Hs := Lib.hid hs; have Hr := Lib.hid hr
  clear D G hs hf hr
  go_enter Try.func19, Try.ntmps19
  go_wp2_with fail
  refine (room_any HD.out HG.out Hs.out).mono ?_
  rintro e w1 ⟨rfl, hk⟩
  rw [← Hr.out]
  have K := Lib.hid hk; clear hk
  go_wp2
  go_ret
  exact ⟨rfl, K.out⟩

set_option maxHeartbeats 1000000 in
set_option maxRecDepth 100000 in
theorem append_ok {w : World} {B p gn gs n q s : Nat} {v : Value} {now safe : List UInt8} {ws : List Wt} (D : Dv w B p gn gs v n now safe ws) (G : Lg w q p s) (vp : Value) (l : List UInt8) (hr : Rd w vp l) (h1 : 1 ≤ l.length) (h2 : l.length ≤ 4000) (hf : s + (6 + l.length) ≤ 32 * n) (hws : ws.length ≤ 900000) (hB : B ≤ w.heap.size) (hq : B ≤ q) :
    Calls Try.prog 19 #[.pointer (some ⟨q, 0, none⟩), vp] w fun e w' => e = .returned (.int .i64 0) ∧ Laid w B p gn gs n q s now safe (frameB l) ws w' := by
  have HD := Lib.hid D; have HG := Lib.hid G; have R := Lib.hid hr; have Hf := Lib.hid hf
  obtain ⟨a, c, rfl, _⟩ := hr
  have x1 : ¬ (4000 : Int) < (l.length : Int) := by omega
  have x2 : ((l.length : Int) == 0) = false := by rw [beq_eq_false_iff_ne]; omega
  obtain ⟨r, hrr⟩ : ∃ r, r = 32 * n - s := ⟨_, rfl⟩
  have x3 : ¬ (r : Int) < 6 + (l.length : Int) := by omega
  have Hr := Lib.hid hrr
  clear D G hf hrr
  go_enter Try.func19, Try.ntmps19
  go_wp2_with fail
  refine (room_any HD.out HG.out (by have := Hf.out; omega)).mono ?_
  rintro e w1 ⟨rfl, hk⟩
  rw [← Hr.out]
  have K := Lib.hid hk; clear hk
  go_wp2_with fail
  refine (frame_any _ l w1 (R.out.kept K.out (by simp)) (by omega)).mono ?_
  rintro e w2 ⟨v2, rfl, ho, hk⟩
  have O := Lib.hid ho; have K2 := Lib.hid (K.out.trans hk (by simp))
  obtain ⟨a2, n2, c2, hv2⟩ := Own.shape3 ho
  subst hv2
  have hz2 := K2.out.size
  clear ho hk
  go_wp2_with fail
  refine (lay_any (HD.out.frame (Fr.ofKept K2.out 0 []) (by simp) (by simp) (by simp)) (HG.out.frame (Fr.ofKept K2.out 0 []) (by simp)) _ (frameB l) (O.out.rb B) (by rw [frameB_length]; have := Hf.out; omega) hws (by omega) hq).mono ?_
  rintro e w3 ⟨rfl, v3, ws3, q1, q2, q3, q4, q5⟩
  have Q := Lib.hid (show Laid w B p gn gs n q s now safe (frameB l) ws w3 from ⟨v3, ws3, q1, q2, q3, q4, (Fr.ofKept K2.out B lts).trans q5⟩)
  clear q1 q2 q3 q4 q5
  go_wp2
  go_ret
  exact ⟨rfl, Q.out⟩

theorem first_zero {b : List UInt8} (h : firstN b = 0) : firstB b = [] := by
  unfold firstB
  rw [h, List.take_zero]
  split
  · rfl
  · split
    · rfl
    · split <;> rfl

theorem firstN_noughts (c : Nat) : firstN (noughts c) = 0 := by
  have h : ∀ i, (noughts c).getD i 0 = 0 := fun i => by
    simp only [noughts, List.getD, List.getElem?_replicate]
    split <;> rfl
  rw [firstN, h, h]
  rfl

theorem scan_noughts (c : Nat) : scan (noughts c) = [] := scan_nil (first_zero (firstN_noughts c))
theorem clr_noughts (c : Nat) : clr (noughts c) = noughts c := by
  rw [clr, scan_noughts]
  simp [szs, noughts]

end Go.Proofs.Ytfhdblbiamdplaa
