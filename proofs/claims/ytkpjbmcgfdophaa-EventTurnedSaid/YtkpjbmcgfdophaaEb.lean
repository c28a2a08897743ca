/-
  The contracts of package event's reader of fields (num, end) and of Decode.
-/
import Derived.Test.YtkpjbmcgfdophaaEa
import Derived.Test.YtkpjbmcgfdophaaLaws
namespace Go.Proofs.Ytkpjbmcgfdophaa
open Go.RowKit

set_option maxHeartbeats 400000 in
set_option maxRecDepth 100000 in
theorem new_any2 (v : Value) (l : List UInt8) (w : World) (h : Rd w v l) (hl : l.length ≤ 1099511627796) :
    Calls Try.prog 27 #[v] w fun e w' => ∃ r v', e = .returned (.pointer (some ⟨r, 0, none⟩)) ∧ Rr w' r v' 0 l ∧ w.heap.size ≤ r ∧ r < w'.heap.size ∧ (∀ b, v'.ownBlock = some b → w.heap.size ≤ b ∧ b < w'.heap.size) ∧ Kept w w' [] := by
  have H := Lib.hid h; clear h
  go_enter Try.func27, Try.ntmps27
  go_wp2_with fail
  refine (clone_any v l w H.out hl).mono ?_
  rintro e w1 ⟨v', rfl, ho, hk⟩
  obtain ⟨a2, n2, c2, hv2⟩ := ho.shape3
  have Ho := Lib.hid ho; have Hk := Lib.hid hk; clear ho hk
  subst hv2
  go_wp2
  go_ret
  have hs := Hk.out.size
  refine ⟨w1.heap.size, _, rfl, ⟨heap_alloc_new w1 _, (Ho.out.rd).kept (((Kept.refl w1 []).alloc _)) (by simp), ?_⟩, hs, by simp, fun b hb => ⟨(Ho.out.lt b hb).1, by have := (Ho.out.lt b hb).2; simp; omega⟩, Hk.out.alloc _⟩
  intro b hb
  have := (Ho.out.lt b hb).2
  omega

/-- A reader of fields at q, its reader of bytes at r. -/
def Er (w : World) (q r : Nat) (v : Value) (s : Sd) : Prop :=
  w.heap[q]? = some (.cells #[.pointer (some ⟨r, 0, none⟩), .bool s.bad] 56 (0, 0)) ∧ Rr w r v s.e s.l ∧ (∀ b, v.ownBlock = some b → b ≠ q) ∧ q ≠ r

theorem Er.cells {w : World} {q r : Nat} {v : Value} {s : Sd} (h : Er w q r v s) :
    w.cell? ⟨q, 0, none⟩ = some (.pointer (some ⟨r, 0, none⟩)) ∧ w.cell? ⟨q, 1, none⟩ = some (.bool s.bad) ∧ w.frozen? ⟨q, 1, none⟩ = false :=
  ⟨by simpa using cell_of_row w q 0 _ _ _ h.1, by simpa using cell_of_row w q 1 _ _ _ h.1, frozen_of_row w q 1 _ _ h.1⟩

theorem Er.kept {w w' : World} {q r : Nat} {v : Value} {s : Sd} {bs : List Nat} (h : Er w q r v s) (hk : Kept w w' bs) (hq : q ∉ bs) (hr : r ∉ bs) (hb : ∀ b, v.ownBlock = some b → b ∉ bs) : Er w' q r v s :=
  ⟨hk.heap hq h.1, h.2.1.kept hk hr hb, h.2.2⟩

/-- What was read from the reader of bytes. -/
theorem Er.read {w w' : World} {q r : Nat} {v v' : Value} {s : Sd} (h : Er w q r v s) {e' : Int} {l' : List UInt8} (hr : Rr w' r v' e' l') (hk : Kept w w' [r]) (hb : ∀ b, v'.ownBlock = some b → v.ownBlock = some b) : Er w' q r v' ⟨s.bad, e', l'⟩ :=
  ⟨hk.heap (by simpa using h.2.2.2) h.1, hr, fun b hb' => h.2.2.1 b (hb b hb'), h.2.2.2⟩

theorem Er.mark {w : World} {q r : Nat} {v : Value} {s : Sd} (h : Er w q r v s) : Er (w.setCell ⟨q, 1, none⟩ (.bool true)) q r v ⟨true, s.e, s.l⟩ :=
  ⟨by simpa using heap_setCell_at h.1 1 (.bool true), h.2.1.kept ((Kept.refl w [q]).setCell (.inl (by simp)) _) (by simpa using h.2.2.2.symm) (by simpa using h.2.2.1), h.2.2⟩

set_option maxHeartbeats 1000000 in
set_option maxRecDepth 100000 in
theorem ernum_any (q r : Nat) (v : Value) (s : Sd) (lo hi : Nat) (w : World) (h : Er w q r v s) (hl : s.l.length ≤ 1099511627796) :
    Calls Try.prog 28 #[.pointer (some ⟨q, 0, none⟩), .int .u64 lo, .int .u64 hi] w fun en w' => en = .returned (.int .u64 (stN lo hi s).1) ∧ ∃ v', Er w' q r v' (stN lo hi s).2 ∧ Kept w w' [q, r] ∧ (∀ b, v'.ownBlock = some b → v.ownBlock = some b) := by
  obtain ⟨c0, _, _⟩ := h.cells
  have H := Lib.hid h; clear h
  obtain ⟨n, hn⟩ : ∃ n, n = (rNum s.e s.l).1 := ⟨_, rfl⟩
  obtain ⟨l1, hl1⟩ : ∃ l1, l1 = (rNum s.e s.l).2.1 := ⟨_, rfl⟩
  obtain ⟨e1, he1⟩ : ∃ e1, e1 = (rNum s.e s.l).2.2 := ⟨_, rfl⟩
  have hS : stN lo hi s = (n, ⟨s.bad || badN lo hi e1 n, e1, l1⟩) := by rw [stN, ← hn, ← hl1, ← he1]
  have CN := Lib.hid (rnum_any r v s.e s.l w H.out.2.1 hl)
  have hnb := rNum_lt s.e s.l
  rw [← hn] at hnb
  have Hn := Lib.hid hn; have Hl1 := Lib.hid hl1; have He1 := Lib.hid he1; have HS := Lib.hid hS
  clear hn hl1 he1 hS
  go_enter Try.func28, Try.ntmps28
  go_wp2_with fail
  refine CN.out.mono ?_
  rw [← Hn.out, ← Hl1.out, ← He1.out]
  rintro en w1 ⟨rfl, v1, hr1, hk1, hb1⟩
  have E1 := Lib.hid (H.out.read hr1 hk1 hb1)
  obtain ⟨d0, d1, g1⟩ := E1.out.cells
  have Hk1 := Lib.hid (hk1.mono (cs := [q, r]) (by simp)); have Hb1 := Lib.hid hb1; have Hr1 := Lib.hid hr1
  clear hr1 hk1 hb1 c0
  by_cases he : e1 = 0
  · subst he
    by_cases h1 : n < lo
    · have x1 : (n : Int) < (lo : Int) := by omega
      have HB : RowKit.Hid ((s.bad || badN lo hi 0 n) = true) := Lib.hid (by simp [badN]; omega)
      go_wp2_with fail
      refine (error_any r v1 0 l1 w1 Hr1.out).mono ?_
      rintro en w2 ⟨rfl, rfl⟩
      go_wp2
      go_ret
      rw [HS.out, HB.out]
      exact ⟨rfl, v1, E1.out.mark, Hk1.out.setCell (.inl (by simp)) _, Hb1.out⟩
    · have x1 : ¬ (n : Int) < (lo : Int) := by omega
      by_cases h2 : hi < n
      · have x2 : (hi : Int) < (n : Int) := by omega
        have HB : RowKit.Hid ((s.bad || badN lo hi 0 n) = true) := Lib.hid (by simp [badN]; omega)
        go_wp2_with fail
        refine (error_any r v1 0 l1 w1 Hr1.out).mono ?_
        rintro en w2 ⟨rfl, rfl⟩
        go_wp2
        go_ret
        rw [HS.out, HB.out]
        exact ⟨rfl, v1, E1.out.mark, Hk1.out.setCell (.inl (by simp)) _, Hb1.out⟩
      · have x2 : ¬ (hi : Int) < (n : Int) := by omega
        have HB : RowKit.Hid ((s.bad || badN lo hi 0 n) = s.bad) := Lib.hid (by simp [badN]; omega)
        go_wp2_with fail
        refine (error_any r v1 0 l1 w1 Hr1.out).mono ?_
        rintro en w2 ⟨rfl, rfl⟩
        go_wp2
        go_ret
        rw [HS.out, HB.out]
        exact ⟨rfl, v1, E1.out, Hk1.out, Hb1.out⟩
  · have x0 : (e1 == 0) = false := by simpa using he
    have HB : RowKit.Hid ((s.bad || badN lo hi e1 n) = s.bad) := Lib.hid (by simp [badN, he])
    clear he
    go_wp2_with fail
    refine (error_any r v1 e1 l1 w1 Hr1.out).mono ?_
    rintro en w2 ⟨rfl, rfl⟩
    go_wp2
    go_ret
    rw [HS.out, HB.out]
    exact ⟨rfl, v1, E1.out, Hk1.out, Hb1.out⟩

set_option maxHeartbeats 1000000 in
set_option maxRecDepth 100000 in
theorem erend_any (q r : Nat) (v : Value) (s : Sd) (w : World) (h : Er w q r v s) (hl : s.l.length ≤ 1099511627796) :
    Calls Try.prog 31 #[.pointer (some ⟨q, 0, none⟩)] w fun en w' => en = .returned (.int .i64 (if s.bad = true then 2 else rEnd s.e s.l)) ∧ w = w' := by
  obtain ⟨c0, c1, _⟩ := h.cells
  have H := Lib.hid h; clear h
  cases hb : s.bad with
  | true =>
    rw [hb] at c1
    have Hb := Lib.hid hb; clear hb
    go_enter Try.func31, Try.ntmps31
    go_wp2
    go_ret
    exact ⟨rfl, rfl⟩
  | false =>
    rw [hb] at c1
    have Hb := Lib.hid hb; clear hb
    go_enter Try.func31, Try.ntmps31
    go_wp2_with fail
    refine (end_any r v s.e s.l w H.out.2.1 hl).mono ?_
    rintro en w1 ⟨rfl, rfl⟩
    go_wp2
    go_ret
    exact ⟨by simp, rfl⟩

end Go.Proofs.Ytkpjbmcgfdophaa
