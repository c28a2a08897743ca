/-
  The document's manager: Begin, End.
-/
import Derived.Test.YtojkandkhhjaaaaTh
namespace Go.Proofs.Ytojkandkhhjaaaa
open Go.RowKit Go.Maps

set_option maxRecDepth 20000 in
theorem rbegin_full {w : World} {B q : Nat} {v : Value} {st : List Nat} (h : Rm w B q v st) (hf : 6 ≤ (opens st).length ∨ st.length + 1 = 1048576) :
    Calls Try.prog 23 #[.pointer (some ⟨q, 0, none⟩)] w fun e w' => e = .returned (.tuple #[.int .i64 0, .int .i64 8]) ∧ Kept w w' [] := by
  have ho := Lib.hid (ropen_any h)
  have H := Lib.hid h
  obtain ⟨n, hn⟩ : ∃ n, (opens st).length = n := ⟨_, rfl⟩
  obtain ⟨N, hN⟩ : ∃ N : Int, (st.length : Int) + 1 = N := ⟨_, rfl⟩
  rw [hn] at hf ho
  have HN := Lib.hid hN
  have hN2 : 6 ≤ n ∨ N = 1048576 := by omega
  clear h hn hN hf
  by_cases h1 : 6 ≤ n
  · clear hN2
    go_enter Try.func23, Try.ntmps23
    go_wp2_with fail
    refine ho.out.mono ?_
    rintro e w1 ⟨a, c, rfl, _, hk⟩
    have K := Lib.hid hk
    clear hk
    go_wp2
    go_ret2
    exact ⟨rfl, K.out⟩
  · obtain rfl : N = 1048576 := hN2.resolve_left h1
    clear hN2
    go_enter Try.func23, Try.ntmps23
    go_wp2_with fail
    refine ho.out.mono ?_
    rintro e w1 ⟨a, c, rfl, _, hk⟩
    have K := Lib.hid hk
    have hnx := rnext_any (H.out.keep hk)
    rw [HN.out] at hnx
    clear hk
    go_wp2_with (go_at_call 45; refine hnx.mono ?_; rintro e w' ⟨rfl, rfl⟩)
    go_ret2
    exact ⟨rfl, K.out⟩

theorem sb_snoc (st : List Nat) (s : Nat) : sb (st ++ [s]) = sb st ++ [.int .u8 (s : Int)] := by simp [sb]

theorem Rm.app {w w2 : World} {B q : Nat} {v v2 : Value} {st : List Nat} {s : Nat} (h : Rm w B q v st) (hf : Fr B [5] w w2) (ho : w2.ownsRow B 5 1 v2 (st.length + 1) (sb st ++ [.int .u8 (s : Int)])) (hl : st.length + 1 < 1048576) (hs : 1 ≤ s ∧ s ≤ 3) :
    Rm (w2.setCell ⟨q, 0, none⟩ v2) B q v2 (st ++ [s]) ∧ Fr B rts w (w2.setCell ⟨q, 0, none⟩ v2) := by
  have hp := hf.heap h.hp (by decide)
  have f3 : Fr B [58] w2 (w2.setCell ⟨q, 0, none⟩ v2) := (Fr.refl B _ w2).setCell hp (.inr ⟨h.bp, by simp⟩) 0 _
  refine ⟨{ hp := by simpa using heap_setCell_at hp 0 v2, hv := ?_, bp := h.bp, hl := by simp; omega, hs := ?_ }, (hf.mono (Nat.le_refl _) (by simp [rts])).trans (f3.mono (Nat.le_refl _) (by simp [rts]))⟩
  · have := ownsRow_fr ho f3 (by decide)
    rw [sb_snoc, List.length_append]
    exact this
  · intro t ht
    rcases List.mem_append.1 ht with h1 | h1
    · exact h.hs t h1
    · simp at h1; omega

set_option maxRecDepth 20000 in
set_option maxHeartbeats 1000000 in
theorem rbegin_ok {w : World} {B q : Nat} {v : Value} {st : List Nat} (h : Rm w B q v st) (h1 : (opens st).length < 6) (h2 : st.length + 1 < 1048576) :
    Calls Try.prog 23 #[.pointer (some ⟨q, 0, none⟩)] w fun e w' => e = .returned (.tuple #[.int .i64 ((st.length : Int) + 1), .int .i64 0]) ∧ ∃ v', Rm w' B q v' (st ++ [1]) ∧ Fr B rts w w' := by
  have ho := Lib.hid (ropen_any h)
  have H := Lib.hid h
  obtain ⟨n, hn⟩ : ∃ n, (opens st).length = n := ⟨_, rfl⟩
  obtain ⟨N, hN⟩ : ∃ N : Int, (st.length : Int) + 1 = N := ⟨_, rfl⟩
  rw [hn] at h1 ho
  rw [hN]
  have h3 : decide ((1048576 : Int) ≤ N) = false := by rw [decide_eq_false_iff_not]; omega
  have h4 : ¬ (6 : Int) ≤ (n : Int) := by omega
  have HN := Lib.hid hN
  have H2 := Lib.hid h2
  obtain ⟨i0, hi, hz0, hz1, hz2⟩ := info_parts Try.infoU8
  have I := Lib.hid (And.intro hi (And.intro hz0 (And.intro hz1 hz2)))
  have hsz := h.size
  clear h hn hN h2 hi hz0 hz1 hz2
  go_enter Try.func23, Try.ntmps23
  go_wp2_with fail
  refine ho.out.mono ?_
  rintro e w1 ⟨a, c, rfl, _, hk⟩
  have K := Lib.hid hk
  have R1 := Lib.hid (H.out.keep hk)
  have hnx := rnext_any R1.out
  rw [HN.out] at hnx
  have hz1 := hk.size
  have c0 := R1.out.cell
  obtain ⟨a1, cp1, hv, _⟩ := R1.out.shape
  rw [hv] at c0
  have Hv := Lib.hid hv
  clear hk hv ho
  go_wp2_with (first
    | (go_at_call 45; refine hnx.mono ?_; rintro e w' ⟨rfl, rfl⟩)
    | (at_builtin; refine wpList_append_fr _ rfl (.tmp 17) (.tmp 18) 23 23 rfl B 5 i0 (.int .u8 0) 1 1 Try.underlying23 I.out.1 I.out.2.1 I.out.2.2.1 I.out.2.2.2 rfl _ st.length (sb st) rfl ?hown _ 1 [.int .u8 1] rfl (src_one Try.underlying23 w1 _ rfl _) ?b1 ?b2 ?base ?next))
  case hown => have := R1.out.hv; rw [Hv.out] at this; exact ownsRow_fr this ((Fr.refl 0 [] w1).alloc _) (by simp)
  case b1 => have := H2.out; simp only [maxLen]; omega
  case b2 => have := H2.out; omega
  case base => simp; omega
  case next =>
    intro v2 w2 ho2 hf2 _
    obtain ⟨a2, cp2, rfl⟩ := ownsRow_shape ho2
    have ha : Fr B [5] w1 (w1.alloc (.cells #[.int .u8 1] 5)) := (Fr.refl B _ w1).alloc _
    have F2 := Lib.hid (ha.trans hf2)
    have O2 := Lib.hid ho2
    have P2 := Lib.hid (F2.out.heap R1.out.hp (by decide))
    have f2 : w2.frozen? ⟨q, 0, none⟩ = false := frozen_of_row _ _ _ _ _ P2.out
    have c2 : w2.cell? ⟨q, 0, none⟩ = some (.slice a1 st.length cp1) := by rw [cell_of_row w2 q 0 _ _ _ P2.out, Hv.out]; rfl
    have e1 : (st.length : Int) + 1 = N := HN.out
    clear ho2 hf2 ha
    go_wp2
    go_ret2
    obtain ⟨r1, r2⟩ := R1.out.app (s := 1) F2.out O2.out H2.out (by decide)
    exact ⟨by rw [← HN.out]; rfl, _, r1, (Fr.ofKept K.out B rts).trans r2⟩

theorem rend_bad {w : World} {B q : Nat} {v : Value} {st : List Nat} (h : Rm w B q v st) (x s : Int) (hb : stAt st x ≠ 1) :
    Calls Try.prog 25 #[.pointer (some ⟨q, 0, none⟩), .int .i64 x, .int .u8 s] w fun e w' => e = .returned (.int .i64 7) ∧ w = w' := by
  have hc := rstate_any h x
  have x3 : ((stAt st x : Int) != 1) = true := by rw [bne_iff_ne]; omega
  clear h hb
  go_enter Try.func25, Try.ntmps25
  go_wp2_with (go_at_call 34; refine hc.mono ?_; rintro e w' ⟨rfl, rfl⟩)
  go_ret
  exact ⟨rfl, rfl⟩

/-- One cell of the row of states turned. -/
theorem Rm.put {w : World} {B q g c k s : Nat} {st : List Nat} (h : Rm w B q (.slice (some ⟨g, 0, none⟩) st.length c) st) (hs : 1 ≤ s ∧ s ≤ 3) :
    Rm (w.setCell ⟨g, k, none⟩ (.int .u8 (s : Int))) B q (.slice (some ⟨g, 0, none⟩) st.length c) (st.set k s) ∧ Fr B rts w (w.setCell ⟨g, k, none⟩ (.int .u8 (s : Int))) := by
  rcases h.hv.2 with ⟨hv, _⟩ | ⟨g', cap, cur, hv, hbg, hg, hnc, hcm, hcs, htk⟩
  · cases hv
  · simp only [Value.slice.injEq, Option.some.injEq, Addr.mk.injEq] at hv
    obtain ⟨⟨rfl, _⟩, _, rfl⟩ := hv
    have f3 : Fr B [5] w (w.setCell ⟨g, k, none⟩ (.int .u8 (s : Int))) := (Fr.refl B _ w).setCell hg (.inr ⟨hbg, by simp⟩) k _
    refine ⟨{ hp := f3.heap h.hp (by decide), hv := ?_, bp := h.bp, hl := by simpa using h.hl, hs := set_states h.hs hs }, f3.mono (Nat.le_refl _) (by simp [rts])⟩
    rw [List.length_set]
    refine ⟨by simp [sb_length], .inr ⟨g, c, _, rfl, hbg, heap_setCell_at hg k _, hnc, hcm, by simpa using hcs, ?_⟩⟩
    rw [Array.toList_setIfInBounds, List.take_set, htk, sb, sb, List.map_set]

set_option maxRecDepth 20000 in
theorem rend_ok {w : World} {B q : Nat} {v : Value} {st : List Nat} (h : Rm w B q v st) (x : Int) (s : Nat) (hs : 1 ≤ s ∧ s ≤ 3) (hb : stAt st x = 1) :
    Calls Try.prog 25 #[.pointer (some ⟨q, 0, none⟩), .int .i64 x, .int .u8 (s : Int)] w fun e w' => e = .returned (.int .i64 0) ∧ Rm w' B q v (st.set (x.toNat - 1) s) ∧ Fr B rts w w' := by
  have hc := rstate_any h x
  rw [hb] at hc
  obtain ⟨h1, h2⟩ := stAt_in (by rw [hb]; decide : stAt st x ≠ 0)
  obtain ⟨k, hk⟩ : ∃ k : Nat, x = (k : Int) + 1 := ⟨x.toNat - 1, by omega⟩
  have hkl : k < st.length := by omega
  have ek : x.toNat - 1 = k := by omega
  rw [ek]
  have c0 := h.cell
  obtain ⟨a, cp, rfl, hcp, hh⟩ := h.shape
  obtain ⟨g, rfl, _, ⟨cur, hcur⟩, hcell⟩ := hh (by omega)
  have hc1 := hcell k hkl
  have fz : w.frozen? ⟨g, k, none⟩ = false := frozen_of_row _ _ _ _ _ hcur
  obtain ⟨u, hu⟩ : ∃ u, u = st[k] := ⟨_, rfl⟩
  rw [← hu] at hc1
  have x0 : (1 : Int) ≤ x := by omega
  have x2 : x ≤ 2000000 := by have := h.hl; omega
  have e2 : x - 1 = (k : Int) := by omega
  have x3 : (k : Int) < (st.length : Int) := by omega
  have r := h.put (k := k) hs
  have Rr := Lib.hid r
  clear h hb hh hcell hu hk ek hs r hcur
  go_enter Try.func25, Try.ntmps25
  go_wp2_with (go_at_call 34; refine hc.mono ?_; rintro e w' ⟨rfl, rfl⟩)
  go_ret
  exact ⟨rfl, Rr.out⟩

end Go.Proofs.Ytojkandkhhjaaaa
