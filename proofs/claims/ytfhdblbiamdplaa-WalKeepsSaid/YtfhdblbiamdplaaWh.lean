/-
  The contract of wal.Open: the walk.
-/
import Derived.Test.YtfhdblbiamdplaaWg
namespace Go.Proofs.Ytfhdblbiamdplaa
open Go.RowKit

theorem RowsR.mono {w : World} {B B' C C' : Nat} {v : Value} {L : List (List UInt8)} (h : RowsR w B C v L) (hB : B' ≤ B) (hC : C ≤ C') : RowsR w B' C' v L := by
  obtain ⟨xs, ho, hl, hr⟩ := h
  refine ⟨xs, ⟨ho.1, ?_⟩, hl, fun i h h' => ⟨(hr i h h').1.mono hC, fun b hb => Nat.le_trans hB ((hr i h h').2 b hb)⟩⟩
  rcases ho.2 with h2 | ⟨g, cap, cur, rfl, hbg, hg, r⟩
  · exact .inl h2
  · exact .inr ⟨g, cap, cur, rfl, by omega, hg, r⟩

theorem clr_all {b : List UInt8} (h : b.length ≤ szs (scan b)) : clr b = b := by
  rw [clr, List.take_of_length_le h, Nat.sub_eq_zero_of_le h]
  simp

set_option maxHeartbeats 2000000 in
set_option maxRecDepth 100000 in
theorem open_any {w : World} {B p gn gs n : Nat} {v : Value} {now safe : List UInt8} {ws : List Wt} (h : Dv w B p gn gs v n now safe ws) (hnow : now = laid safe (pairs ws)) (hws : ws.length ≤ 900000) (hB : B ≤ w.heap.size) :
    Calls Try.prog 17 #[.pointer (some ⟨p, 0, none⟩)] w fun e w' => ∃ q vr, e = .returned (.tuple #[.pointer (some ⟨q, 0, none⟩), vr, .int .i64 0]) ∧ Opened w B p gn gs n now safe ws q vr w' := by
  have D := Lib.hid h; have Now := Lib.hid hnow; have hln := Lib.hid h.ln
  have hn12 := h.n12
  clear h hnow
  go_enter Try.func17, Try.ntmps17
  go_wp2_with fail
  refine (content_any D.out).mono ?_
  rintro e w1 ⟨v1, rfl, ho, hk⟩
  have O1 := Lib.hid ho; have K1 := Lib.hid hk
  have hz1 := hk.size
  obtain ⟨a1, c1, hv1⟩ := ho.shape
  subst hv1
  clear ho hk
  go_wp2_with fail
  refine (records_any _ now w1 O1.out.rd (by have := hln.out; omega)).mono ?_
  rintro e w2 ⟨vr, rfl, hrow, hk⟩
  have RW2 := Lib.hid hrow; have K2 := Lib.hid (K1.out.trans hk (by simp)); have O2 := Lib.hid (O1.out.kept hk (by simp))
  have hz2 := hk.size
  have O1lt := Lib.hid O1.out.lt
  have D2 := Lib.hid (D.out.frame (Fr.ofKept K2.out 0 []) (by simp) (by simp) (by simp))
  have hsl := szs_scan now.length now (Nat.le_refl _)
  obtain ⟨xs, hox, _⟩ := id hrow
  obtain ⟨ar, cr, hvr⟩ := ownsRow_shape hox
  subst hvr
  obtain ⟨s, hs⟩ : ∃ s, s = szs (scan now) := ⟨_, rfl⟩
  have Hs := Lib.hid hs
  rw [← hs] at hsl ⊢
  clear hrow hk hs hox
  have own2 := O2.out.2
  have x9 := clear_none
  have e0 : (0 : Nat) + s = s := Nat.zero_add s
  rcases own2 with ⟨hnil, h0⟩ | ⟨g, cap, cur, hv, hbg, hg, hnc, hcm, hcs, _⟩
  · simp only [Value.slice.injEq] at hnil
    obtain ⟨rfl, _, rfl⟩ := hnil
    have hnow0 : now = [] := List.eq_nil_of_length_eq_zero h0
    have hs0 : s = 0 := by omega
    subst hs0
    have ec := clr_all (b := now) (by omega)
    have O3 := Lib.hid (show Own w2 w.heap.size 5 (.slice none 0 0) (clr now) by rw [ec]; have := O2.out; rwa [h0] at this)
    have RW3 := RW2
    rw [h0]
    clear hnow0 ec h0 hsl O2
    · skip
      have F3 := Lib.hid (Fr.ofKept K2.out B dts)
      have D3 := Lib.hid (D2.out)
      have hz3 := F3.out.size
      go_wp2_with fail
      refine (wwrite_any D3.out _ (clr now) (by rw [clr_length]; exact hln.out) (O3.out.rb B) Now.out hws (by omega)).mono ?_
      rintro e w4 ⟨rfl, v4, s4, ws4, hd, hl, hy, hn, hf⟩
      have D4 := Lib.hid hd; have L4 := Lib.hid hl; have Y4 := Lib.hid hy; have N4 := Lib.hid hn; have F4 := Lib.hid (F3.out.trans hf)
      have RW4 := Lib.hid (RW3.out.frame hf (Nat.zero_le _) (by decide) (by decide))
      have hz4 := hf.size
      clear hd hl hy hn hf
      go_wp2
      go_ret3
      have kk : Kept w4 (w4.alloc (.cells #[.pointer (some ⟨p, 0, none⟩), .int .i64 0] 100)) [] := (Kept.refl w4 []).alloc _
      refine ⟨w4.heap.size, _, rfl, v4, s4, ws4, D4.out.frame (Fr.ofKept kk 0 []) (by simp) (by simp) (by simp), L4.out, Y4.out, N4.out, F4.out.trans (Fr.ofKept kk _ _), ?_, by omega, ?_⟩
      · rw [← Hs.out]; exact heap_alloc_new _ _
      · exact ((RW4.out.frame (Fr.ofKept kk 0 []) (Nat.zero_le _) (by simp) (by simp)).mono hz1 (Nat.le_refl _))
  · simp only [Value.slice.injEq] at hv
    obtain ⟨rfl, _, rfl⟩ := hv
    have hgw := (O1lt.out g rfl).2
    clear hg hcs hcm
    by_cases hsn : s = now.length
    · subst hsn
      have ec := clr_all (b := now) (by rw [← Hs.out]; omega)
      have O3 := Lib.hid (show Own w2 w.heap.size 5 (.slice (some ⟨g, 0, none⟩) now.length c1) (clr now) by rw [ec]; exact O2.out)
      have RW3 := RW2
      clear ec e0
      by_cases hcs : c1 = now.length
      · subst hcs
        have F3 := Lib.hid (Fr.ofKept K2.out B dts)
        have D3 := Lib.hid (D2.out)
        have hz3 := F3.out.size
        go_wp2_with fail
        refine (wwrite_any D3.out _ (clr now) (by rw [clr_length]; exact hln.out) (O3.out.rb B) Now.out hws (by omega)).mono ?_
        rintro e w4 ⟨rfl, v4, s4, ws4, hd, hl, hy, hn, hf⟩
        have D4 := Lib.hid hd; have L4 := Lib.hid hl; have Y4 := Lib.hid hy; have N4 := Lib.hid hn; have F4 := Lib.hid (F3.out.trans hf)
        have RW4 := Lib.hid (RW3.out.frame hf (Nat.zero_le _) (by decide) (by decide))
        have hz4 := hf.size
        clear hd hl hy hn hf
        go_wp2
        go_ret3
        have kk : Kept w4 (w4.alloc (.cells #[.pointer (some ⟨p, 0, none⟩), .int .i64 now.length] 100)) [] := (Kept.refl w4 []).alloc _
        refine ⟨w4.heap.size, _, rfl, v4, s4, ws4, D4.out.frame (Fr.ofKept kk 0 []) (by simp) (by simp) (by simp), L4.out, Y4.out, N4.out, F4.out.trans (Fr.ofKept kk _ _), ?_, by omega, ?_⟩
        · rw [← Hs.out]; exact heap_alloc_new _ _
        · exact ((RW4.out.frame (Fr.ofKept kk 0 []) (Nat.zero_le _) (by simp) (by simp)).mono hz1 (Nat.le_refl _))
      · skip
        have F3 := Lib.hid (Fr.ofKept K2.out B dts)
        have D3 := Lib.hid (D2.out)
        have hz3 := F3.out.size
        go_wp2_with fail
        refine (wwrite_any D3.out _ (clr now) (by rw [clr_length]; exact hln.out) (O3.out.rb B) Now.out hws (by omega)).mono ?_
        rintro e w4 ⟨rfl, v4, s4, ws4, hd, hl, hy, hn, hf⟩
        have D4 := Lib.hid hd; have L4 := Lib.hid hl; have Y4 := Lib.hid hy; have N4 := Lib.hid hn; have F4 := Lib.hid (F3.out.trans hf)
        have RW4 := Lib.hid (RW3.out.frame hf (Nat.zero_le _) (by decide) (by decide))
        have hz4 := hf.size
        clear hd hl hy hn hf
        go_wp2
        go_ret3
        have kk : Kept w4 (w4.alloc (.cells #[.pointer (some ⟨p, 0, none⟩), .int .i64 now.length] 100)) [] := (Kept.refl w4 []).alloc _
        refine ⟨w4.heap.size, _, rfl, v4, s4, ws4, D4.out.frame (Fr.ofKept kk 0 []) (by simp) (by simp) (by simp), L4.out, Y4.out, N4.out, F4.out.trans (Fr.ofKept kk _ _), ?_, by omega, ?_⟩
        · rw [← Hs.out]; exact heap_alloc_new _ _
        · exact ((RW4.out.frame (Fr.ofKept kk 0 []) (Nat.zero_le _) (by simp) (by simp)).mono hz1 (Nat.le_refl _))
    · obtain ⟨q1, q2, q3, q4⟩ := own_clear O2.out s (by omega)
      obtain ⟨w3, hw3⟩ : ∃ w3, w3 = w2.setCells g s (List.replicate (now.length - s) (.int .u8 0)) := ⟨_, rfl⟩
      rw [← hw3] at q1 q2 q3 q4
      have O3 := Lib.hid (show Own w3 w.heap.size 5 (.slice (some ⟨g, 0, none⟩) now.length c1) (clr now) by rw [clr, ← Hs.out]; exact q2)
      have RW3 := Lib.hid (RW2.out.kept q3 hgw)
      have x6 : ¬ c1 = s := by omega
      have x5 : s ≤ c1 := by omega
      have Q3 := Lib.hid q3; have Q4 := Lib.hid q4
      clear q2 q3 q4 hw3
      · skip
        have F3 := Lib.hid ((Fr.ofKept K2.out B dts).later Q4.out (Nat.le_refl _))
        have D3 := Lib.hid (D2.out.frame Q4.out (by decide) (by decide) (by decide))
        have hz3 := F3.out.size
        go_wp2_with fail
        refine (wwrite_any D3.out _ (clr now) (by rw [clr_length]; exact hln.out) (O3.out.rb B) Now.out hws (by omega)).mono ?_
        rintro e w4 ⟨rfl, v4, s4, ws4, hd, hl, hy, hn, hf⟩
        have D4 := Lib.hid hd; have L4 := Lib.hid hl; have Y4 := Lib.hid hy; have N4 := Lib.hid hn; have F4 := Lib.hid (F3.out.trans hf)
        have RW4 := Lib.hid (RW3.out.frame hf (Nat.zero_le _) (by decide) (by decide))
        have hz4 := hf.size
        clear hd hl hy hn hf
        go_wp2
        go_ret3
        have kk : Kept w4 (w4.alloc (.cells #[.pointer (some ⟨p, 0, none⟩), .int .i64 s] 100)) [] := (Kept.refl w4 []).alloc _
        refine ⟨w4.heap.size, _, rfl, v4, s4, ws4, D4.out.frame (Fr.ofKept kk 0 []) (by simp) (by simp) (by simp), L4.out, Y4.out, N4.out, F4.out.trans (Fr.ofKept kk _ _), ?_, by omega, ?_⟩
        · rw [← Hs.out]; exact heap_alloc_new _ _
        · exact ((RW4.out.frame (Fr.ofKept kk 0 []) (Nat.zero_le _) (by simp) (by simp)).mono hz1 (Nat.le_refl _))

end Go.Proofs.Ytfhdblbiamdplaa
