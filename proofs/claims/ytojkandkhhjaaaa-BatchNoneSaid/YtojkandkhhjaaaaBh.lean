/-
  The contracts of Needs and Free, of package batch.
-/
import Derived.Test.YtojkandkhhjaaaaBg
namespace Go.Proofs.Ytojkandkhhjaaaa
set_option linter.unusedVariables false
open Go.RowKit Go.Maps

/-- May somebody still want an event? -/
def needB (st : List Nat) (ss : List Sv) (e : Ev) : Bool := stAt st e.tx == 1 || (stAt st e.tx == 2 && ss.any fun s => !seesB s.M s.l e.tx)

set_option maxHeartbeats 1000000 in
theorem needs1_pays {w : World} {ss : List Sv} {e : Ev} {z : Nat} (hs : ∀ s ∈ ss, RdI w s.v s.l) (hz : w.heap[z]? = some (.cells e.cs 42 (0, 0))) :
    PaysS w ss 38 #[.pointer (some ⟨z, 0, none⟩)] (fun s => !seesB s.M s.l e.tx) := by
  intro s V hsm k
  have rv := (hs s hsm).keep k
  have g := k.heap (by simp) hz
  obtain ⟨M, v, m⟩ := s
  obtain ⟨b0, b1, b2, b3, b4, b5, b6, b7⟩ := e
  simp only at rv ⊢
  obtain ⟨q, hq⟩ : ∃ q, seesB M m b1 = q := ⟨_, rfl⟩
  have HQ := Lib.hid hq
  rw [hq]
  have RV := Lib.hid rv
  obtain ⟨va, vc, hv, _⟩ := rv
  subst hv
  obtain ⟨W1, hW1⟩ : ∃ W1, W1 = V.alloc (.cells #[.int .i64 M, .slice va m.length vc] 31) := ⟨_, rfl⟩
  have k1 : Kept V W1 [] := by rw [hW1]; exact (Kept.refl V []).alloc _
  have g1 : W1.heap[V.heap.size]? = some (.cells #[.int .i64 M, .slice va m.length vc] 31 (0, 0)) := by rw [hW1]; exact heap_alloc_new V _
  obtain ⟨q0, q1, q2, q3, q4, q5, q6, q7⟩ := ev_cells (k1.heap (by simp) g)
  obtain ⟨y0, y1⟩ := two_cells g1
  have hc := Lib.hid (by have := sees_any M b1 _ m W1 (RV.out.keep k1); rw [HQ.out] at this; exact this)
  have K1 := Lib.hid k1; have HW1 := Lib.hid hW1
  clear hs hz hsm k g hq k1 hW1 g1
  show Calls _ _ #[.agg #[.int .i64 M, .slice va m.length vc], .pointer (some ⟨z, 0, none⟩)] _ _
  go_enter Try.func38, Try.ntmps38
  go_upto_region 1 with fail
  rw [← HW1.out]
  go_wp2_with fail
  refine hc.out.mono ?_
  rintro e w1 ⟨rfl, k1⟩
  have K2 := Lib.hid (K1.out.trans k1 (by simp))
  clear k1
  go_wp2
  go_ret
  exact ⟨rfl, K2.out⟩

set_option maxHeartbeats 1000000 in
theorem bneeds_any {w : World} {u sv : Value} {ss : List Sv} {st : List Nat} (e : Ev) (hM : Man w u st) (hs : RdS w sv ss) (hl : ss.length < 1000000) (hx : (Lit.int .i64 e.tx).wf = true) :
    Calls Try.prog 16 #[.agg e.cs, u, sv] w fun r w' => r = .returned (.bool (needB st ss e)) ∧ Kept w w' [] := by
  obtain ⟨W1, hW1⟩ : ∃ W1, W1 = w.alloc (.cells e.cs 42) := ⟨_, rfl⟩
  have k1 : Kept w W1 [] := by rw [hW1]; exact (Kept.refl w []).alloc _
  have g1 : W1.heap[w.heap.size]? = some (.cells e.cs 42 (0, 0)) := by rw [hW1]; exact heap_alloc_new w _
  have hP := needs1_pays ((hs.keep k1).all) g1
  have hc := Lib.hid (scontains_any (hs.keep k1) hl 38 _ _ (enters_of Try.func38 (by kernel_rfl) rfl) hP)
  have hS := Lib.hid (hM e.tx W1 hx k1)
  have K1 := Lib.hid k1; have HW1 := Lib.hid hW1
  obtain ⟨a, cp, rfl, _⟩ := hs
  unfold needB
  generalize (ss.any fun s => !seesB s.M s.l e.tx) = y at hc ⊢
  generalize stAt st e.tx = s0 at hS ⊢
  obtain ⟨b0, b1, b2, b3, b4, b5, b6, b7⟩ := e
  obtain ⟨q0, q1, q2, q3, q4, q5, q6, q7⟩ := ev_cells g1
  simp only [Ev.cs] at hc hS HW1 ⊢
  clear hM hl hx hW1 k1 g1 hP
  go_enter Try.func16, Try.ntmps16
  go_upto_region 1 with fail
  rw [← HW1.out]
  go_wp2_with fail
  refine hS.out.mono ?_
  rintro r w2 ⟨rfl, rfl⟩
  by_cases h1 : s0 = 1
  · subst h1
    go_wp2
    go_ret
    exact ⟨by simp, K1.out⟩
  · have e1 : ((s0 : Int) == 1) = false := by rw [beq_eq_false_iff_ne]; omega
    have n1 : (s0 == 1) = false := by rw [beq_eq_false_iff_ne]; exact h1
    have N1 := Lib.hid n1
    clear n1 h1
    by_cases h2 : s0 = 2
    · subst h2
      go_wp2_with fail
      refine hc.out.mono ?_
      rintro r w3 ⟨rfl, k3⟩
      go_wp2
      go_ret
      exact ⟨by simp, K1.out.trans k3 (by simp)⟩
    · have e2 : ((s0 : Int) == 2) = false := by rw [beq_eq_false_iff_ne]; omega
      have n2 : (s0 == 2) = false := by rw [beq_eq_false_iff_ne]; exact h2
      have N2 := Lib.hid n2
      clear n2 h2
      go_wp2
      go_ret
      exact ⟨by rw [N1.out, N2.out]; rfl, K1.out⟩

set_option maxHeartbeats 1000000 in
theorem free1_pays {w : World} {x : Option Addr} {sv : Value} {ss : List Sv} {st : List Nat} {l : List Ev} {z1 z2 : Nat} (hM : Man w (.pointer x) st) (hs : RdS w sv ss) (hl : ss.length < 1000000) (hx : ∀ e ∈ l, (Lit.int .i64 e.tx).wf = true)
    (h1 : w.heap[z1]? = some (.cells #[.pointer x] 25 (0, 0))) (h2 : w.heap[z2]? = some (.cells #[sv] 44 (0, 0))) :
    PaysV w l 41 #[.pointer (some ⟨z1, 0, none⟩), .pointer (some ⟨z2, 0, none⟩)] (needB st ss) := by
  intro e V he k
  obtain ⟨W1, hW1⟩ : ∃ W1, W1 = V.alloc (.cells e.cs 42) := ⟨_, rfl⟩
  have k1 : Kept V W1 [] := by rw [hW1]; exact (Kept.refl V []).alloc _
  have g1 : W1.heap[V.heap.size]? = some (.cells e.cs 42 (0, 0)) := by rw [hW1]; exact heap_alloc_new V _
  have kk := k.trans k1 (by simp)
  have hc := Lib.hid (bneeds_any e (hM.keep kk) (hs.keep kk) hl (hx e he))
  have c1 : W1.cell? ⟨z1, 0, none⟩ = some (.pointer x) := by rw [cell_of_row _ _ _ _ _ _ (kk.heap (by simp) h1)]; rfl
  have c2 : W1.cell? ⟨z2, 0, none⟩ = some sv := by rw [cell_of_row _ _ _ _ _ _ (kk.heap (by simp) h2)]; rfl
  have K1 := Lib.hid k1; have HW1 := Lib.hid hW1
  obtain ⟨a, cp, rfl, _⟩ := hs
  generalize needB st ss e = y at hc ⊢
  obtain ⟨b0, b1, b2, b3, b4, b5, b6, b7⟩ := e
  obtain ⟨q0, q1, q2, q3, q4, q5, q6, q7⟩ := ev_cells g1
  simp only [Ev.cs] at hc HW1
  clear hM hl hx hW1 k1 g1 h1 h2 he k kk
  show Calls _ _ #[.agg #[.int .i64 b0, .int .i64 b1, .string b2, .int .i64 b3, .int .i64 b4, .int .u8 b5, .int .i64 b6, .string b7], .pointer (some ⟨z1, 0, none⟩), .pointer (some ⟨z2, 0, none⟩)] _ _
  go_enter Try.func41, Try.ntmps41
  go_upto_region 1 with fail
  rw [← HW1.out]
  go_wp2_with fail
  refine hc.out.mono ?_
  rintro r w2 ⟨rfl, k2⟩
  go_wp2
  go_ret
  exact ⟨rfl, K1.out.trans k2 (by simp)⟩

/-- Does nobody want any of them? -/
def freeB (st : List Nat) (ss : List Sv) (l : List Ev) : Bool := !l.any (needB st ss)

set_option maxHeartbeats 1000000 in
theorem bfree_any {w : World} {x : Option Addr} {v sv : Value} {ss : List Sv} {st : List Nat} {l : List Ev} (hv : RdE w v l) (hn : l.length < 1000000) (hM : Man w (.pointer x) st) (hs : RdS w sv ss) (hl : ss.length < 1000000) (hx : ∀ e ∈ l, (Lit.int .i64 e.tx).wf = true) :
    Calls Try.prog 18 #[v, .pointer x, sv] w fun r w' => r = .returned (.bool (freeB st ss l)) ∧ Kept w w' [] := by
  obtain ⟨a, cp, rfl, hs2⟩ := hs
  have hs : RdS w (.slice a ss.length cp) ss := ⟨a, cp, rfl, hs2⟩
  obtain ⟨W1, hW1⟩ : ∃ W1, W1 = (w.alloc (.cells #[.pointer x] 25)).alloc (.cells #[.slice a ss.length cp] 44) := ⟨_, rfl⟩
  have hz : (w.alloc (.cells #[.pointer x] 25)).heap.size = w.heap.size + 1 := by simp
  have k1 : Kept w W1 [] := by rw [hW1]; exact ((Kept.refl w []).alloc _).alloc _
  have g1 : W1.heap[w.heap.size]? = some (.cells #[.pointer x] 25 (0, 0)) := by rw [hW1]; exact ((Kept.refl _ []).alloc _).heap (by simp) (heap_alloc_new w _)
  have g2 : W1.heap[w.heap.size + 1]? = some (.cells #[.slice a ss.length cp] 44 (0, 0)) := by rw [hW1, ← hz]; exact heap_alloc_new _ _
  have hP := free1_pays (hM.keep k1) (hs.keep k1) hl hx g1 g2
  have hc := Lib.hid (vcontains_any (hv.kept k1 (by simp)) hn 41 _ _ (enters_of Try.func41 (by kernel_rfl) rfl) hP)
  obtain ⟨va, vc, rfl⟩ := hv.shape3
  unfold freeB
  generalize l.any (needB st ss) = y at hc ⊢
  have K1 := Lib.hid k1; have HW1 := Lib.hid hW1
  clear hv hn hM hs hs2 hl hx hW1 hz k1 g1 g2 hP
  go_enter Try.func18, Try.ntmps18
  go_upto_region 1 with fail
  rw [← HW1.out]
  go_wp2_with fail
  refine hc.out.mono ?_
  rintro r w2 ⟨rfl, k2⟩
  go_wp2
  go_ret
  exact ⟨rfl, K1.out.trans k2 (by simp)⟩

end Go.Proofs.Ytojkandkhhjaaaa
