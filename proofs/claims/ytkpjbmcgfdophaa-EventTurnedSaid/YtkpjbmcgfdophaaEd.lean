/-
  The contracts of the document's num and Decode of layer 9.
-/
import Derived.Test.YtkpjbmcgfdophaaEc
import Derived.Test.YtkpjbmcgfdophaaRefText
namespace Go.Proofs.Ytkpjbmcgfdophaa
open Go.RowKit

set_option maxHeartbeats 2000000 in
set_option maxRecDepth 100000 in
theorem rfnum_any (v : Value) (e : Int) (l : List UInt8) (lo hi : Nat) (w : World) (h : Rd w v l) (hl : l.length ≤ 1099511627796) :
    Calls Try.prog 34 #[.agg #[v, .int .i64 e], .int .u64 lo, .int .u64 hi] w fun en w' => ∃ v', en = .returned (.tuple #[.int .u64 (rfN lo hi e l).1, .agg #[v', .int .i64 (rfN lo hi e l).2.2]]) ∧ Rd w' v' (rfN lo hi e l).2.1 ∧ Kept w w' [] ∧ (∀ x, v'.ownBlock = some x → v.ownBlock = some x) := by
  have H := Lib.hid h
  obtain ⟨a, len, c, hv⟩ := h.shape3
  clear h
  subst hv
  have hln := rNum_len e l
  have hnb := rNum_lt e l
  obtain ⟨n, hn⟩ : ∃ n, n = (rNum e l).1 := ⟨_, rfl⟩
  obtain ⟨l1, hl1⟩ : ∃ l1, l1 = (rNum e l).2.1 := ⟨_, rfl⟩
  obtain ⟨e1, he1⟩ : ∃ e1, e1 = (rNum e l).2.2 := ⟨_, rfl⟩
  have hT : rfN lo hi e l = if badN lo hi e1 n = true then (0, [], 2) else (n, l1, e1) := by rw [rfN, ← hn, ← he1, hn, hl1, he1]
  rw [← hl1] at hln
  rw [← hn] at hnb
  have Hn := Lib.hid hn; have Hl1 := Lib.hid hl1; have He1 := Lib.hid he1; have HT := Lib.hid hT
  clear hn hl1 he1 hT
  go_enter Try.func34, Try.ntmps34
  go_wp2_with fail
  refine (refread_any _ e l _ (H.out.kept (((Kept.refl w []).alloc _).alloc _) (by simp)) hl).mono ?_
  rintro en w1 ⟨v1, rfl, hr1, hk1, hb1⟩
  rw [← Hn.out, ← He1.out]
  rw [← Hl1.out] at hr1
  have hB : w1.heap[w.heap.size + 1]? = some (.cells #[.slice none 0 0, .int .i64 0] 64 (0, 0)) := hk1.heap (by simp) (by
    have := heap_alloc_new (w.alloc (.cells #[.slice a len c, .int .i64 e] 64)) (.cells #[.slice none 0 0, .int .i64 0] 64)
    simpa using this)
  have hlt : w.heap.size + 1 < w1.heap.size := (Array.getElem?_eq_some_iff.1 hB).1
  have k0 : w1.cell? ⟨w.heap.size + 1, 0, none⟩ = some (.slice none 0 0) := by simpa using cell_of_row w1 (w.heap.size + 1) 0 _ _ _ hB
  have k1 : w1.cell? ⟨w.heap.size + 1, 1, none⟩ = some (.int .i64 0) := by simpa using cell_of_row w1 (w.heap.size + 1) 1 _ _ _ hB
  have f0 := frozen_of_row w1 (w.heap.size + 1) 0 _ _ hB
  have f1 := frozen_of_row w1 (w.heap.size + 1) 1 _ _ hB
  obtain ⟨a1, c1, hv1, hc1, hna1, hcell1⟩ := id hr1
  have Hr1 := Lib.hid hr1; have Hk1 := Lib.hid (((((Kept.refl w []).alloc _).alloc _)).trans hk1 (by simp)); have Hb1 := Lib.hid hb1; have HB := Lib.hid hB
  clear hr1 hk1 hb1 hB hcell1 hna1 hc1
  subst hv1
  by_cases hb : badN lo hi e1 n = true
  · have HX : RowKit.Hid (rfN lo hi e l = (0, [], 2)) := Lib.hid (by rw [HT.out, if_pos hb])
    unfold badN at hb
    simp only [Bool.and_eq_true, Bool.or_eq_true, decide_eq_true_eq] at hb
    obtain ⟨rfl, hb⟩ := hb
    obtain ⟨q0, q1⟩ := two_cells HB.out (.slice none 0 0) (.int .i64 2) (.cells #[.slice a1 l1.length c1, .int .i64 0] 64)
    by_cases h1 : n < lo
    · have x1 : (n : Int) < (lo : Int) := by omega
      clear hb
      go_wp2
      refine bodyPost_ret (v := .tuple #[.int .u64 0, .agg #[.slice none 0 0, .int .i64 2]]) (by simp [results, Try.results34, go_sem, q0, q1]) rfl ?_
      rw [HX.out]
      exact ⟨_, rfl, Rd.nil _, Hk1.out.trans ((((Kept.refl w1 [w.heap.size + 1]).setCell (.inl (by simp)) _).setCell (.inl (by simp)) _).alloc _) (by simp), by simp [Value.ownBlock]⟩
    · have x1 : ¬ (n : Int) < (lo : Int) := by omega
      have x2 : (hi : Int) < (n : Int) := by omega
      clear hb
      go_wp2
      refine bodyPost_ret (v := .tuple #[.int .u64 0, .agg #[.slice none 0 0, .int .i64 2]]) (by simp [results, Try.results34, go_sem, q0, q1]) rfl ?_
      rw [HX.out]
      exact ⟨_, rfl, Rd.nil _, Hk1.out.trans ((((Kept.refl w1 [w.heap.size + 1]).setCell (.inl (by simp)) _).setCell (.inl (by simp)) _).alloc _) (by simp), by simp [Value.ownBlock]⟩
  · have HX : RowKit.Hid (rfN lo hi e l = (n, l1, e1)) := Lib.hid (by rw [HT.out, if_neg hb])
    obtain ⟨q0, q1⟩ := two_cells HB.out (.slice a1 l1.length c1) (.int .i64 e1) (.cells #[.slice a1 l1.length c1, .int .i64 e1] 64)
    have hk3 : ∀ ob : Obj, Kept w1 (((w1.setCell ⟨w.heap.size + 1, 0, none⟩ (.slice a1 l1.length c1)).setCell ⟨w.heap.size + 1, 1, none⟩ (.int .i64 e1)).alloc ob).drew [w.heap.size + 1] := fun ob =>
      ((((Kept.refl w1 _).setCell (.inl (by simp)) _).setCell (.inl (by simp)) _).alloc ob).drew
    by_cases he : e1 = 0
    · subst he
      have x1 : ¬ (n : Int) < (lo : Int) := by intro hx; apply hb; simp [badN]; omega
      have x2 : ¬ (hi : Int) < (n : Int) := by intro hx; apply hb; simp [badN]; omega
      clear hb
      go_wp2
      go_region
      go_wp2
      refine bodyPost_ret (v := .tuple #[.int .u64 n, .agg #[.slice a1 l1.length c1, .int .i64 0]]) (by simp [results, Try.results34, go_sem, q0, q1]) rfl ?_
      rw [HX.out]
      exact ⟨_, rfl, Hr1.out.kept2 (hk3 _) (H.out.not_new hln Hb1.out (by omega)), Hk1.out.trans (hk3 _) (by simp), Hb1.out⟩
    · have x0 : (e1 == 0) = false := by simpa using he
      clear hb he
      go_wp2
      go_region
      go_wp2
      refine bodyPost_ret (v := .tuple #[.int .u64 n, .agg #[.slice a1 l1.length c1, .int .i64 e1]]) (by simp [results, Try.results34, go_sem, q0, q1]) rfl ?_
      rw [HX.out]
      exact ⟨_, rfl, Hr1.out.kept2 (hk3 _) (H.out.not_new hln Hb1.out (by omega)), Hk1.out.trans (hk3 _) (by simp), Hb1.out⟩

end Go.Proofs.Ytkpjbmcgfdophaa
