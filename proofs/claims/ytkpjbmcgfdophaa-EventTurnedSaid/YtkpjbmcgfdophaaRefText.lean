/-
  The contract of carrierref02.ReadText.
-/
import Derived.Test.YtkpjbmcgfdophaaRead3
namespace Go.Proofs.Ytkpjbmcgfdophaa
open Go.RowKit

set_option maxHeartbeats 2000000 in
set_option maxRecDepth 100000 in
theorem refreadtext_any (v : Value) (most e : Int) (l : List UInt8) (w : World) (h : Rd w v l) (hl : l.length ≤ 1099511627796) (hm : -9223372036854775808 ≤ most ∧ most ≤ 9223372036854775807) :
    Calls Try.prog 35 #[.agg #[v, .int .i64 e], .int .i64 most] w fun en w' => ∃ v', en = .returned (.tuple #[.string (strL (rText most e l).1), .agg #[v', .int .i64 (rText most e l).2.2]]) ∧ Rd w' v' (rText most e l).2.1 ∧ Kept w w' [] ∧ (∀ x, v'.ownBlock = some x → v.ownBlock = some x) := by
  have H := Lib.hid h
  obtain ⟨a, len, c, hv⟩ := h.shape3
  clear h
  subst hv
  obtain ⟨h1, h2⟩ := hm
  have hn2 := rNum_lt e l
  have hln := rNum_len e l
  obtain ⟨n, hn⟩ : ∃ n, n = (rNum e l).1 := ⟨_, rfl⟩
  obtain ⟨l1, hl1⟩ : ∃ l1, l1 = (rNum e l).2.1 := ⟨_, rfl⟩
  obtain ⟨e1, he1⟩ : ∃ e1, e1 = (rNum e l).2.2 := ⟨_, rfl⟩
  have hT : rText most e l = rTextOf most n l1 e1 := by rw [rText, ← hn, ← hl1, ← he1]
  rw [← hn] at hn2
  rw [← hl1] at hln
  have Hn := Lib.hid hn; have Hl1 := Lib.hid hl1; have He1 := Lib.hid he1; have HT := Lib.hid hT
  clear hn hl1 he1 hT
  go_enter Try.func35, Try.ntmps35
  go_wp2_with fail
  refine (refread_any _ e l _ (H.out.kept (((Kept.refl w []).alloc _).alloc _) (by simp)) hl).mono ?_
  rintro en w1 ⟨v1, rfl, hr1, hk1, hb1⟩
  rw [← Hn.out, ← He1.out]
  rw [← Hl1.out] at hr1
  have hB : w1.heap[w.heap.size + 1]? = some (.cells #[.slice none 0 0, .int .i64 0] 64 (0, 0)) := hk1.heap (by simp) (by
    have := heap_alloc_new (w.alloc (.cells #[.slice a len c, .int .i64 e] 64)) (.cells #[.slice none 0 0, .int .i64 0] 64)
    simpa using this)
  have hlt : w.heap.size + 1 < w1.heap.size := (Array.getElem?_eq_some_iff.1 hB).1
  have k0 : w1.cell? ⟨w.heap.size + 1, 0, none⟩ = some (.slice none 0 0) := by simpa using cell_of_row w1 (w.heap.size + 1) 0 _ _ _ hB
  have k1 : w1.cell? ⟨w.heap.size + 1, 1, none⟩ = some (.int .i64 0) := by simpa using cell_of_row w1 (w.heap.size + 1) 1 _ _ _ hB
  have f0 := frozen_of_row w1 (w.heap.size + 1) 0 _ _ hB
  have f1 := frozen_of_row w1 (w.heap.size + 1) 1 _ _ hB
  obtain ⟨a1, c1, hv1, hc1, hna1, hcell1⟩ := id hr1
  have Hr1 := Lib.hid hr1; have Hk1 := Lib.hid (((((Kept.refl w []).alloc _).alloc _)).trans hk1 (by simp)); have Hb1 := Lib.hid hb1; have HB := Lib.hid hB
  have Hcell1 := Lib.hid hcell1
  clear hr1 hk1 hb1 hB hcell1
  subst hv1
  by_cases he : e1 = 0
  · subst he
    by_cases hmx : max most 0 < (n : Int)
    · have HX : RowKit.Hid (rText most e l = ([], [], 2)) := Lib.hid (by rw [HT.out, rTextOf, if_pos rfl, if_pos hmx])
      by_cases hm0 : most < 0
      · have hn0 : (0 : Int) < (n : Int) := by omega
        have hn1 : 0 < n := by omega
        clear hmx
        obtain ⟨q0, q1⟩ := two_cells HB.out (.slice none 0 0) (.int .i64 2) (.cells #[.slice a1 l1.length c1, .int .i64 0] 64)
        go_wp2
        refine bodyPost_ret (v := .tuple #[.string ⟨#[]⟩, .agg #[.slice none 0 0, .int .i64 2]]) (by simp [results, Try.results35, go_sem, q0, q1]) rfl ?_
        rw [HX.out]
        exact ⟨_, rfl, Rd.nil _, Hk1.out.trans ((((Kept.refl w1 [w.heap.size + 1]).setCell (.inl (by simp)) _).setCell (.inl (by simp)) _).alloc _) (by simp), by simp [Value.ownBlock]⟩
      · have hn0 : most < (n : Int) := by omega
        clear hmx
        obtain ⟨q0, q1⟩ := two_cells HB.out (.slice none 0 0) (.int .i64 2) (.cells #[.slice a1 l1.length c1, .int .i64 0] 64)
        go_wp2
        refine bodyPost_ret (v := .tuple #[.string ⟨#[]⟩, .agg #[.slice none 0 0, .int .i64 2]]) (by simp [results, Try.results35, go_sem, q0, q1]) rfl ?_
        rw [HX.out]
        exact ⟨_, rfl, Rd.nil _, Hk1.out.trans ((((Kept.refl w1 [w.heap.size + 1]).setCell (.inl (by simp)) _).setCell (.inl (by simp)) _).alloc _) (by simp), by simp [Value.ownBlock]⟩
    · by_cases hlen : l1.length < n
      · have HX : RowKit.Hid (rText most e l = ([], [], 3)) := Lib.hid (by rw [HT.out, rTextOf, if_pos rfl, if_neg hmx, if_pos hlen])
        have hlen2 : (l1.length : Int) < (n : Int) := by omega
        have hm0 : ¬ most < 0 := by omega
        have hn0 : ¬ most < (n : Int) := by omega
        clear hmx
        obtain ⟨q0, q1⟩ := two_cells HB.out (.slice none 0 0) (.int .i64 3) (.cells #[.slice a1 l1.length c1, .int .i64 0] 64)
        go_wp2
        refine bodyPost_ret (v := .tuple #[.string ⟨#[]⟩, .agg #[.slice none 0 0, .int .i64 3]]) (by simp [results, Try.results35, go_sem, q0, q1]) rfl ?_
        rw [HX.out]
        exact ⟨_, rfl, Rd.nil _, Hk1.out.trans ((((Kept.refl w1 [w.heap.size + 1]).setCell (.inl (by simp)) _).setCell (.inl (by simp)) _).alloc _) (by simp), by simp [Value.ownBlock]⟩
      · have HX : RowKit.Hid (rText most e l = (l1.take n, l1.drop n, 0)) := Lib.hid (by rw [HT.out, rTextOf, if_pos rfl, if_neg hmx, if_neg hlen])
        have hlen2 : ¬ (l1.length : Int) < (n : Int) := by omega
        by_cases hne : l1 = []
        · subst hne
          obtain rfl : n = 0 := by simpa using hlen
          have hcv := fun W x k => conv_empty W x k
          by_cases hm0 : most < 0
          · clear hmx
            cases a1 with
            | none =>
              obtain rfl := hna1 rfl
              clear hna1
              obtain ⟨q0, q1⟩ := two_cells HB.out (.slice none 0 0) (.int .i64 0) (.cells #[.slice none 0 0, .int .i64 0] 64)
              go_wp2
              go_region
              go_wp2
              refine bodyPost_ret (v := .tuple #[.string ⟨#[]⟩, .agg #[.slice none 0 0, .int .i64 0]]) (by simp [results, Try.results35, go_sem, q0, q1]) rfl ?_
              have hk3 : ∀ ob : Obj, Kept w1 (((w1.setCell ⟨w.heap.size + 1, 0, none⟩ (.slice none 0 0)).setCell ⟨w.heap.size + 1, 1, none⟩ (.int .i64 0)).alloc ob).drew [w.heap.size + 1] := fun ob =>
                ((((Kept.refl w1 _).setCell (.inl (by simp)) _).setCell (.inl (by simp)) _).alloc ob).drew
              rw [HX.out]
              exact ⟨.slice none 0 0, rfl, ⟨none, 0, rfl, Nat.zero_le _, by simp, fun h => absurd rfl h⟩, Hk1.out.trans (hk3 _) (by simp), fun x hx => Hb1.out x hx⟩
            | some x =>
              clear hna1
              obtain ⟨q0, q1⟩ := two_cells HB.out (.slice (some x) 0 c1) (.int .i64 0) (.cells #[.slice (some x) 0 c1, .int .i64 0] 64)
              go_wp2
              go_region
              go_wp2
              refine bodyPost_ret (v := .tuple #[.string ⟨#[]⟩, .agg #[.slice (some x) 0 c1, .int .i64 0]]) (by simp [results, Try.results35, go_sem, q0, q1]) rfl ?_
              have hk3 : ∀ ob : Obj, Kept w1 (((w1.setCell ⟨w.heap.size + 1, 0, none⟩ (.slice (some x) 0 c1)).setCell ⟨w.heap.size + 1, 1, none⟩ (.int .i64 0)).alloc ob).drew [w.heap.size + 1] := fun ob =>
                ((((Kept.refl w1 _).setCell (.inl (by simp)) _).setCell (.inl (by simp)) _).alloc ob).drew
              rw [HX.out]
              exact ⟨.slice (some x) 0 c1, rfl, ⟨some x, c1, rfl, Nat.zero_le _, by simp, fun h => absurd rfl h⟩, Hk1.out.trans (hk3 _) (by simp), fun x hx => Hb1.out x hx⟩
          · have hn0 : ¬ most < 0 := hm0
            clear hmx
            cases a1 with
            | none =>
              obtain rfl := hna1 rfl
              clear hna1
              obtain ⟨q0, q1⟩ := two_cells HB.out (.slice none 0 0) (.int .i64 0) (.cells #[.slice none 0 0, .int .i64 0] 64)
              go_wp2
              go_region
              go_wp2
              refine bodyPost_ret (v := .tuple #[.string ⟨#[]⟩, .agg #[.slice none 0 0, .int .i64 0]]) (by simp [results, Try.results35, go_sem, q0, q1]) rfl ?_
              have hk3 : ∀ ob : Obj, Kept w1 (((w1.setCell ⟨w.heap.size + 1, 0, none⟩ (.slice none 0 0)).setCell ⟨w.heap.size + 1, 1, none⟩ (.int .i64 0)).alloc ob).drew [w.heap.size + 1] := fun ob =>
                ((((Kept.refl w1 _).setCell (.inl (by simp)) _).setCell (.inl (by simp)) _).alloc ob).drew
              rw [HX.out]
              exact ⟨.slice none 0 0, rfl, ⟨none, 0, rfl, Nat.zero_le _, by simp, fun h => absurd rfl h⟩, Hk1.out.trans (hk3 _) (by simp), fun x hx => Hb1.out x hx⟩
            | some x =>
              clear hna1
              obtain ⟨q0, q1⟩ := two_cells HB.out (.slice (some x) 0 c1) (.int .i64 0) (.cells #[.slice (some x) 0 c1, .int .i64 0] 64)
              go_wp2
              go_region
              go_wp2
              refine bodyPost_ret (v := .tuple #[.string ⟨#[]⟩, .agg #[.slice (some x) 0 c1, .int .i64 0]]) (by simp [results, Try.results35, go_sem, q0, q1]) rfl ?_
              have hk3 : ∀ ob : Obj, Kept w1 (((w1.setCell ⟨w.heap.size + 1, 0, none⟩ (.slice (some x) 0 c1)).setCell ⟨w.heap.size + 1, 1, none⟩ (.int .i64 0)).alloc ob).drew [w.heap.size + 1] := fun ob =>
                ((((Kept.refl w1 _).setCell (.inl (by simp)) _).setCell (.inl (by simp)) _).alloc ob).drew
              rw [HX.out]
              exact ⟨.slice (some x) 0 c1, rfl, ⟨some x, c1, rfl, Nat.zero_le _, by simp, fun h => absurd rfl h⟩, Hk1.out.trans (hk3 _) (by simp), fun x hx => Hb1.out x hx⟩
        · obtain ⟨b, o, rfl, hcell2⟩ := Hcell1.out hne
          have hbw : b < w1.heap.size := World.block_lt_of_cell? w1 _ (hcell2 0 (List.length_pos_iff.2 hne))
          have hcv : ∀ k : Nat, (convert 28 9 (.slice (some ⟨b, o, none⟩) n k)).run Try.prog (w1.alloc (.cells #[.slice (some ⟨b, o, none⟩) l1.length c1, .int .i64 0] 64)) = .ok (.string (strL (l1.take n))) (w1.alloc (.cells #[.slice (some ⟨b, o, none⟩) l1.length c1, .int .i64 0] 64)) := fun k =>
            conv_take _ b o k n l1 (by omega) (fun i hi => by rw [World.cell?_alloc_past _ _ _ hbw]; exact hcell2 i hi)
          have hcv2 : ∀ k : Nat, (convert 28 9 (.slice (some ⟨b, o, none⟩) n k)).run Try.prog (w1.alloc (.cells #[.slice (some ⟨b, o, none⟩) l1.length c1, .int .i64 0] 64)).drew = .ok (.string (strL (l1.take n))) (w1.alloc (.cells #[.slice (some ⟨b, o, none⟩) l1.length c1, .int .i64 0] 64)).drew := fun k =>
            conv_take _ b o k n l1 (by omega) (fun i hi => by show (w1.alloc _).cell? _ = _; rw [World.cell?_alloc_past _ _ _ hbw]; exact hcell2 i hi)
          obtain ⟨S, hS⟩ : ∃ S, S = strL (l1.take n) := ⟨_, rfl⟩
          rw [← hS] at hcv hcv2
          have HS := Lib.hid hS; have Hcell := Lib.hid hcell2
          clear hcell2 hS hna1
          by_cases hm0 : most < 0
          · obtain rfl : n = 0 := by omega
            clear hmx
            obtain ⟨q0, q1⟩ := two_cells HB.out (.slice (some ⟨b, o, none⟩) l1.length c1) (.int .i64 0) (.cells #[.slice (some ⟨b, o, none⟩) l1.length c1, .int .i64 0] 64)
            go_wp2
            go_region
            go_wp2
            refine bodyPost_ret (v := .tuple #[.string S, .agg #[.slice (some ⟨b, o, none⟩) l1.length c1, .int .i64 0]]) (by simp [results, Try.results35, go_sem, q0, q1]) rfl ?_
            have hk3 : ∀ ob : Obj, Kept w1 (((w1.setCell ⟨w.heap.size + 1, 0, none⟩ (.slice (some ⟨b, o, none⟩) l1.length c1)).setCell ⟨w.heap.size + 1, 1, none⟩ (.int .i64 0)).alloc ob).drew [w.heap.size + 1] := fun ob =>
              ((((Kept.refl w1 _).setCell (.inl (by simp)) _).setCell (.inl (by simp)) _).alloc ob).drew
            rw [HX.out]
            exact ⟨.slice (some ⟨b, o, none⟩) l1.length c1, by rw [← HS.out], (rd_cut Hcell.out 0 o l1.length c1 rfl hc1 (fun _ => rfl)).kept2 (hk3 _) (H.out.not_new (by simp; omega) (fun x hx => Hb1.out x hx) (by omega)), Hk1.out.trans (hk3 _) (by simp), fun x hx => Hb1.out x hx⟩
          · have hn0 : ¬ most < (n : Int) := by omega
            by_cases hcs : c1 = n
            · subst hcs
              obtain ⟨q0, q1⟩ := two_cells HB.out (.slice (some ⟨b, o, none⟩) 0 0) (.int .i64 0) (.cells #[.slice (some ⟨b, o, none⟩) l1.length c1, .int .i64 0] 64)
              go_wp2
              go_region
              go_wp2
              refine bodyPost_ret (v := .tuple #[.string S, .agg #[.slice (some ⟨b, o, none⟩) 0 0, .int .i64 0]]) (by simp [results, Try.results35, go_sem, q0, q1]) rfl ?_
              have hk3 : ∀ ob : Obj, Kept w1 (((w1.setCell ⟨w.heap.size + 1, 0, none⟩ (.slice (some ⟨b, o, none⟩) 0 0)).setCell ⟨w.heap.size + 1, 1, none⟩ (.int .i64 0)).alloc ob).drew [w.heap.size + 1] := fun ob =>
                ((((Kept.refl w1 _).setCell (.inl (by simp)) _).setCell (.inl (by simp)) _).alloc ob).drew
              rw [HX.out]
              exact ⟨.slice (some ⟨b, o, none⟩) 0 0, by rw [← HS.out], (rd_cut Hcell.out c1 o 0 0 (by omega) (by omega) (by omega)).kept2 (hk3 _) (H.out.not_new (by simp; omega) (fun x hx => Hb1.out x hx) (by omega)), Hk1.out.trans (hk3 _) (by simp), fun x hx => Hb1.out x hx⟩
            · have hcs' : (n : Int) < (c1 : Int) := by omega
              obtain ⟨q0, q1⟩ := two_cells HB.out (.slice (some ⟨b, o + n, none⟩) (l1.length - n) (c1 - n)) (.int .i64 0) (.cells #[.slice (some ⟨b, o, none⟩) l1.length c1, .int .i64 0] 64)
              go_wp2
              go_region
              go_wp2
              refine bodyPost_ret (v := .tuple #[.string S, .agg #[.slice (some ⟨b, o + n, none⟩) (l1.length - n) (c1 - n), .int .i64 0]]) (by simp [results, Try.results35, go_sem, q0, q1]) rfl ?_
              have hk3 : ∀ ob : Obj, Kept w1 (((w1.setCell ⟨w.heap.size + 1, 0, none⟩ (.slice (some ⟨b, o + n, none⟩) (l1.length - n) (c1 - n))).setCell ⟨w.heap.size + 1, 1, none⟩ (.int .i64 0)).alloc ob).drew [w.heap.size + 1] := fun ob =>
                ((((Kept.refl w1 _).setCell (.inl (by simp)) _).setCell (.inl (by simp)) _).alloc ob).drew
              rw [HX.out]
              exact ⟨.slice (some ⟨b, o + n, none⟩) (l1.length - n) (c1 - n), by rw [← HS.out], (rd_cut Hcell.out n (o + n) (l1.length - n) (c1 - n) rfl (by omega) (fun _ => rfl)).kept2 (hk3 _) (H.out.not_new (by simp; omega) (fun x hx => Hb1.out x hx) (by omega)), Hk1.out.trans (hk3 _) (by simp), fun x hx => Hb1.out x hx⟩
  · have x1 : (e1 != 0) = true := by simpa using he
    have HX : RowKit.Hid (rText most e l = ([], l1, e1)) := Lib.hid (by rw [HT.out, rTextOf, if_neg he])
    clear he
    obtain ⟨q0, q1⟩ := two_cells HB.out (.slice a1 l1.length c1) (.int .i64 e1) (.cells #[.slice a1 l1.length c1, .int .i64 e1] 64)
    go_wp2
    go_region
    go_wp2
    refine bodyPost_ret (v := .tuple #[.string ⟨#[]⟩, .agg #[.slice a1 l1.length c1, .int .i64 e1]]) (by simp [results, Try.results35, go_sem, q0, q1]) rfl ?_
    have hk3 : ∀ ob : Obj, Kept w1 (((w1.setCell ⟨w.heap.size + 1, 0, none⟩ (.slice a1 l1.length c1)).setCell ⟨w.heap.size + 1, 1, none⟩ (.int .i64 e1)).alloc ob).drew [w.heap.size + 1] := fun ob =>
      ((((Kept.refl w1 _).setCell (.inl (by simp)) _).setCell (.inl (by simp)) _).alloc ob).drew
    rw [HX.out]
    exact ⟨_, rfl, Hr1.out.kept2 (hk3 _) (H.out.not_new hln Hb1.out (by omega)), Hk1.out.trans (hk3 _) (by simp), Hb1.out⟩

end Go.Proofs.Ytkpjbmcgfdophaa
