/-
 Proved: whatever the arguments are, carrierlaw16.EntryTurned answers true and leaves its arguments as they were. No condition.
-/
import Derived.Test.YtjdbmlifekghfaaEt0
import Derived.Test.YtjdbmlifekghfaaEt35
import Derived.Test.YtjdbmlifekghfaaEt1
import Derived.ProofKit
import Derived.OpenShut
import Derived.ShutString
import Derived.ChangeOld
import Derived.Below
set_option linter.unusedVariables false
set_option maxHeartbeats 16000000
set_option maxRecDepth 100000
namespace Go.Proofs.Ytjdbmlifekghfaa.entryTurned
open Go.ChangeShapes Go.WideShapes Go.ChangeAt Go.RowKit
theorem own : ownKnob Try.prog.godebug = none := by kernel_rfl
theorem laidOut : laidOutB Try.prog = true := by kernel_rfl
theorem rd_take {w : World} {base g n c : Nat} {e : TypeId} {l : List UInt8} (h : Own w base e (.slice (some ⟨g, 0, none⟩) n c) l) (k : Nat) (hk : k <= l.length) : Rd w (.slice (some ⟨g, 0, none⟩) k c) (l.take k) := by
 have hlen : (l.take k).length = k := by rw [List.length_take]; omega
 obtain ⟨a, c', hv, hc, _, _⟩ := h.rd
 simp only [Value.slice.injEq] at hv
 obtain ⟨_, rfl, rfl⟩ := hv
 refine ⟨some ⟨g, 0, none⟩, c, by rw [hlen], by rw [hlen]; omega, by simp, fun _ => ⟨g, 0, rfl, fun i hi => ?_⟩⟩
 rw [hlen] at hi
 rw [Nat.zero_add, (own_at h i (by omega)).1]
 congr 3
 simp [List.getD, hi]
theorem walk (r : Rw) (vl vk vg vs : Value) (bl bg bs : List UInt8) (a1 a2 : Int) (a3 : Bool) (a4 : Option Addr) (len4 cap4 : Nat) (z4 : List Int) (W : World) (d : RdW W r vl vk vg vs bl bg bs) (u : r.Num) (w1 : (Lit.int .u16 a1).wf = true) (w2 : (Lit.int .u8 a2).wf = true) (w4 : IsRow .u8 W a4 len4 cap4 z4) :
  Calls Try.prog 5 #[.agg (r.cs vl vk vg vs), .int .u16 a1, .int .u8 a2, .bool a3, .slice a4 len4 cap4] W fun e w' => e = .returned (.bool true) /\ Below W.heap.size W w' := by
 obtain ⟨la, lc, rfl, _⟩ := id d.l
 obtain ⟨ka, kc, rfl, _⟩ := id d.k
 obtain ⟨ga, gc, rfl, _⟩ := id d.g
 obtain ⟨sa, sc, rfl, _⟩ := id d.s
 obtain ⟨rk, rtx, rn, ra, rnm, rM, rl, rks, rt, rgs, rss⟩ := r
 obtain ⟨Mo, rfl, hrd⟩ := isRow_rd w4
 have R := iH hrd
 have Bd := iH (And.intro (bounds_u16 w1) (bounds_u8 w2))
 clear w1 w2 w4 hrd
 by_cases sm : (⟨rk, rtx, rn, ra, rnm, rM, rl, rks, rt, rgs, rss⟩ : Rw).Small bl bg bs
 case neg =>
  have HN := fun (V : World) (hV : Kept W V []) => small_no (⟨rk, rtx, rn, ra, rnm, rM, rl, rks, rt, rgs, rss⟩ : Rw) (.slice la bl.length lc) (.slice ka rks.length kc) (.slice ga bg.length gc) (.slice sa bs.length sc) bl bg bs V (d.keep hV) sm
  simp only [Rw.cs_eq] at HN
  have HN := iH HN
  clear d u sm
  rw [Rw.cs_eq]
  go_enter Try.func5, Try.ntmps5
  go_wp2_with fail
  refine (nine_any _).mono ?_
  rintro e w1 ⟨rfl, hk⟩
  have K1 := iH (((Kept.refl W []).alloc _).trans hk (by simp))
  have B1 := iH (hk.heap (by simp) (heap_alloc_new W (.cells #[.int .u8 (rk : Nat), .int .i64 rtx, .int .i64 rn, .int .i64 ra, .string rnm, .int .u8 (rM : Nat), .slice la bl.length lc, .slice ka rks.length kc, .string rt, .slice ga bg.length gc, .slice sa bs.length sc] 25)))
  clear hk
  have pp := fun j => cell_of_row w1 W.heap.size j _ _ _ B1.out
  have p0 := pp 0
  have p1 := pp 1
  have p2 := pp 2
  have p3 := pp 3
  have p4 := pp 4
  have p5 := pp 5
  have p6 := pp 6
  have p7 := pp 7
  have p8 := pp 8
  have p9 := pp 9
  have p10 := pp 10
  simp only [List.getElem?_toArray, List.getElem?_cons_zero, List.getElem?_cons_succ] at p0 p1 p2 p3 p4 p5 p6 p7 p8 p9 p10
  clear pp
  go_wp2_with fail
  refine (HN.out _ K1.out).mono ?_
  rintro e w2 ⟨rfl, hk⟩
  have K2 := iH (K1.out.trans hk (by simp)); have B2 := iH (hk.heap (by simp) B1.out)
  clear hk
  clear p0 p1 p2 p3 p4 p5 p6 p7 p8 p9 p10
  go_wp2_with fail
  refine (nine_any _).mono ?_
  rintro e w9 ⟨rfl, hk⟩
  have K9 := iH (K2.out.trans hk (by simp)); clear hk
  go_wp2
  go_ret
  exact ⟨rfl, K9.out.below (Nat.le_refl _) (by simp)⟩
 have HY := fun (V : World) (hV : Kept W V []) => small_yes (⟨rk, rtx, rn, ra, rnm, rM, rl, rks, rt, rgs, rss⟩ : Rw) (.slice la bl.length lc) (.slice ka rks.length kc) (.slice ga bg.length gc) (.slice sa bs.length sc) bl bg bs V (d.keep hV) sm
 simp only [Rw.cs_eq] at HY
 have HY := iH HY
 have HOF := fun (V : World) (hV : Kept W V []) => of_lit (⟨rk, rtx, rn, ra, rnm, rM, rl, rks, rt, rgs, rss⟩ : Rw) (.slice la bl.length lc) (.slice ka rks.length kc) (.slice ga bg.length gc) (.slice sa bs.length sc) bl bg bs V (d.keep hV) u sm
 simp only [Rw.cs_eq] at HOF
 have HOF := iH HOF
 clear d u sm
 by_cases h3 : (10 : Int) < (Mo.length : Int)
 case pos =>
  rw [Rw.cs_eq]
  go_enter Try.func5, Try.ntmps5
  go_wp2_with fail
  refine (nine_any _).mono ?_
  rintro e w1 ⟨rfl, hk⟩
  have K1 := iH (((Kept.refl W []).alloc _).trans hk (by simp))
  have B1 := iH (hk.heap (by simp) (heap_alloc_new W (.cells #[.int .u8 (rk : Nat), .int .i64 rtx, .int .i64 rn, .int .i64 ra, .string rnm, .int .u8 (rM : Nat), .slice la bl.length lc, .slice ka rks.length kc, .string rt, .slice ga bg.length gc, .slice sa bs.length sc] 25)))
  clear hk
  have pp := fun j => cell_of_row w1 W.heap.size j _ _ _ B1.out
  have p0 := pp 0
  have p1 := pp 1
  have p2 := pp 2
  have p3 := pp 3
  have p4 := pp 4
  have p5 := pp 5
  have p6 := pp 6
  have p7 := pp 7
  have p8 := pp 8
  have p9 := pp 9
  have p10 := pp 10
  simp only [List.getElem?_toArray, List.getElem?_cons_zero, List.getElem?_cons_succ] at p0 p1 p2 p3 p4 p5 p6 p7 p8 p9 p10
  clear pp
  go_wp2_with fail
  refine (HY.out _ K1.out).mono ?_
  rintro e w2 ⟨rfl, hk⟩
  have K2 := iH (K1.out.trans hk (by simp)); have B2 := iH (hk.heap (by simp) B1.out)
  clear hk
  clear p0 p1 p2 p3 p4 p5 p6 p7 p8 p9 p10
  go_wp2_with fail
  refine (nine_any _).mono ?_
  rintro e w9 ⟨rfl, hk⟩
  have K9 := iH (K2.out.trans hk (by simp)); clear hk
  go_wp2
  go_ret
  exact ⟨rfl, K9.out.below (Nat.le_refl _) (by simp)⟩
 have h10 : Mo.length <= 10 := by omega
 obtain ⟨at_, hat⟩ := Int.eq_ofNat_of_zero_le Bd.out.1.1
 obtain ⟨b, hb⟩ : ∃ b : UInt8, a2 = (b.toNat : Int) := ⟨UInt8.ofNat a2.toNat, by have := Bd.out.2; rw [UInt8.toNat_ofNat']; omega⟩
 have hat2 : at_ <= 65535 := by have := Bd.out.1; omega
 have HAT := iH hat; have HB := iH hb; have H10 := iH h10
 clear hat hb
 rw [Rw.cs_eq]
 go_enter Try.func5, Try.ntmps5
 go_wp2_with fail
 refine (nine_any _).mono ?_
 rintro e w1 ⟨rfl, hk⟩
 have K1 := iH (((Kept.refl W []).alloc _).trans hk (by simp))
 have B1 := iH (hk.heap (by simp) (heap_alloc_new W (.cells #[.int .u8 (rk : Nat), .int .i64 rtx, .int .i64 rn, .int .i64 ra, .string rnm, .int .u8 (rM : Nat), .slice la bl.length lc, .slice ka rks.length kc, .string rt, .slice ga bg.length gc, .slice sa bs.length sc] 25)))
 clear hk
 have pp := fun j => cell_of_row w1 W.heap.size j _ _ _ B1.out
 have p0 := pp 0
 have p1 := pp 1
 have p2 := pp 2
 have p3 := pp 3
 have p4 := pp 4
 have p5 := pp 5
 have p6 := pp 6
 have p7 := pp 7
 have p8 := pp 8
 have p9 := pp 9
 have p10 := pp 10
 simp only [List.getElem?_toArray, List.getElem?_cons_zero, List.getElem?_cons_succ] at p0 p1 p2 p3 p4 p5 p6 p7 p8 p9 p10
 clear pp
 go_wp2_with fail
 refine (HY.out _ K1.out).mono ?_
 rintro e w2 ⟨rfl, hk⟩
 have K2 := iH (K1.out.trans hk (by simp)); have B2 := iH (hk.heap (by simp) B1.out)
 clear hk
 clear p0 p1 p2 p3 p4 p5 p6 p7 p8 p9 p10
 have pp := fun j => cell_of_row w2 W.heap.size j _ _ _ B2.out
 have p0 := pp 0
 have p1 := pp 1
 have p2 := pp 2
 have p3 := pp 3
 have p4 := pp 4
 have p5 := pp 5
 have p6 := pp 6
 have p7 := pp 7
 have p8 := pp 8
 have p9 := pp 9
 have p10 := pp 10
 simp only [List.getElem?_toArray, List.getElem?_cons_zero, List.getElem?_cons_succ] at p0 p1 p2 p3 p4 p5 p6 p7 p8 p9 p10
 clear pp
 go_wp2_with fail
 refine (HOF.out _ K2.out).mono ?_
 rintro e w3 ⟨k, tx, nx, id1, ops, evs, tn, tm, op, ta, nm, n, at1, ao, ao1, ae, ae1, ai, ai1, M, l, rfl, rd3, lw3, hr3, hn3, hE3, hM3, k3⟩
 have K3 := iH (K2.out.trans k3 (by simp))
 have hlen := encL_len hr3
 have HF := iH (rencode16_any (hr := hr3) (hd := rd3))
 clear hE3 hM3 lw3 hn3 k3
 clear p0 p1 p2 p3 p4 p5 p6 p7 p8 p9 p10
 simp only [En.cs] at HF
 obtain ⟨L0, hL0⟩ : ∃ L0, L0 = En.encL (⟨k, tx, nx, id1, ops, evs, tn, tm, op, ta, nm, n, at1⟩ : En) := ⟨_, rfl⟩
 rw [<- hL0] at HF hlen
 clear hr3 rd3 hL0
 go_wp2_with fail
 refine (HF.out).mono ?_
 rintro e w4 ⟨v4, rfl, o4, k4⟩
 have K4 := iH (K3.out.trans k4 (by simp)); have O4 := iH o4.rd
 clear k4 o4
 obtain ⟨L, hL⟩ : ∃ L, L = L0 ++ Mo := ⟨_, rfl⟩
 have hl : L.length <= 200100 /\ 0 < L.length := by rw [hL, List.length_append]; omega
 obtain ⟨k, hk⟩ : ∃ k, k = at_ % L.length := ⟨_, rfl⟩
 have hkl : k < L.length := by rw [hk]; exact Nat.mod_lt _ hl.2
 have hkm : (at_ : Int).tmod (L.length : Int) = (k : Int) := by rw [hk, Int.tmod_eq_emod_of_nonneg (Int.natCast_nonneg _), <- Int.natCast_emod]
 have HL := iH hL; have HK := iH hk; have Hl := iH hl; have HLl := iH hlen
 have hn0 : ((L.length : Int) == 0) = false := by rw [beq_eq_false_iff_ne]; omega
 clear hL hk hl hlen h10 h3
 go_wp2_with fail
 refine (xqK W w4 _ _ L0 Mo K4.out O4.out (R.out.kept K4.out (by simp)) (by have := HLl.out; omega) (by have := H10.out; omega)).mono ?_
 rintro e w5 ⟨v5, rfl, o5, k5, -⟩
 rw [<- HL.out] at o5
 obtain ⟨av, cv, hv5⟩ := o5.shape
 obtain ⟨g, rfl⟩ : ∃ g, av = some ⟨g, 0, none⟩ := by
  rcases o5.2 with ⟨h1, h2⟩ | ⟨g, cap, cur, h1, _⟩
  ·have := Hl.out; omega
  rw [h1] at hv5; simp only [Value.slice.injEq] at hv5; exact ⟨g, hv5.1.symm⟩
 subst hv5
 have hcl : L.length <= cv := by
  obtain ⟨a, c', hv, hc, _⟩ := o5.rd
  simp only [Value.slice.injEq] at hv
  obtain ⟨_, _, rfl⟩ := hv
  exact hc
 have hgW := (o5.lt g rfl).1
 have O5 := iH o5; have K5 := iH k5
 clear o5 k5
 have hkc : (k : Int) <= (cv : Int) := by omega
 obtain ⟨n9, hn9⟩ : ∃ n9, n9 = L.length := ⟨_, rfl⟩
 rw [<- hn9] at hkm hn0 hkl hcl
 rw [HAT.out]
 have HN9 := iH hn9
 have HKL := iH hkl
 rw [<- hn9] at O5 ⊢
 have x1 : (k : Int) < (n9 : Int) := by omega
 have x2 : k <= n9 := by omega
 have x3 : k < n9 := hkl
 clear hn9
 cases a3 with
 | true =>
  have R6 := iH (rd_take O5.out k (by have := HN9.out; omega))
  have K6 := K5
  obtain ⟨L6, hL6⟩ : ∃ L6, L6 = L.take k := ⟨_, rfl⟩
  have hl6 : L6.length <= 200100 := by have := Hl.out; rw [hL6, List.length_take]; omega
  have HL6 := iH hl6
  rw [<- hL6] at R6
  clear hL6 hl6
  go_wp2_with fail
  refine (reads_any _ L6 _ R6.out (by have := HL6.out; omega)).mono ?_
  rintro e w7 ⟨rfl, k7⟩
  have K7 := iH (K6.out.trans k7 (by simp))
  clear k7
  go_wp2
  go_ret
  exact ⟨rfl, K7.out.below (Nat.le_refl _) (by simp)⟩
 | false =>
  obtain ⟨z0, f0⟩ := own_at O5.out k (by have := HN9.out; omega)
  have o6 := own_store O5.out k (by have := HN9.out; omega) b
  rw [<- HB.out] at o6
  have R6 := iH o6.rd
  have K6 := iH (K5.out.setCell (p := ⟨g, k, none⟩) (.inr hgW) (.int .u8 a2))
  obtain ⟨L6, hL6⟩ : ∃ L6, L6 = L.set k b := ⟨_, rfl⟩
  have hl6 : L6.length <= 200100 := by have := Hl.out; rw [hL6, List.length_set]; omega
  have HL6 := iH hl6
  rw [<- hL6] at R6
  clear hL6 o6 hl6
  go_wp2_with fail
  refine (reads_any _ L6 _ R6.out (by have := HL6.out; omega)).mono ?_
  rintro e w7 ⟨rfl, k7⟩
  have K7 := iH (K6.out.trans k7 (by simp))
  clear k7
  go_wp2
  go_ret
  exact ⟨rfl, K7.out.below (Nat.le_refl _) (by simp)⟩
theorem lifted (os : Os) (started : os.Started) (H : Type) (enc : TypeId × Value -> H) :
  ReturnsInHanded {} Try.checked os 5 .any (Rows.entryTurnedSpec.pre6 enc Try.prog Try.f5 Rows.entryTurnedRow.domain false) (Rows.entryTurnedSpec.post enc Try.prog Try.f5 false true false false) := by
 refine returnsInHanded_of_change (C := Try.checked) own started (by kernel_rfl) Try.func5
  (ChangeSpec.witness6 (enc := enc) (C := Try.checked) false ⟨#[], #[.agg #[.int .u8 0, .int .i64 0, .int .i64 0, .int .i64 0, .string ByteArray.empty, .int .u8 0, .slice none 0 0, .slice none 0 0, .string ByteArray.empty, .slice none 0 0, .slice none 0 0], .int .u16 0, .int .u8 0, .bool false, .slice none 0 0], []⟩ 8 (by kernel_rfl) (by kernel_rfl) (by kernel_rfl) (by kernel_rfl)) ?_
 intro W base args ds gs before hval0 hW hcnd _
 have hval : ∀ (j : Nat) t v, Try.f5.params[j]? = some t -> args[j]? = some v -> Value.okWide Try.prog W .any base t v := hval0
 have hW' := hW
 obtain ⟨p, q, hA0, hV, rfl, hfz, hnd⟩ := hW
 have hA : DataW.TrodAll enc Try.prog W 0 (fun _ => true) true Try.f5.params.toList args.toList ds p := hA0
 rw [Try.params5] at hA hval
 obtain ⟨v0, vs0, d0, ds0, p0, q0, hargs, rfl, rfl, h0, r0⟩ := trodAll_cons hA
 obtain ⟨v1, vs1, d1, ds1, p1, q1, rfl, rfl, rfl, h1, r1⟩ := trodAll_cons r0
 obtain ⟨v2, vs2, d2, ds2, p2, q2, rfl, rfl, rfl, h2, r2⟩ := trodAll_cons r1
 obtain ⟨v3, vs3, d3, ds3, p3, q3, rfl, rfl, rfl, h3, r3⟩ := trodAll_cons r2
 obtain ⟨v4, vs4, d4, ds4, p4, q4, rfl, rfl, rfl, h4, r4⟩ := trodAll_cons r3
 obtain ⟨rfl, rfl, rfl⟩ := trodAll_nil r4
 obtain rfl : args = #[v0, v1, v2, v3, v4] := by cases args; simp_all
 obtain ⟨rfl, rfl⟩ := trodVars_none hV
 have k0 := h0
 have lt0 : ∀ x ∈ p0, x.block < W.heap.size := by obtain ⟨m, hm⟩ := k0; exact DataW.trod_lt m _ _ _ hm
 obtain ⟨raw0, vl0, vk0, vg0, vs0, bl0, bg0, bs0, rfl, w0, u0⟩ := raw_open (hval 0 25 v0 rfl rfl) h0
 obtain ⟨a1, rfl, rfl, rfl, w1⟩ := open_int Try.underlying56 (hval 1 56 v1 rfl rfl) h1
 obtain ⟨a2, rfl, rfl, rfl, w2⟩ := open_int Try.underlying5 (hval 2 5 v2 rfl rfl) h2
 obtain ⟨a3, rfl, rfl, rfl⟩ := open_bool Try.underlying4 (hval 3 4 v3 rfl rfl) h3
 obtain ⟨a4, len4, cap4, rfl⟩ := okWide_slice Try.underlying22 (hval 4 22 v4 rfl rfl)
 have k4 := h4
 have lt4 : ∀ x ∈ p4, x.block < W.heap.size := by obtain ⟨m, hm⟩ := k4; exact DataW.trod_lt m _ _ _ hm
 obtain ⟨z4, w4⟩ : ∃ zs, IsRow .u8 W a4 len4 cap4 zs := by
  obtain ⟨fuel, hf⟩ := h4
  rcases open_ints Try.underlying22 Try.underlying5 (by kernel_rfl) hf with ⟨hcs, _⟩ | ⟨x, l, c, zs, hcs, _, hl, hm, hz, _, hcell, hwz⟩
  ·simp [Value.cells] at hcs
   obtain ⟨rfl, rfl, rfl⟩ := hcs
   exact ⟨[], .inl ⟨rfl, rfl, rfl, rfl⟩⟩
  simp [Value.cells] at hcs
  obtain ⟨rfl, rfl, rfl⟩ := hcs
  exact ⟨zs, .inr ⟨_, rfl, hl, hm, by simpa using hz, hcell, hwz⟩⟩
 clear hA0 hval0
 refine (walk raw0 vl0 vk0 vg0 vs0 bl0 bg0 bs0 a1 a2 a3 a4 len4 cap4 z4 W w0 u0 w1 w2 w4).mono fun e W' ⟨he, bel⟩ => ?_
 subst he
 exact ⟨_, rfl, _, _, _, [], _, [], hW', trodAll_mk1 (shut_bool Try.underlying4 _), (trodAll_cons_mk (Below.trod laidOut (by kernel_rfl) (of_decide_eq_true (by kernel_rfl)) k0 bel lt0) (trodAll_cons_mk (shut_int Try.underlying56 w1) (trodAll_cons_mk (shut_int Try.underlying5 w2) (trodAll_cons_mk (shut_bool Try.underlying4 a3) (trodAll_cons_mk (Below.trod laidOut (by kernel_rfl) (of_decide_eq_true (by kernel_rfl)) k4 bel lt4) trodAll_mk0))))), rfl, bel.frame _, fun h => by cases h⟩
theorem over : Rows.entryTurnedRow.holds Try.pinned (OpenSpec.ofChange Rows.entryTurnedSpec) :=
 OpenClaim.holds_of_wide 5 Try.f5 rfl rfl rfl rfl rfl rfl rfl ⟨rfl, rfl, rfl, rfl, rfl⟩ rfl rfl rfl rfl rfl (by kernel_rfl) Try.func5 (by kernel_rfl)
  (of_decide_eq_true (by kernel_rfl)) (by unfold Func.isWrapper; first | (rw [if_pos (by decide +kernel)]; kernel_rfl) | (rw [if_neg (by decide +kernel)]; exact ⟨rfl, rfl⟩))
  (fun os started H enc _ => lifted os started H enc)
theorem proved : Rows.EntryTurnedSaid :=
 over
end Go.Proofs.Ytjdbmlifekghfaa.entryTurned
namespace Go.Proofs.Ytjdbmlifekghfaa
theorem entryTurned_holds : Rows.EntryTurnedSaid := entryTurned.proved
#print axioms entryTurned_holds
end Go.Proofs.Ytjdbmlifekghfaa
