/-
  Esb in one text.
-/
import Derived.Test.YtjdbmlifekghfaaEt0
import Derived.Test.YtjdbmlifekghfaaEt9
import Derived.Test.YtjdbmlifekghfaaEt16
import Derived.Deep.CutBlock
set_option linter.unusedVariables false
set_option maxHeartbeats 16000000
set_option maxRecDepth 100000
namespace Go.Proofs.Ytjdbmlifekghfaa
open Go.RowKit
def set13 (w : World) (b : Nat) (c0 c1 c2 c3 c4 c5 c6 c7 c8 c9 c10 c11 c12 : Value) : World :=
 ((((((((((((w.setCell ⟨b, 0, none⟩ c0).setCell ⟨b, 1, none⟩ c1).setCell ⟨b, 2, none⟩ c2).setCell ⟨b, 3, none⟩ c3).setCell ⟨b, 4, none⟩ c4).setCell ⟨b, 5, none⟩ c5).setCell ⟨b, 6, none⟩ c6).setCell ⟨b, 7, none⟩ c7).setCell ⟨b, 8, none⟩ c8).setCell ⟨b, 9, none⟩ c9).setCell ⟨b, 10, none⟩ c10).setCell ⟨b, 11, none⟩ c11).setCell ⟨b, 12, none⟩ c12
theorem put13 {w : World} {b : Nat} {z0 z1 z2 z3 z4 z5 z6 z7 z8 z9 z10 z11 z12 : Value} {T : TypeId} {fz : Nat × Nat} (h : w.heap[b]? = some (.cells #[z0, z1, z2, z3, z4, z5, z6, z7, z8, z9, z10, z11, z12] T fz)) (c0 c1 c2 c3 c4 c5 c6 c7 c8 c9 c10 c11 c12 : Value) :
  (set13 w b c0 c1 c2 c3 c4 c5 c6 c7 c8 c9 c10 c11 c12).heap[b]? = some (.cells #[c0, c1, c2, c3, c4, c5, c6, c7, c8, c9, c10, c11, c12] T fz) /\ Kept w (set13 w b c0 c1 c2 c3 c4 c5 c6 c7 c8 c9 c10 c11 c12) [b] := by
 refine ⟨?_, ((((((((((((((Kept.refl w [b]).setCell (.inl (by simp)) _).setCell (.inl (by simp)) _).setCell (.inl (by simp)) _).setCell (.inl (by simp)) _).setCell (.inl (by simp)) _).setCell (.inl (by simp)) _).setCell (.inl (by simp)) _).setCell (.inl (by simp)) _).setCell (.inl (by simp)) _).setCell (.inl (by simp)) _).setCell (.inl (by simp)) _).setCell (.inl (by simp)) _).setCell (.inl (by simp)) _)⟩
 have g := xqa (xqa (xqa (xqa (xqa (xqa (xqa (xqa (xqa (xqa (xqa (xqa (xqa h 0 c0) 1 c1) 2 c2) 3 c3) 4 c4) 5 c5) 6 c6) 7 c7) 8 c8) 9 c9) 10 c10) 11 c11) 12 c12
 simp only [List.setIfInBounds_toArray, List.set_cons_zero, List.set_cons_succ] at g
 exact g
theorem Rd.kept2b {w w' : World} {v : Value} {l : List UInt8} {bs : List Nat} (h : Rd w v l) (hk : Kept w w' bs) (hb : l ≠ [] -> ∀ b, v.ownBlock = some b -> b ∉ bs) : Rd w' v l := by
 by_cases hne : l = []
 ·subst hne
  obtain ⟨a, c, rfl, hc, ha, hl⟩ := h
  exact ⟨a, c, rfl, hc, ha, fun h => absurd rfl h⟩
 exact h.kept hk (hb hne)
theorem Rd.blk_lt {w : World} {v : Value} {l : List UInt8} (h : Rd w v l) (hne : l ≠ []) : ∀ b, v.ownBlock = some b -> b < w.heap.size := by
 obtain ⟨a, c, rfl, _, _, hl⟩ := h
 obtain ⟨b, o, rfl, hc⟩ := hl hne
 intro b' hb
 simp only [Value.ownBlock, Option.some.injEq] at hb
 subst hb
 exact World.block_lt_of_cell? w _ (hc 0 (List.length_pos_iff.2 hne))
def Low (w : World) (p q : Nat) (v : Value) : Prop := ∀ b, v.ownBlock = some b -> b < w.heap.size /\ b ≠ p /\ b ≠ q
theorem Low.none (w : World) (p q : Nat) (n c : Nat) : Low w p q (.slice none n c) := fun b h => by simp [Value.ownBlock] at h
theorem Low.own {α : Type} {E : Enc α} {w : World} {base p q : Nat} {e : TypeId} {v : Value} {l : List α} (h : OwnK E w base e v l) (hp : p < base) (hq : q < base) : Low w p q v := fun b hb => ⟨(h.lt b hb).2, by have := (h.lt b hb).1; omega, by have := (h.lt b hb).1; omega⟩
theorem Low.keep {w w' : World} {p q : Nat} {v : Value} (h : Low w p q v) (k : w.heap.size <= w'.heap.size) : Low w' p q v := fun b hb => ⟨Nat.lt_of_lt_of_le (h b hb).1 k, (h b hb).2⟩
def NoE (w : World) (v : Value) : Prop := ∀ b, v.ownBlock = some b -> ∃ cs T, w.heap[b]? = some (.cells cs T (0, 0)) /\ T ≠ 35
def NoEs (w : World) (vo ve vi : Value) : Prop := NoE w vo /\ NoE w ve /\ NoE w vi
theorem NoE.none (w : World) (n c : Nat) : NoE w (.slice none n c) := fun b h => by simp [Value.ownBlock] at h
theorem NoE.own {α : Type} {E : Enc α} {w : World} {base : Nat} {e : TypeId} {v : Value} {l : List α} (h : OwnK E w base e v l) (he : e ≠ 35) : NoE w v := fun b hb => by
 obtain ⟨c, hc⟩ := h.tag hb
 exact ⟨c, e, hc, he⟩
theorem NoE.keepK {w w' : World} {v : Value} {bs : List Nat} (h : NoE w v) (k : Kept w w' bs) (hb : ∀ b, v.ownBlock = some b -> b ∉ bs) : NoE w' v := fun b hb' => by
 obtain ⟨c, T, hc, hT⟩ := h b hb'
 exact ⟨c, T, k.heap (hb b hb') hc, hT⟩
def OfCut (r : Rw) (W1 wx : World) (s0 : Nat) : Prop :=
 ∃ (M : Int) (l : List Int) (oa : Option Addr) (on oc : Nat) (ea : Option Addr) (en ec : Nat) (ia : Option Addr) (il ic1 : Nat),
  M = 1 + (r.M : Int) % 40 /\ upB M 0 l = true /\ wx.heap[s0 + 2]? = some (.cells ((xqL r M l).cs (.slice oa on oc) (.slice ea en ec) (.slice ia il ic1)) 35 (0, 0)) /\
  RdN wx (xqL r M l) (.slice oa on oc) (.slice ea en ec) (.slice ia il ic1) /\ Low wx (s0 + 1) (s0 + 2) (.slice oa on oc) /\ Low wx (s0 + 1) (s0 + 2) (.slice ea en ec) /\ Low wx (s0 + 1) (s0 + 2) (.slice ia il ic1) /\ NoE wx (.slice oa on oc) /\ NoE wx (.slice ea en ec) /\ NoE wx (.slice ia il ic1) /\ Kept W1 wx [s0 + 2]
theorem Low.ne {w : World} {p q : Nat} {v : Value} (h : Low w p q v) : ∀ b, v.ownBlock = some b -> b ∉ [p] := fun b hb => by have := (h b hb).2.1; simp [this]
theorem Low.ne2 {w : World} {p q : Nat} {v : Value} (h : Low w p q v) : ∀ b, v.ownBlock = some b -> b ∉ [q] := fun b hb => by have := (h b hb).2.2; simp [this]
def LowN (w : World) (vo ve vi : Value) : Prop := (∀ b, vo.ownBlock = some b -> b < w.heap.size) /\ (∀ b, ve.ownBlock = some b -> b < w.heap.size) /\ (∀ b, vi.ownBlock = some b -> b < w.heap.size)
theorem lof_any (r : Rw) (vl vk vg vs : Value) (bl bg bs : List UInt8) (w : World) (d : RdW w r vl vk vg vs bl bg bs) (nu : r.Num) (sm : r.Small bl bg bs) :
  Calls Try.prog 11 #[.agg (r.cs vl vk vg vs)] w fun en w' => ∃ (M : Int) (l : List Int) (vo ve vi : Value), en = .returned (.agg ((xqL r M l).cs vo ve vi)) /\ (M = 1 + (r.M : Int) % 40 /\ NoEs w' vo ve vi) /\ upB M 0 l = true /\ RdN w' (xqL r M l) vo ve vi /\ LowN w' vo ve vi /\ Kept w w' [] := by
 obtain ⟨la, lc, rfl, _⟩ := id d.l
 obtain ⟨ka, kc, rfl, _⟩ := id d.k
 obtain ⟨ga, gc, rfl, _⟩ := id d.g
 obtain ⟨sa, sc, rfl, _⟩ := id d.s
 obtain ⟨k, tx, n, a, nm, M0, l0, ks, t, gs, ss⟩ := r
 have hbl := sm.l; have hnk := sm.k; have hbg := sm.g; have hns := sm.s
 dsimp only at hnk
 obtain ⟨nuk, nuM, nutx, nun, nua, nuks⟩ := nu
 dsimp only at nuk nuM nutx nun nua nuks
 obtain ⟨dl, dk, dg, ds, eg, es⟩ := d
 dsimp only at dk eg es
 clear sm
 obtain ⟨OL, hOL⟩ : ∃ OL : Nat -> List Ox, OL = rawOps (⟨k, tx, n, a, nm, M0, l0, ks, t, gs, ss⟩ : Rw) := ⟨_, rfl⟩
 obtain ⟨EL, hEL⟩ : ∃ EL : Nat -> List Px, EL = rawEvs (⟨k, tx, n, a, nm, M0, l0, ks, t, gs, ss⟩ : Rw) := ⟨_, rfl⟩
 have OS : RowKit.Hid (∀ i, OL (i + 1) = OL i ++ [⟨ks.getD i 0 % 256, goneAt gs i, ks.getD i 0, cutS t⟩]) := iH (fun i => by rw [hOL, <- rawOps_snoc]; rfl)
 have ES : RowKit.Hid (∀ i, EL (i + 1) = EL i ++ [⟨((ss.getD i 0 : Nat) : Int), ofE ((i : Int) + 1) tx nm i ((ss.getD i 0 : Nat) : Int) ((k : Nat) : Int) a t⟩]) := iH (fun i => by rw [hEL, <- rawEvs_snoc]; rfl)
 have OL0 : RowKit.Hid (OL 0 = []) := iH (by rw [hOL]; rfl)
 have EL0 : RowKit.Hid (EL 0 = []) := iH (by rw [hEL]; rfl)
 have OLn : RowKit.Hid (∀ i, (OL i).length = i) := iH (fun i => by rw [hOL]; exact rawOps_len _ i)
 have ELn : RowKit.Hid (∀ i, (EL i).length = i) := iH (fun i => by rw [hEL]; exact rawEvs_len _ i)
 have HOL := iH hOL; have HEL := iH hEL
 clear hOL hEL
 obtain ⟨m, hm⟩ : ∃ m, m = k % 11 := ⟨_, rfl⟩
 have hm2 : m < 11 := by omega
 have hmt : ((k : Nat) : Int).tmod 11 = (m : Nat) := by rw [Int.tmod_eq_emod_of_nonneg (by omega)]; omega
 have hmt2 : ((k : Nat) : Int) % 11 = (m : Nat) := by omega
 obtain ⟨kk, hkk⟩ : ∃ kk : Int, kk = 1 + (m : Int) := ⟨_, rfl⟩
 have hw1 : IntKind.u8.wrap (1 + (m : Int)) = kk := by rw [hkk]; simp [IntKind.wrap, IntKind.bits, IntKind.signed]; omega
 have hw2 : IntKind.u8.wrap (m : Int) = (m : Int) := by simp [IntKind.wrap, IntKind.bits, IntKind.signed]; omega
 have HKK := iH hkk; have HM := iH hm; have HM2 := iH hm2
 clear hkk hm hm2
 have HBL := iH hbl; have HNK := iH hnk; have HBG := iH hbg; have HNS := iH hns; have NUK := iH nuk; have NUM := iH nuM; have NTX := iH nutx; have NN := iH nun; have NA := iH nua; have NKS := iH nuks; have EG := iH eg; have ESS := iH es
 clear hbl hnk hbg hns nuk nuM nutx nun nua nuks eg es
 obtain ⟨i0, hi0, hz0, hz1, hz2⟩ := info_parts Try.infoRo
 obtain ⟨j0, hj0, hy0, hy1, hy2⟩ := info_parts Try.infoRp
 obtain ⟨s0, hs0⟩ : ∃ s0, s0 = w.heap.size := ⟨_, rfl⟩
 obtain ⟨W0, hW0⟩ : ∃ W0, W0 = w.alloc (.cells #[.int .u8 (k : Nat), .int .i64 tx, .int .i64 n, .int .i64 a, .string nm, .int .u8 (M0 : Nat), .slice la bl.length lc, .slice ka ks.length kc, .string t, .slice ga bg.length gc, .slice sa bs.length sc] 25) := ⟨_, rfl⟩
 obtain ⟨V0, hV0⟩ : ∃ V0, V0 = W0.alloc (.cells #[.int .u8 0, .int .i64 0, .int .i64 0, .int .i64 0, .slice none 0 0, .slice none 0 0, .int .i64 0, .int .i64 0, .slice none 0 0, .int .i64 0, .string ⟨#[]⟩, .int .i64 0, .int .i64 0] 35) := ⟨_, rfl⟩
 obtain ⟨W1, hW1⟩ : ∃ W1, W1 = V0.alloc (.cells #[.int .u8 kk, .int .i64 0, .int .i64 0, .int .i64 0, .slice none 0 0, .slice none 0 0, .int .i64 0, .int .i64 0, .slice none 0 0, .int .i64 0, .string ⟨#[]⟩, .int .i64 0, .int .i64 0] 35) := ⟨_, rfl⟩
 have z0 : W0.heap.size = s0 + 1 := by rw [hW0, hs0]; simp
 have z1 : V0.heap.size = s0 + 2 := by rw [hV0]; simp [z0]
 have z2 : W1.heap.size = s0 + 3 := by rw [hW1]; simp [z1]
 have kA : Kept w W0 [] := by rw [hW0]; exact (Kept.refl w []).alloc _
 have kB : Kept W0 V0 [] := by rw [hV0]; exact (Kept.refl W0 []).alloc _
 have kC : Kept V0 W1 [] := by rw [hW1]; exact (Kept.refl V0 []).alloc _
 have k1 : Kept w W1 [] := (kA.trans kB (by simp)).trans kC (by simp)
 have b0 : W1.heap[s0]? = some (.cells #[.int .u8 (k : Nat), .int .i64 tx, .int .i64 n, .int .i64 a, .string nm, .int .u8 (M0 : Nat), .slice la bl.length lc, .slice ka ks.length kc, .string t, .slice ga bg.length gc, .slice sa bs.length sc] 25 (0, 0)) := (kB.trans kC (by simp)).heap (by simp) (by rw [hW0, hs0]; exact heap_alloc_new w _)
 have b1 : W1.heap[s0 + 1]? = some (.cells #[.int .u8 0, .int .i64 0, .int .i64 0, .int .i64 0, .slice none 0 0, .slice none 0 0, .int .i64 0, .int .i64 0, .slice none 0 0, .int .i64 0, .string ⟨#[]⟩, .int .i64 0, .int .i64 0] 35 (0, 0)) := kC.heap (by simp) (by rw [hV0, <- z0]; exact heap_alloc_new W0 _)
 have b2 : W1.heap[s0 + 2]? = some (.cells #[.int .u8 kk, .int .i64 0, .int .i64 0, .int .i64 0, .slice none 0 0, .slice none 0 0, .int .i64 0, .int .i64 0, .slice none 0 0, .int .i64 0, .string ⟨#[]⟩, .int .i64 0, .int .i64 0] 35 (0, 0)) := by rw [hW1, <- z1]; exact heap_alloc_new V0 _
 have DLX : RowKit.Hid (∀ V, Kept W1 V [s0 + 2] -> Rd V (.slice la bl.length lc) bl) := iH (fun V hV => (dl.kept k1 (by simp)).kept2b hV (fun hne b hb => by have := dl.blk_lt hne b hb; simp; omega))
 have DL := iH (dl.kept k1 (by simp)); have DK := iH (dk.kept k1 (by simp)); have DG := iH (dg.kept k1 (by simp)); have DS := iH (ds.kept k1 (by simp))
 have HZ1 := iH z2; have B0 := iH b0; have B1 := iH b1; have B2 := iH b2; have K1 := iH k1; have HS0 := iH hs0
 subst hV0 hW0
 clear z0 z1 z2 kA kB kC k1 b0 b1 b2 hs0 dl dk dg ds
 rw [Rw.cs_eq]
 go_enter Try.func11, Try.ntmps11
 go_upto_region 2 with fail
 rw [<- hW1, <- HS0.out]
 clear hW1 hmt hmt2 hw1 hw2
 go_wp2
 go_loopw [4, 5] (fun s4 s5 wr => ∃ (i : Nat) (ua : Option Addr) (uc : Nat), s4 = .slice ua i uc /\ s5 = .int .i64 i /\ i <= ks.length /\ OwnK encO wr (s0 + 3) 63 (.slice ua i uc) (OL i) /\ Kept W1 wr []) (fun _ s5 _ => ks.length - (intOf s5).toNat)
 case atStart => exact ⟨0, none, 0, rfl, rfl, Nat.zero_le _, by rw [OL0.out]; exact OwnK.nil _ _ _, Kept.refl _ _⟩
 case round =>
  obtain ⟨i, ua, uc, rfl, rfl, hi, how, hkw⟩ := hrel
  have OW := iH how; have KW := iH hkw
  have SZ : RowKit.Hid (s0 + 3 <= wr.heap.size) := iH (by have := HZ1.out; have := hkw.size; omega)
  have hh := hkw.heap (by simp) B0.out
  have c7 := cell_of_row wr s0 7 _ _ _ hh
  simp only [List.getElem?_toArray, List.getElem?_cons_zero, List.getElem?_cons_succ] at c7
  clear hh
  clear how hkw
  by_cases hlt : i < ks.length
  ·obtain ⟨_, _, e, _, _, _, hla⟩ := id DK.out
   simp only [Value.slice.injEq, true_and] at e
   obtain ⟨rfl, rfl⟩ := e
   obtain ⟨kb, ko, rfl, hcell⟩ := hla (by rintro rfl; simp at hlt)
   have CK : RowKit.Hid (∀ V, Kept W1 V [] -> V.cell? ⟨kb, ko + i, none⟩ = some (.int .i64 (ks.getD i 0))) := iH (fun V hV => hV.cell (by simp) (hcell i hlt))
   clear hla hcell
   have hxb := NKS.out (ks.getD i 0) (getD_mem hlt)
   have OSi := OS.out i
   obtain ⟨x, hx⟩ : ∃ x, x = ks.getD i 0 := ⟨_, rfl⟩
   rw [<- hx] at CK OSi hxb
   obtain ⟨tb, htb⟩ : ∃ tb, tb = x % 256 := ⟨_, rfl⟩
   rw [<- htb] at OSi
   obtain ⟨G, hG⟩ : ∃ G, G = goneAt gs i := ⟨_, rfl⟩
   rw [<- hG] at OSi
   have e1 : IntKind.u8.wrap x = tb := by rw [htb]; simp [IntKind.wrap, IntKind.bits, IntKind.signed]
   have e1 : IntKind.u8.wrap x = tb := by rw [htb]; simp [IntKind.wrap, IntKind.bits, IntKind.signed]
   have e2 : IntKind.i64.wrap tb = tb := by rw [htb]; simp [IntKind.wrap, IntKind.bits, IntKind.signed]; omega
   have e3 : wrap64 tb = tb := by rw [htb]; unfold wrap64; omega
   have OSI := iH OSi; have HG := iH hG; have HLT := iH hlt
   clear OSi hG htb hx hxb
   have x1 : (i : Int) < (ks.length : Int) := by omega
   obtain ⟨z, hz⟩ : ∃ z, z = wr.heap.size := ⟨_, rfl⟩
   have HZ := iH hz
   have HZS : RowKit.Hid (s0 + 3 <= z) := iH (by have := SZ.out; omega)
   clear hz
   go_upto_region 6 with fail
   clear c7
   go_cut [6] (fun s6 wx => s6 = .pointer (some ⟨z, 0, none⟩) /\ Kept wr wx [] /\ wx.heap[z]? = some (.cells #[.int .i64 tb, .bool false, .int .i64 x, .string (cutS t)] 63 (0, 0)))
   case first =>
    refine wp_region_held_drew (S := fun Z => Kept W1 Z []) (by kernel_rfl) KW.out.drew (fun hJ => ?_)
    obtain ⟨WD, hWD⟩ : ∃ WD, WD = wr.drew := ⟨_, rfl⟩
    have KD : RowKit.Hid (Kept wr WD []) := iH (by rw [hWD]; exact (Kept.refl wr []).drew)
    have KWD : RowKit.Hid (Kept W1 WD []) := iH (KW.out.trans KD.out (by simp))
    have HZD : RowKit.Hid (z = WD.heap.size) := iH (by rw [hWD]; exact HZ.out)
    revert hJ
    rw [<- hWD]
    intro hJ
    clear hWD
    refine wx 0 21 (.pointer (some ⟨s0, 7, none⟩)) rfl hJ ?_
    refine wx 1 22 (.slice (some ⟨kb, ko, none⟩) ks.length kc) rfl hJ ?_ (hy := fun V hV => by (have hh := hV.heap (by simp) B0.out; have q7 := cell_of_row V s0 7 _ _ _ hh; have q8 := cell_of_row V s0 8 _ _ _ hh; have qx := CK.out V hV; clear hV hh; simp only [List.getElem?_toArray, List.getElem?_cons_zero, List.getElem?_cons_succ] at q7 q8; go_simp))
    refine wx 2 23 (.int .i64 i) rfl hJ ?_
    refine wx 3 24 (.pointer (some ⟨kb, ko + i, none⟩)) rfl hJ ?_
    refine wx 4 25 (.int .i64 x) rfl hJ ?_ (hy := fun V hV => by (have hh := hV.heap (by simp) B0.out; have q7 := cell_of_row V s0 7 _ _ _ hh; have q8 := cell_of_row V s0 8 _ _ _ hh; have qx := CK.out V hV; clear hV hh; simp only [List.getElem?_toArray, List.getElem?_cons_zero, List.getElem?_cons_succ] at q7 q8; go_simp))
    refine wx 5 26 (.int .u8 tb) rfl hJ ?_
    refine wx 6 27 (.int .i64 tb) rfl hJ ?_
    refine wx 7 28 (.pointer (some ⟨s0, 7, none⟩)) rfl hJ ?_
    refine wx 8 29 (.slice (some ⟨kb, ko, none⟩) ks.length kc) rfl hJ ?_ (hy := fun V hV => by (have hh := hV.heap (by simp) B0.out; have q7 := cell_of_row V s0 7 _ _ _ hh; have q8 := cell_of_row V s0 8 _ _ _ hh; have qx := CK.out V hV; clear hV hh; simp only [List.getElem?_toArray, List.getElem?_cons_zero, List.getElem?_cons_succ] at q7 q8; go_simp))
    refine wx 9 30 (.int .i64 i) rfl hJ ?_
    refine wx 10 31 (.pointer (some ⟨kb, ko + i, none⟩)) rfl hJ ?_
    refine wx 11 32 (.int .i64 x) rfl hJ ?_ (hy := fun V hV => by (have hh := hV.heap (by simp) B0.out; have q7 := cell_of_row V s0 7 _ _ _ hh; have q8 := cell_of_row V s0 8 _ _ _ hh; have qx := CK.out V hV; clear hV hh; simp only [List.getElem?_toArray, List.getElem?_cons_zero, List.getElem?_cons_succ] at q7 q8; go_simp))
    refine wx 12 33 (.pointer (some ⟨s0, 8, none⟩)) rfl hJ ?_
    refine wx 13 34 (.string t) rfl hJ ?_ (hy := fun V hV => by (have hh := hV.heap (by simp) B0.out; have q7 := cell_of_row V s0 7 _ _ _ hh; have q8 := cell_of_row V s0 8 _ _ _ hh; have qx := CK.out V hV; clear hV hh; simp only [List.getElem?_toArray, List.getElem?_cons_zero, List.getElem?_cons_succ] at q7 q8; go_simp))
    refine wpAnyH_ready (rs := [14, 18]) (by kernel_rfl) (by simp) ?_
    refine AllReadyH.cons (o := _) rfl (fun KZ hK => ?_) (AllReadyH.cons (o := _) rfl (fun KZ hK => ?_) AllReadyH.nil)
    ·go_simp
     go_at_call 23
     refine (cut_any t _).mono ?_
     rintro ex wy ⟨rfl, rfl⟩
     go_wp2_with fail
     refine hK.out _ _ KWD.out (fun hJ => ?_)
     clear hK KZ
     refine wx 15 36 (.agg #[.int .i64 x, .string (cutS t)]) rfl hJ ?_
     refine wx 16 37 (.agg #[.bool false, .int .i64 x, .string (cutS t)]) rfl hJ ?_
     refine wx 17 38 (.agg #[.int .i64 tb, .bool false, .int .i64 x, .string (cutS t)]) rfl hJ ?_
     refine wr1 18 rfl (fun K hK => ?_)
     go_simp
     rw [<- HZD.out]
     obtain ⟨WA, hWA⟩ : ∃ WA, WA = WD.alloc (.cells #[.int .i64 0, .bool false, .int .i64 0, .string ⟨#[]⟩] 63) := ⟨_, rfl⟩
     rw [<- hWA]
     have KA : RowKit.Hid (Kept wr WA []) := iH (by rw [hWA]; exact KD.out.alloc _)
     have BA : RowKit.Hid (WA.heap[z]? = some (.cells #[.int .i64 0, .bool false, .int .i64 0, .string ⟨#[]⟩] 63 (0, 0))) := iH (by rw [hWA, HZD.out]; exact heap_alloc_new WD _)
     clear hWA
     refine hK.out _ _ (KW.out.trans KA.out (by simp)) (fun hJ => ?_)
     clear hK K
     have d0 := cell_of_row WA z 0 _ _ _ BA.out; have f0 := frozen_of_row WA z 0 _ _ BA.out
     have d1 := cell_of_row WA z 1 _ _ _ BA.out; have f1 := frozen_of_row WA z 1 _ _ BA.out
     have d2 := cell_of_row WA z 2 _ _ _ BA.out; have f2 := frozen_of_row WA z 2 _ _ BA.out
     have d3 := cell_of_row WA z 3 _ _ _ BA.out; have f3 := frozen_of_row WA z 3 _ _ BA.out
     simp only [List.getElem?_toArray, List.getElem?_cons_zero, List.getElem?_cons_succ] at d0 d1 d2 d3
     refine wr1 19 rfl (fun K hK => ?_)
     go_simp
     obtain ⟨WF, hWF⟩ : ∃ WF, WF = (((WA.setCell ⟨z, 0, none⟩ (.int .i64 tb)).setCell ⟨z, 1, none⟩ (.bool false)).setCell ⟨z, 2, none⟩ (.int .i64 x)).setCell ⟨z, 3, none⟩ (.string (cutS t)) := ⟨_, rfl⟩
     rw [<- hWF]
     have KF : RowKit.Hid (Kept wr WF []) := iH (by rw [hWF]; exact (((KA.out.setCell (.inr (by simp [HZ.out])) _).setCell (.inr (by simp [HZ.out])) _).setCell (.inr (by simp [HZ.out])) _).setCell (.inr (by simp [HZ.out])) _)
     have BF : RowKit.Hid (WF.heap[z]? = some (.cells #[.int .i64 tb, .bool false, .int .i64 x, .string (cutS t)] 63 (0, 0))) := iH (by rw [hWF]; have := xqa (xqa (xqa (xqa BA.out 0 (.int .i64 tb)) 1 (.bool false)) 2 (.int .i64 x)) 3 (.string (cutS t)); simpa using this)
     clear hWF d0 d1 d2 d3 f0 f1 f2 f3
     refine hK.out _ _ (KW.out.trans KF.out (by simp)) (fun hJ => ?_)
     clear hK K
     refine wd ?_
     clear hJ
     go_wp2_with fail
     go_meet
     exact ⟨rfl, KF.out, BF.out⟩
    go_simp
    rw [<- HZD.out]
    obtain ⟨WA, hWA⟩ : ∃ WA, WA = WD.alloc (.cells #[.int .i64 0, .bool false, .int .i64 0, .string ⟨#[]⟩] 63) := ⟨_, rfl⟩
    rw [<- hWA]
    have KA : RowKit.Hid (Kept wr WA []) := iH (by rw [hWA]; exact KD.out.alloc _)
    have BA : RowKit.Hid (WA.heap[z]? = some (.cells #[.int .i64 0, .bool false, .int .i64 0, .string ⟨#[]⟩] 63 (0, 0))) := iH (by rw [hWA, HZD.out]; exact heap_alloc_new WD _)
    clear hWA
    refine hK.out _ _ (KW.out.trans KA.out (by simp)) (fun hJ => ?_)
    clear hK KZ
    refine wr1 14 rfl (fun KZ hK => ?_)
    go_simp
    go_at_call 23
    refine (cut_any t _).mono ?_
    rintro ex wy ⟨rfl, rfl⟩
    go_wp2_with fail
    refine hK.out _ _ (KW.out.trans KA.out (by simp)) (fun hJ => ?_)
    clear hK KZ
    refine wx 15 36 (.agg #[.int .i64 x, .string (cutS t)]) rfl hJ ?_
    refine wx 16 37 (.agg #[.bool false, .int .i64 x, .string (cutS t)]) rfl hJ ?_
    refine wx 17 38 (.agg #[.int .i64 tb, .bool false, .int .i64 x, .string (cutS t)]) rfl hJ ?_
    have d0 := cell_of_row WA z 0 _ _ _ BA.out; have f0 := frozen_of_row WA z 0 _ _ BA.out
    have d1 := cell_of_row WA z 1 _ _ _ BA.out; have f1 := frozen_of_row WA z 1 _ _ BA.out
    have d2 := cell_of_row WA z 2 _ _ _ BA.out; have f2 := frozen_of_row WA z 2 _ _ BA.out
    have d3 := cell_of_row WA z 3 _ _ _ BA.out; have f3 := frozen_of_row WA z 3 _ _ BA.out
    simp only [List.getElem?_toArray, List.getElem?_cons_zero, List.getElem?_cons_succ] at d0 d1 d2 d3
    refine wr1 19 rfl (fun K hK => ?_)
    go_simp
    obtain ⟨WF, hWF⟩ : ∃ WF, WF = (((WA.setCell ⟨z, 0, none⟩ (.int .i64 tb)).setCell ⟨z, 1, none⟩ (.bool false)).setCell ⟨z, 2, none⟩ (.int .i64 x)).setCell ⟨z, 3, none⟩ (.string (cutS t)) := ⟨_, rfl⟩
    rw [<- hWF]
    have KF : RowKit.Hid (Kept wr WF []) := iH (by rw [hWF]; exact (((KA.out.setCell (.inr (by simp [HZ.out])) _).setCell (.inr (by simp [HZ.out])) _).setCell (.inr (by simp [HZ.out])) _).setCell (.inr (by simp [HZ.out])) _)
    have BF : RowKit.Hid (WF.heap[z]? = some (.cells #[.int .i64 tb, .bool false, .int .i64 x, .string (cutS t)] 63 (0, 0))) := iH (by rw [hWF]; have := xqa (xqa (xqa (xqa BA.out 0 (.int .i64 tb)) 1 (.bool false)) 2 (.int .i64 x)) 3 (.string (cutS t)); simpa using this)
    clear hWF d0 d1 d2 d3 f0 f1 f2 f3
    refine hK.out _ _ (KW.out.trans KF.out (by simp)) (fun hJ => ?_)
    clear hK K
    refine wd ?_
    clear hJ
    go_wp2_with fail
    go_meet
    exact ⟨rfl, KF.out, BF.out⟩
   case rest =>
   obtain ⟨rfl, k2, b2⟩ := hcut
   have K2 := iH k2; have BZ := iH b2
   obtain ⟨W2, hW2⟩ : ∃ W2, W2 = wc := ⟨_, rfl⟩
   subst hW2
   have KW2 := iH (KW.out.trans k2 (by simp))
   clear k2 b2 e1 e2 e3
   go_upto_region 7 with fail
   go_cut [] (fun wx => RowKit.Hid (Kept wr wx []) /\ wx.heap[z]? = some (.cells #[.int .i64 tb, .bool G, .int .i64 x, .string (cutS t)] 63 (0, 0)))
   case first =>
    have hh := KW2.out.heap (by simp) B0.out
    have c9 := cell_of_row W2 s0 9 _ _ _ hh
    simp only [List.getElem?_toArray, List.getElem?_cons_zero, List.getElem?_cons_succ] at c9
    clear hh
    have d1 := cell_of_row W2 z 1 _ _ _ BZ.out; have f1 := frozen_of_row W2 z 1 _ _ BZ.out
    simp at d1
    have HB : ∀ b : Bool, (W2.setCell ⟨z, 1, none⟩ (.bool b)).heap[z]? = some (.cells #[.int .i64 tb, .bool b, .int .i64 x, .string (cutS t)] 63 (0, 0)) := fun b => by have := xqa BZ.out 1 (.bool b); simpa using this
    have HB := iH HB
    have HK : ∀ b : Bool, RowKit.Hid (Kept wr (W2.setCell ⟨z, 1, none⟩ (.bool b)) []) := fun b => iH (K2.out.setCell (.inr (by simp [HZ.out])) _)
    have HK := iH HK
    by_cases hg : i < bg.length
    ·obtain ⟨_, _, e, _, _, hla⟩ := id DG.out
     simp only [Value.slice.injEq, true_and] at e
     obtain ⟨rfl, rfl⟩ := e
     obtain ⟨gb, go1, rfl, hcell⟩ := hla (by rintro rfl; simp at hg)
     have cg : W2.cell? ⟨gb, go1 + i, none⟩ = some (.int .u8 ((bg.getD i 0).toNat : Nat)) := KW2.out.cell (by simp) (hcell i hg)
     have hG2 : G = decide ((bg.getD i 0).toNat % 2 = 0) := by rw [HG.out, goneAt, EG.out]; simp [List.getD, hg]
     obtain ⟨y, hy⟩ : ∃ y, y = (bg.getD i 0).toNat := ⟨_, rfl⟩
     rw [<- hy] at cg hG2
     clear hla hcell hy
     have x2 : decide ((i : Int) < (bg.length : Int)) = true := by simp; omega
     have x3 : (i : Int) < (bg.length : Int) := by omega
     by_cases hp : y % 2 = 0
     ·have e4 : ((y : Nat) : Int).tmod 2 = 0 := by rw [Int.tmod_eq_emod_of_nonneg (by omega)]; omega
      have e5 : ((y : Nat) : Int) % 2 = 0 := by omega
      have e6 : y % 2 = 0 := hp
      rw [hp] at hG2
      simp at hG2
      subst hG2
      clear hp hg
      go_wp2_with fail
      go_meet
      exact ⟨HK.out _, HB.out _⟩
     have hp1 : y % 2 = 1 := by omega
     have e4 : ((y : Nat) : Int).tmod 2 = 1 := by rw [Int.tmod_eq_emod_of_nonneg (by omega)]; omega
     have e5 : ((y : Nat) : Int) % 2 = 1 := by omega
     rw [hp1] at hG2
     simp at hG2
     subst hG2
     clear hp hg
     go_wp2_with fail
     go_meet
     exact ⟨HK.out _, HB.out _⟩
    have hG2 : G = false := by rw [HG.out, goneAt, EG.out]; simp [hg]
    have x2 : decide ((i : Int) < (bg.length : Int)) = false := by simp; omega
    have x3 : ¬ (i : Int) < (bg.length : Int) := by omega
    subst hG2
    clear hg
    go_wp2_with fail
    go_meet
    exact ⟨HK.out _, HB.out _⟩
   case rest =>
   obtain ⟨K3, b3⟩ := hcut
   have BF := iH b3
   obtain ⟨WF, hWF⟩ : ∃ WF, WF = wc := ⟨_, rfl⟩
   subst hWF
   have KWF := iH (KW.out.trans K3.out (by simp))
   clear b3
   have OA := iH (OW.out.keep K3.out)
   have SRC := xqI (E := encO) (P := Try.prog) (t := 63) WF (⟨tb, G, x, cutS t⟩ : Ox) (tx := 28) Try.underlying28
   simp only [encO, Ox.cs] at SRC
   have SRC := iH SRC
   have OO := iH (OA.out.keep ((Kept.refl WF []).alloc (.cells #[.int .i64 tb, .bool G, .int .i64 x, .string (cutS t)] 63)))
   have HS : RowKit.Hid (s0 + 3 <= (WF.alloc (.cells #[.int .i64 tb, .bool G, .int .i64 x, .string (cutS t)] 63)).heap.size) := iH (by have := SZ.out; have := K3.out.size; simp; omega)
   have c0 := cell_of_row WF z 0 _ _ _ BF.out
   have c1 := cell_of_row WF z 1 _ _ _ BF.out
   have c2 := cell_of_row WF z 2 _ _ _ BF.out
   have c3 := cell_of_row WF z 3 _ _ _ BF.out
   simp only [List.getElem?_toArray, List.getElem?_cons_zero, List.getElem?_cons_succ] at c0 c1 c2 c3
   have lt0 := OLn.out i
   go_wp2_with (at_builtin; refine xqp _ rfl (.tmp 55) (.tmp 57) 28 28 rfl (s0 + 3) 63 i0 _ 4 40 Try.underlying28 hi0 hz0 hz1 hz2 rfl (.slice ua i uc) (OL i).length (kcs encO (OL i)) rfl OO.out (.slice (some ⟨WF.heap.size, 0, none⟩) 1 1) 1 _ rfl SRC.out (by have := HNK.out; have := HLT.out; rw [OLn.out]; unfold maxLen; omega) (by have := HNK.out; have := HLT.out; rw [OLn.out]; omega) HS.out ?nexta)
   case nexta =>
   intro v9 w9 hown _ hgrow _
   have o9 : OwnK encO w9 (s0 + 3) 63 v9 (OL (i + 1)) := by
    rw [OSI.out]
    unfold OwnK
    rw [xqv, xqu, List.length_append]
    first | exact hown | (rw [OLn.out]; exact hown)
   have kb : Kept W1 w9 [] := (KWF.out.alloc _).grown hgrow (fun b hb => .inr (by have := (OO.out.lt b hb).1; have := HZ1.out; omega))
   obtain ⟨u9, c9, e9⟩ := o9.shape
   rw [OLn.out] at e9
   subst e9
   have O9 := iH o9; have KE := iH kb
   clear hown hgrow o9 kb c0 c1 c2 c3
   have hb9 := HNK.out; have hlt9 := HLT.out
   go_wp2
   go_roundw
   case rel => exact ⟨i + 1, u9, c9, rfl, by go_num, by omega, O9.out, KE.out⟩
   case measure => simp [intOf]; omega
  have hie : i = ks.length := by omega
  subst hie
  obtain ⟨oa, h1⟩ : ∃ x, x = ua := ⟨_, rfl⟩
  subst h1
  obtain ⟨oc, h1⟩ : ∃ x, x = uc := ⟨_, rfl⟩
  subst h1
  obtain ⟨wo, hwo⟩ : ∃ wo, wo = wr := ⟨_, rfl⟩
  subst hwo
  have OT0 := OW; have KW0 := KW
  have x1 : ¬ ((ks.length : Int) < (ks.length : Int)) := by omega
  clear OW KW SZ hi hlt
  go_wp2
  clear c7
  go_loopw [7, 8] (fun s7 s8 wr => ∃ (i : Nat) (ua : Option Addr) (uc : Nat), s7 = .slice ua i uc /\ s8 = .int .i64 i /\ i <= bs.length /\ OwnK encP wr (s0 + 3) 76 (.slice ua i uc) (EL i) /\ OwnK encO wr (s0 + 3) 63 (.slice oa ks.length oc) (OL ks.length) /\ Kept W1 wr []) (fun _ s8 _ => bs.length - (intOf s8).toNat)
  case atStart => exact ⟨0, none, 0, rfl, rfl, Nat.zero_le _, by rw [EL0.out]; exact OwnK.nil _ _ _, OT0.out, KW0.out⟩
  case round =>
  obtain ⟨i, ua, uc, rfl, rfl, hi, how, hot, hkw⟩ := hrel
  have OW := iH how; have OT := iH hot; have KW := iH hkw
  have SZ : RowKit.Hid (s0 + 3 <= wr.heap.size) := iH (by have := HZ1.out; have := hkw.size; omega)
  have hh := hkw.heap (by simp) B0.out
  have c10 := cell_of_row wr s0 10 _ _ _ hh
  simp only [List.getElem?_toArray, List.getElem?_cons_zero, List.getElem?_cons_succ] at c10
  clear hh
  clear how hot hkw OT0 KW0 x1
  by_cases hlt : i < bs.length
  ·obtain ⟨_, _, e, _, _, hla⟩ := id DS.out
   simp only [Value.slice.injEq, true_and] at e
   obtain ⟨rfl, rfl⟩ := e
   obtain ⟨sb, so, rfl, hcell⟩ := hla (by rintro rfl; simp at hlt)
   have CK : RowKit.Hid (∀ V, Kept W1 V [] -> V.cell? ⟨sb, so + i, none⟩ = some (.int .u8 ((bs.getD i 0).toNat : Nat))) := iH (fun V hV => hV.cell (by simp) (hcell i hlt))
   clear hla hcell
   have ESi := ES.out i
   have hyb := (bs.getD i 0).toNat_lt
   have hsy : ss.getD i 0 = (bs.getD i 0).toNat := by rw [ESS.out]; simp [List.getD, hlt]
   rw [hsy] at ESi
   obtain ⟨y, hy⟩ : ∃ y, y = (bs.getD i 0).toNat := ⟨_, rfl⟩
   rw [<- hy] at CK ESi hyb
   clear hsy hy
   have HOF := iH (fun V => of_any ((i : Int) + 1) tx nm i ((y : Nat) : Int) ((k : Nat) : Int) a t V ⟨by omega, by have := NUK.out; omega⟩ ⟨by omega, by omega⟩)
   obtain ⟨⟨b1, b2, b3, b4, b5, b6, b7, b8⟩, hE⟩ : ∃ E, E = ofE ((i : Int) + 1) tx nm i ((y : Nat) : Int) ((k : Nat) : Int) a t := ⟨_, rfl⟩
   rw [<- hE] at HOF ESi
   simp only [Ev.cs] at HOF
   have e1 : IntKind.i64.wrap ((y : Nat) : Int) = y := by simp [IntKind.wrap, IntKind.bits, IntKind.signed]; omega
   have e2 : wrap64 ((y : Nat) : Int) = y := by unfold wrap64; omega
   have hbs := HNS.out
   have e3 : IntKind.i64.wrap ((i : Int) + 1) = (i : Int) + 1 := by simp [IntKind.wrap, IntKind.bits, IntKind.signed]; omega
   have ESI := iH ESi; have HLT := iH hlt
   clear ESi hE hyb hbs
   have x1 : (i : Int) < (bs.length : Int) := by have := HLT.out; omega
   have SRC0 : RowKit.Hid (∀ V : World, Src Try.prog 9 29 (.slice (some ⟨V.heap.size, 0, none⟩) 1 1) 1 (encP.cs (⟨y, ⟨b1, b2, b3, b4, b5, b6, b7, b8⟩⟩ : Px)).toList (V.alloc (.cells (encP.cs (⟨y, ⟨b1, b2, b3, b4, b5, b6, b7, b8⟩⟩ : Px)) 76))) := iH (fun V => xqI (E := encP) V _ Try.underlying29)
   go_upto_region 13 with fail
   clear c10
   refine wp_region_held_drew (S := fun Z => Kept W1 Z []) (by kernel_rfl) KW.out.drew (fun hJ => ?_)
   refine wx 0 66 (.slice ua i uc) rfl hJ ?_
   refine wx 1 67 (.pointer (some ⟨s0, 10, none⟩)) rfl hJ ?_
   refine wx 2 68 (.slice (some ⟨sb, so, none⟩) bs.length sc) rfl hJ ?_ (hy := fun V hV => by (have hh := hV.heap (by simp) B0.out; have q0 := cell_of_row V s0 0 _ _ _ hh; have q1 := cell_of_row V s0 1 _ _ _ hh; have q3 := cell_of_row V s0 3 _ _ _ hh; have q4 := cell_of_row V s0 4 _ _ _ hh; have q8 := cell_of_row V s0 8 _ _ _ hh; have q10 := cell_of_row V s0 10 _ _ _ hh; have qx := CK.out V hV; clear hV hh; simp only [List.getElem?_toArray, List.getElem?_cons_zero, List.getElem?_cons_succ] at q0 q1 q3 q4 q8 q10; go_simp))
   refine wx 3 69 (.int .i64 i) rfl hJ ?_
   refine wx 4 70 (.pointer (some ⟨sb, so + i, none⟩)) rfl hJ ?_
   refine wx 5 71 (.int .u8 (y : Nat)) rfl hJ ?_ (hy := fun V hV => by (have hh := hV.heap (by simp) B0.out; have q0 := cell_of_row V s0 0 _ _ _ hh; have q1 := cell_of_row V s0 1 _ _ _ hh; have q3 := cell_of_row V s0 3 _ _ _ hh; have q4 := cell_of_row V s0 4 _ _ _ hh; have q8 := cell_of_row V s0 8 _ _ _ hh; have q10 := cell_of_row V s0 10 _ _ _ hh; have qx := CK.out V hV; clear hV hh; simp only [List.getElem?_toArray, List.getElem?_cons_zero, List.getElem?_cons_succ] at q0 q1 q3 q4 q8 q10; go_simp))
   refine wx 6 72 (.int .i64 (y : Nat)) rfl hJ ?_
   refine wx 7 73 (.int .i64 i) rfl hJ ?_
   refine wx 8 74 (.int .i64 ((i : Int) + 1)) rfl hJ ?_
   refine wx 9 75 (.pointer (some ⟨s0, 1, none⟩)) rfl hJ ?_
   refine wx 10 76 (.int .i64 tx) rfl hJ ?_ (hy := fun V hV => by (have hh := hV.heap (by simp) B0.out; have q0 := cell_of_row V s0 0 _ _ _ hh; have q1 := cell_of_row V s0 1 _ _ _ hh; have q3 := cell_of_row V s0 3 _ _ _ hh; have q4 := cell_of_row V s0 4 _ _ _ hh; have q8 := cell_of_row V s0 8 _ _ _ hh; have q10 := cell_of_row V s0 10 _ _ _ hh; have qx := CK.out V hV; clear hV hh; simp only [List.getElem?_toArray, List.getElem?_cons_zero, List.getElem?_cons_succ] at q0 q1 q3 q4 q8 q10; go_simp))
   refine wx 11 77 (.pointer (some ⟨s0, 4, none⟩)) rfl hJ ?_
   refine wx 12 78 (.string nm) rfl hJ ?_ (hy := fun V hV => by (have hh := hV.heap (by simp) B0.out; have q0 := cell_of_row V s0 0 _ _ _ hh; have q1 := cell_of_row V s0 1 _ _ _ hh; have q3 := cell_of_row V s0 3 _ _ _ hh; have q4 := cell_of_row V s0 4 _ _ _ hh; have q8 := cell_of_row V s0 8 _ _ _ hh; have q10 := cell_of_row V s0 10 _ _ _ hh; have qx := CK.out V hV; clear hV hh; simp only [List.getElem?_toArray, List.getElem?_cons_zero, List.getElem?_cons_succ] at q0 q1 q3 q4 q8 q10; go_simp))
   refine wx 13 79 (.int .i64 i) rfl hJ ?_
   refine wx 14 80 (.pointer (some ⟨s0, 10, none⟩)) rfl hJ ?_
   refine wx 15 81 (.slice (some ⟨sb, so, none⟩) bs.length sc) rfl hJ ?_ (hy := fun V hV => by (have hh := hV.heap (by simp) B0.out; have q0 := cell_of_row V s0 0 _ _ _ hh; have q1 := cell_of_row V s0 1 _ _ _ hh; have q3 := cell_of_row V s0 3 _ _ _ hh; have q4 := cell_of_row V s0 4 _ _ _ hh; have q8 := cell_of_row V s0 8 _ _ _ hh; have q10 := cell_of_row V s0 10 _ _ _ hh; have qx := CK.out V hV; clear hV hh; simp only [List.getElem?_toArray, List.getElem?_cons_zero, List.getElem?_cons_succ] at q0 q1 q3 q4 q8 q10; go_simp))
   refine wx 16 82 (.int .i64 i) rfl hJ ?_
   refine wx 17 83 (.pointer (some ⟨sb, so + i, none⟩)) rfl hJ ?_
   refine wx 18 84 (.int .u8 (y : Nat)) rfl hJ ?_ (hy := fun V hV => by (have hh := hV.heap (by simp) B0.out; have q0 := cell_of_row V s0 0 _ _ _ hh; have q1 := cell_of_row V s0 1 _ _ _ hh; have q3 := cell_of_row V s0 3 _ _ _ hh; have q4 := cell_of_row V s0 4 _ _ _ hh; have q8 := cell_of_row V s0 8 _ _ _ hh; have q10 := cell_of_row V s0 10 _ _ _ hh; have qx := CK.out V hV; clear hV hh; simp only [List.getElem?_toArray, List.getElem?_cons_zero, List.getElem?_cons_succ] at q0 q1 q3 q4 q8 q10; go_simp))
   refine wx 19 85 (.pointer (some ⟨s0, 0, none⟩)) rfl hJ ?_
   refine wx 20 86 (.int .u8 (k : Nat)) rfl hJ ?_ (hy := fun V hV => by (have hh := hV.heap (by simp) B0.out; have q0 := cell_of_row V s0 0 _ _ _ hh; have q1 := cell_of_row V s0 1 _ _ _ hh; have q3 := cell_of_row V s0 3 _ _ _ hh; have q4 := cell_of_row V s0 4 _ _ _ hh; have q8 := cell_of_row V s0 8 _ _ _ hh; have q10 := cell_of_row V s0 10 _ _ _ hh; have qx := CK.out V hV; clear hV hh; simp only [List.getElem?_toArray, List.getElem?_cons_zero, List.getElem?_cons_succ] at q0 q1 q3 q4 q8 q10; go_simp))
   refine wx 21 87 (.pointer (some ⟨s0, 3, none⟩)) rfl hJ ?_
   refine wx 22 88 (.int .i64 a) rfl hJ ?_ (hy := fun V hV => by (have hh := hV.heap (by simp) B0.out; have q0 := cell_of_row V s0 0 _ _ _ hh; have q1 := cell_of_row V s0 1 _ _ _ hh; have q3 := cell_of_row V s0 3 _ _ _ hh; have q4 := cell_of_row V s0 4 _ _ _ hh; have q8 := cell_of_row V s0 8 _ _ _ hh; have q10 := cell_of_row V s0 10 _ _ _ hh; have qx := CK.out V hV; clear hV hh; simp only [List.getElem?_toArray, List.getElem?_cons_zero, List.getElem?_cons_succ] at q0 q1 q3 q4 q8 q10; go_simp))
   refine wx 23 89 (.pointer (some ⟨s0, 8, none⟩)) rfl hJ ?_
   refine wx 24 90 (.string t) rfl hJ ?_ (hy := fun V hV => by (have hh := hV.heap (by simp) B0.out; have q0 := cell_of_row V s0 0 _ _ _ hh; have q1 := cell_of_row V s0 1 _ _ _ hh; have q3 := cell_of_row V s0 3 _ _ _ hh; have q4 := cell_of_row V s0 4 _ _ _ hh; have q8 := cell_of_row V s0 8 _ _ _ hh; have q10 := cell_of_row V s0 10 _ _ _ hh; have qx := CK.out V hV; clear hV hh; simp only [List.getElem?_toArray, List.getElem?_cons_zero, List.getElem?_cons_succ] at q0 q1 q3 q4 q8 q10; go_simp))
   refine wx 25 91 (.agg #[.int .i64 a, .string t]) rfl hJ ?_
   refine wr1 26 rfl (fun KZ hK => ?_)
   go_simp
   go_at_call 24
   refine (HOF.out _).mono ?_
   rintro ex w5 ⟨rfl, k5⟩
   have k6 := (KW.out.drew).trans k5 (by simp)
   go_wp2_with fail
   refine hK.out _ _ k6 (fun hJ => ?_)
   clear hK KZ
   refine wx 27 93 (.agg #[.int .i64 y, .int .i64 b1, .int .i64 b2, .string b3, .int .i64 b4, .int .i64 b5, .int .u8 b6, .int .i64 b7, .string b8]) rfl hJ ?_
   have K5 := iH ((Kept.refl wr []).drew.trans k5 (by simp)); have KW5 := iH k6
   clear k5 k6
   have SRC := iH (SRC0.out w5)
   obtain ⟨WB, hWB⟩ : ∃ WB, WB = w5.alloc (.cells #[.int .i64 y, .int .i64 b1, .int .i64 b2, .string b3, .int .i64 b4, .int .i64 b5, .int .u8 b6, .int .i64 b7, .string b8] 76) := ⟨_, rfl⟩
   have SRCF : RowKit.Hid (Src Try.prog 9 29 (.slice (some ⟨w5.heap.size, 0, none⟩) 1 1) 1 (encP.cs (⟨y, ⟨b1, b2, b3, b4, b5, b6, b7, b8⟩⟩ : Px)).toList WB) := iH (by rw [hWB]; exact SRC.out)
   have KB : RowKit.Hid (Kept wr WB []) := iH (by rw [hWB]; exact K5.out.alloc _)
   have KWB : RowKit.Hid (Kept W1 WB []) := iH (by rw [hWB]; exact KW5.out.alloc _)
   refine wr1 28 rfl (fun K hK => ?_)
   refine xqo _ rfl 29 (.tmp 93) rfl 76 j0 _ 9 Try.underlying29 hj0 hy0 hy1 (by decide) (by decide) (encP.cs (⟨y, ⟨b1, b2, b3, b4, b5, b6, b7, b8⟩⟩ : Px)).toList rfl rfl ?_
   refine hK.out _ _ (by rw [hWB] at KWB; exact KWB.out) (fun hJ => ?_)
   clear hK K
   change wpAnyH _ _ _ _ _ _ _ _ (w5.alloc (.cells #[.int .i64 y, .int .i64 b1, .int .i64 b2, .string b3, .int .i64 b4, .int .i64 b5, .int .u8 b6, .int .i64 b7, .string b8] 76))
   revert hJ
   intro hJ
   have OO := iH (OW.out.keep KB.out); have OTB := iH (OT.out.keep KB.out)
   have LTE := ELn.out i
   rw [<- hWB]
   refine wr1 29 rfl (fun K hK => ?_)
   refine xqn _ rfl (.tmp 66) (.tmp 94) 29 29 rfl (s0 + 3) 76 j0 _ 9 88 Try.underlying29 hj0 hy0 hy1 hy2 rfl (.slice ua i uc) (EL i).length (kcs encP (EL i)) rfl OO.out _ 1 _ rfl SRCF.out (by have := HNS.out; have := HLT.out; rw [ELn.out]; unfold maxLen; omega) (by have := HNS.out; have := HLT.out; rw [ELn.out]; omega) (by have := KB.out.size; have := SZ.out; omega) ?_
   intro v9 w9 hown _ hgrow _
   have o9 : OwnK encP w9 (s0 + 3) 76 v9 (EL (i + 1)) := by
    rw [ESI.out]
    unfold OwnK
    rw [xqv, xqu, List.length_append]
    exact hown
   have kb : Kept W1 w9 [] := KWB.out.grown hgrow (fun b hb => .inr (by have := (OO.out.lt b hb).1; have := HZ1.out; omega))
   have oth := OTB.out.kept ((Kept.refl _ (Value.slice ua i uc).ownBlock.toList).grown hgrow (fun b hb => .inl (by simp [hb]))) (fun b hb hm => by
    have h1 := OTB.out.tag hb; have h2 := OO.out.tag (g := b) (by simpa using hm)
    obtain ⟨c1, h1⟩ := h1; obtain ⟨c2, h2⟩ := h2
    rw [h1] at h2; simp at h2)
   obtain ⟨u9, c9, e9⟩ := o9.shape
   rw [ELn.out] at e9
   subst e9
   have O9 := iH o9; have KE := iH kb; have OT9 := iH oth
   clear hown hgrow o9 kb oth LTE
   refine hK.out _ _ KE.out (fun hJ => ?_)
   clear hK K
   refine wpAnyH_take (i := 30) (oi := _) (v := .slice u9 (i + 1 : Nat) c9) rfl (by kernel_rfl) (by kernel_rfl) (by kernel_rfl) (fun _ _ _ h => h) (Or.inl ⟨by rfl, fun V hV => by go_simp⟩) hJ ?_
   refine wd ?_
   clear hJ
   have hb9 := HNS.out; have hlt9 := HLT.out
   clear e1 e2 e3
   go_wp2
   go_roundw
   case rel => exact ⟨i + 1, u9, c9, rfl, by go_num, by omega, O9.out, OT9.out, KE.out⟩
   case measure => simp [intOf]; omega
  have hie : i = bs.length := by omega
  subst hie
  obtain ⟨ea, h1⟩ : ∃ x, x = ua := ⟨_, rfl⟩
  subst h1
  obtain ⟨ec, h1⟩ : ∃ x, x = uc := ⟨_, rfl⟩
  subst h1
  obtain ⟨wo, hwo⟩ : ∃ wo, wo = wr := ⟨_, rfl⟩
  subst hwo
  have OE := OW; have KW0 := KW
  have x1 : ¬ ((bs.length : Int) < (bs.length : Int)) := by omega
  have BX := iH (KW0.out.heap (by simp) B2.out)
  have KX : RowKit.Hid (Kept W1 wo [s0 + 2]) := iH (KW0.out.mono (by simp))
  have d0 := cell_of_row wo (s0 + 2) 0 _ _ _ BX.out
  simp at d0
  clear OW SZ hi hlt KW
  go_upto_block 4 with fail
  clear c10 d0 x1
  go_cut [] (fun wx => OfCut (⟨k, tx, n, a, nm, M0, l0, ks, t, gs, ss⟩ : Rw) W1 wx s0)
  case first =>
   have hmm := HM2.out
   have hm0 : m = 0 ∨ m = 1 ∨ m = 2 ∨ m = 3 ∨ m = 4 ∨ m = 5 ∨ m = 6 ∨ m = 7 ∨ m = 8 ∨ m = 9 ∨ m = 10 := by omega
   clear hmm
   rcases hm0 with h | h | h | h | h | h | h | h | h | h | h
   ·have e := HKK.out
    rw [h] at e
    obtain rfl : kk = 1 := by omega
    clear e
    rw [h] at HM
    clear h
    as_aux_lemma =>
    go_upto_region 17 with fail
    refine wp_region_held_drew (S := fun Z => Kept W1 Z [s0 + 2]) (by kernel_rfl) (KW0.out.mono (by simp)).drew (fun hJ => ?_)
    obtain ⟨WD, hWD⟩ : ∃ WD, WD = wo.drew := ⟨_, rfl⟩
    have KX2 : RowKit.Hid (Kept wo WD [s0 + 2]) := iH (by rw [hWD]; exact (Kept.refl wo _).drew)
    have BX2 : RowKit.Hid (WD.heap[s0 + 2]? = some (.cells #[.int .u8 1, .int .i64 0, .int .i64 0, .int .i64 0, .slice none 0 0, .slice none 0 0, .int .i64 0, .int .i64 0, .slice none 0 0, .int .i64 0, .string ⟨#[]⟩, .int .i64 0, .int .i64 0] 35 (0, 0))) := iH (by rw [hWD]; exact BX.out)
    revert hJ
    rw [<- hWD]
    intro hJ
    clear hWD KX BX
    have KX := KX2; have BX := BX2
    clear KX2 BX2
    refine wx 0 106 (.pointer (some ⟨s0, 1, none⟩)) rfl hJ ?_
    refine wx 1 107 (.int .i64 tx) rfl hJ ?_ (hy := fun V hV => by (have hh := hV.heap (by simp) B0.out; have q1 := cell_of_row V s0 1 _ _ _ hh; have q2 := cell_of_row V s0 2 _ _ _ hh; have q3 := cell_of_row V s0 3 _ _ _ hh; clear hV hh; simp only [List.getElem?_toArray, List.getElem?_cons_zero, List.getElem?_cons_succ] at q1 q2 q3; go_simp))
    refine wx 3 109 (.pointer (some ⟨s0, 2, none⟩)) rfl hJ ?_
    refine wx 4 110 (.int .i64 n) rfl hJ ?_ (hy := fun V hV => by (have hh := hV.heap (by simp) B0.out; have q1 := cell_of_row V s0 1 _ _ _ hh; have q2 := cell_of_row V s0 2 _ _ _ hh; have q3 := cell_of_row V s0 3 _ _ _ hh; clear hV hh; simp only [List.getElem?_toArray, List.getElem?_cons_zero, List.getElem?_cons_succ] at q1 q2 q3; go_simp))
    refine wx 6 112 (.pointer (some ⟨s0, 3, none⟩)) rfl hJ ?_
    refine wx 7 113 (.int .i64 a) rfl hJ ?_ (hy := fun V hV => by (have hh := hV.heap (by simp) B0.out; have q1 := cell_of_row V s0 1 _ _ _ hh; have q2 := cell_of_row V s0 2 _ _ _ hh; have q3 := cell_of_row V s0 3 _ _ _ hh; clear hV hh; simp only [List.getElem?_toArray, List.getElem?_cons_zero, List.getElem?_cons_succ] at q1 q2 q3; go_simp))
    refine wx 9 115 (.slice oa ks.length oc) rfl hJ ?_
    refine wx 10 116 (.slice ea bs.length ec) rfl hJ ?_
    refine wr1 2 rfl (fun KZ hK => ?_)
    go_simp
    go_at_call 25
    refine (xqy tx _ NTX.out).mono ?_
    rintro ex wy ⟨rfl, rfl⟩
    go_wp2_with fail
    refine hK.out _ _ (KW0.out.mono (by simp) |>.trans KX.out (fun x hx => .inl hx)) (fun hJ => ?_)
    clear hK KZ
    refine wx 11 117 (.pointer (some ⟨s0 + 2, 1, none⟩)) rfl hJ ?_
    refine wr1 5 rfl (fun KZ hK => ?_)
    go_simp
    go_at_call 25
    refine (xqy n _ NN.out).mono ?_
    rintro ex wy ⟨rfl, rfl⟩
    go_wp2_with fail
    refine hK.out _ _ (KW0.out.mono (by simp) |>.trans KX.out (fun x hx => .inl hx)) (fun hJ => ?_)
    clear hK KZ
    refine wr1 8 rfl (fun KZ hK => ?_)
    go_simp
    go_at_call 25
    refine (xqy a _ NA.out).mono ?_
    rintro ex wy ⟨rfl, rfl⟩
    go_wp2_with fail
    refine hK.out _ _ (KW0.out.mono (by simp) |>.trans KX.out (fun x hx => .inl hx)) (fun hJ => ?_)
    clear hK KZ
    have d := cell_of_row WD (s0 + 2) 1 _ _ _ BX.out; have f := frozen_of_row WD (s0 + 2) 1 _ _ BX.out
    simp only [List.getElem?_toArray, List.getElem?_cons_zero, List.getElem?_cons_succ] at d
    refine wr1 12 rfl (fun K hK => ?_)
    go_simp
    obtain ⟨Y0, hY⟩ : ∃ Y, Y = WD.setCell ⟨s0 + 2, 1, none⟩ (.int .i64 (xqd tx)) := ⟨_, rfl⟩
    rw [<- hY]
    have KX2 : RowKit.Hid (Kept wo Y0 [s0 + 2]) := iH (by rw [hY]; exact KX.out.setCell (.inl (by simp)) _)
    have BX2 : RowKit.Hid (Y0.heap[s0 + 2]? = some (.cells #[.int .u8 1, .int .i64 (xqd tx), .int .i64 0, .int .i64 0, .slice none 0 0, .slice none 0 0, .int .i64 0, .int .i64 0, .slice none 0 0, .int .i64 0, .string ⟨#[]⟩, .int .i64 0, .int .i64 0] 35 (0, 0))) := iH (by rw [hY]; have := xqa BX.out 1 (.int .i64 (xqd tx)); simpa using this)
    clear hY d f
    refine hK.out _ _ (KW0.out.mono (by simp) |>.trans KX2.out (fun x hx => .inl hx)) (fun hJ => ?_)
    clear hK K KX BX
    have KX := KX2; have BX := BX2
    clear KX2 BX2
    refine wx 13 118 (.pointer (some ⟨s0 + 2, 2, none⟩)) rfl hJ ?_
    have d := cell_of_row Y0 (s0 + 2) 2 _ _ _ BX.out; have f := frozen_of_row Y0 (s0 + 2) 2 _ _ BX.out
    simp only [List.getElem?_toArray, List.getElem?_cons_zero, List.getElem?_cons_succ] at d
    refine wr1 14 rfl (fun K hK => ?_)
    go_simp
    obtain ⟨Y1, hY⟩ : ∃ Y, Y = Y0.setCell ⟨s0 + 2, 2, none⟩ (.int .i64 (xqd n)) := ⟨_, rfl⟩
    rw [<- hY]
    have KX2 : RowKit.Hid (Kept wo Y1 [s0 + 2]) := iH (by rw [hY]; exact KX.out.setCell (.inl (by simp)) _)
    have BX2 : RowKit.Hid (Y1.heap[s0 + 2]? = some (.cells #[.int .u8 1, .int .i64 (xqd tx), .int .i64 (xqd n), .int .i64 0, .slice none 0 0, .slice none 0 0, .int .i64 0, .int .i64 0, .slice none 0 0, .int .i64 0, .string ⟨#[]⟩, .int .i64 0, .int .i64 0] 35 (0, 0))) := iH (by rw [hY]; have := xqa BX.out 2 (.int .i64 (xqd n)); simpa using this)
    clear hY d f
    refine hK.out _ _ (KW0.out.mono (by simp) |>.trans KX2.out (fun x hx => .inl hx)) (fun hJ => ?_)
    clear hK K KX BX
    have KX := KX2; have BX := BX2
    clear KX2 BX2
    refine wx 15 119 (.pointer (some ⟨s0 + 2, 3, none⟩)) rfl hJ ?_
    have d := cell_of_row Y1 (s0 + 2) 3 _ _ _ BX.out; have f := frozen_of_row Y1 (s0 + 2) 3 _ _ BX.out
    simp only [List.getElem?_toArray, List.getElem?_cons_zero, List.getElem?_cons_succ] at d
    refine wr1 16 rfl (fun K hK => ?_)
    go_simp
    obtain ⟨Y2, hY⟩ : ∃ Y, Y = Y1.setCell ⟨s0 + 2, 3, none⟩ (.int .i64 (xqd a)) := ⟨_, rfl⟩
    rw [<- hY]
    have KX2 : RowKit.Hid (Kept wo Y2 [s0 + 2]) := iH (by rw [hY]; exact KX.out.setCell (.inl (by simp)) _)
    have BX2 : RowKit.Hid (Y2.heap[s0 + 2]? = some (.cells #[.int .u8 1, .int .i64 (xqd tx), .int .i64 (xqd n), .int .i64 (xqd a), .slice none 0 0, .slice none 0 0, .int .i64 0, .int .i64 0, .slice none 0 0, .int .i64 0, .string ⟨#[]⟩, .int .i64 0, .int .i64 0] 35 (0, 0))) := iH (by rw [hY]; have := xqa BX.out 3 (.int .i64 (xqd a)); simpa using this)
    clear hY d f
    refine hK.out _ _ (KW0.out.mono (by simp) |>.trans KX2.out (fun x hx => .inl hx)) (fun hJ => ?_)
    clear hK K KX BX
    have KX := KX2; have BX := BX2
    clear KX2 BX2
    refine wx 17 120 (.pointer (some ⟨s0 + 2, 4, none⟩)) rfl hJ ?_
    have d := cell_of_row Y2 (s0 + 2) 4 _ _ _ BX.out; have f := frozen_of_row Y2 (s0 + 2) 4 _ _ BX.out
    simp only [List.getElem?_toArray, List.getElem?_cons_zero, List.getElem?_cons_succ] at d
    refine wr1 18 rfl (fun K hK => ?_)
    go_simp
    obtain ⟨Y3, hY⟩ : ∃ Y, Y = Y2.setCell ⟨s0 + 2, 4, none⟩ (.slice oa ks.length oc) := ⟨_, rfl⟩
    rw [<- hY]
    have KX2 : RowKit.Hid (Kept wo Y3 [s0 + 2]) := iH (by rw [hY]; exact KX.out.setCell (.inl (by simp)) _)
    have BX2 : RowKit.Hid (Y3.heap[s0 + 2]? = some (.cells #[.int .u8 1, .int .i64 (xqd tx), .int .i64 (xqd n), .int .i64 (xqd a), .slice oa ks.length oc, .slice none 0 0, .int .i64 0, .int .i64 0, .slice none 0 0, .int .i64 0, .string ⟨#[]⟩, .int .i64 0, .int .i64 0] 35 (0, 0))) := iH (by rw [hY]; have := xqa BX.out 4 (.slice oa ks.length oc); simpa using this)
    clear hY d f
    refine hK.out _ _ (KW0.out.mono (by simp) |>.trans KX2.out (fun x hx => .inl hx)) (fun hJ => ?_)
    clear hK K KX BX
    have KX := KX2; have BX := BX2
    clear KX2 BX2
    refine wx 19 121 (.pointer (some ⟨s0 + 2, 5, none⟩)) rfl hJ ?_
    have d := cell_of_row Y3 (s0 + 2) 5 _ _ _ BX.out; have f := frozen_of_row Y3 (s0 + 2) 5 _ _ BX.out
    simp only [List.getElem?_toArray, List.getElem?_cons_zero, List.getElem?_cons_succ] at d
    refine wr1 20 rfl (fun K hK => ?_)
    go_simp
    obtain ⟨Y4, hY⟩ : ∃ Y, Y = Y3.setCell ⟨s0 + 2, 5, none⟩ (.slice ea bs.length ec) := ⟨_, rfl⟩
    rw [<- hY]
    have KX2 : RowKit.Hid (Kept wo Y4 [s0 + 2]) := iH (by rw [hY]; exact KX.out.setCell (.inl (by simp)) _)
    have BX2 : RowKit.Hid (Y4.heap[s0 + 2]? = some (.cells #[.int .u8 1, .int .i64 (xqd tx), .int .i64 (xqd n), .int .i64 (xqd a), .slice oa ks.length oc, .slice ea bs.length ec, .int .i64 0, .int .i64 0, .slice none 0 0, .int .i64 0, .string ⟨#[]⟩, .int .i64 0, .int .i64 0] 35 (0, 0))) := iH (by rw [hY]; have := xqa BX.out 5 (.slice ea bs.length ec); simpa using this)
    clear hY d f
    refine hK.out _ _ (KW0.out.mono (by simp) |>.trans KX2.out (fun x hx => .inl hx)) (fun hJ => ?_)
    clear hK K KX BX
    have KX := KX2; have BX := BX2
    clear KX2 BX2
    refine wd ?_
    clear hJ
    go_wp2_with fail
    go_meet
    have hE : xqL (⟨k, tx, n, a, nm, M0, l0, ks, t, gs, ss⟩ : Rw) (1 + (M0 : Int) % 40) [] = (⟨1, xqd tx, xqd n, xqd a, OL ks.length, EL bs.length, 0, 0, [], 0, ⟨#[]⟩, 0, 0⟩ : En) := by rw [HOL.out]; rw [HEL.out, show bs.length = ss.length from by rw [ESS.out, List.length_map]]; have hq := HM.out; simp only [xqL]; simp [<- hq]
    refine ⟨(1 + (M0 : Int) % 40), [], oa, ks.length, oc, ea, bs.length, ec, none, 0, 0, rfl, rfl, ?_, ?_, ?_, ?_, ?_, ?_, ?_, ?_, KW0.out.mono (by simp) |>.trans KX.out (fun x hx => .inl hx)⟩
    ·rw [hE]; exact BX.out
    ·rw [hE]; exact ⟨(OT.out.kept KX.out (fun b hb => by have := (OT.out.lt b hb).1; simp; omega)).rd, (OE.out.kept KX.out (fun b hb => by have := (OE.out.lt b hb).1; simp; omega)).rd, RdI.nil _⟩
    ·exact (Low.own OT.out (by omega) (by omega)).keep KX.out.size
    ·exact (Low.own OE.out (by omega) (by omega)).keep KX.out.size
    ·exact Low.none _ _ _ _ _
    ·exact NoE.own (OT.out.kept KX.out (fun b hb => by have := (OT.out.lt b hb).1; simp; omega)) (by decide)
    ·exact NoE.own (OE.out.kept KX.out (fun b hb => by have := (OE.out.lt b hb).1; simp; omega)) (by decide)
    ·exact NoE.none _ _ _
   ·have e := HKK.out
    rw [h] at e
    obtain rfl : kk = 2 := by omega
    clear e
    rw [h] at HM
    clear h
    as_aux_lemma =>
    go_upto_region 21 with fail
    refine wp_region_held_drew (S := fun Z => Kept W1 Z [s0 + 2]) (by kernel_rfl) (KW0.out.mono (by simp)).drew (fun hJ => ?_)
    obtain ⟨WD, hWD⟩ : ∃ WD, WD = wo.drew := ⟨_, rfl⟩
    have KX2 : RowKit.Hid (Kept wo WD [s0 + 2]) := iH (by rw [hWD]; exact (Kept.refl wo _).drew)
    have BX2 : RowKit.Hid (WD.heap[s0 + 2]? = some (.cells #[.int .u8 2, .int .i64 0, .int .i64 0, .int .i64 0, .slice none 0 0, .slice none 0 0, .int .i64 0, .int .i64 0, .slice none 0 0, .int .i64 0, .string ⟨#[]⟩, .int .i64 0, .int .i64 0] 35 (0, 0))) := iH (by rw [hWD]; exact BX.out)
    revert hJ
    rw [<- hWD]
    intro hJ
    clear hWD KX BX
    have KX := KX2; have BX := BX2
    clear KX2 BX2
    refine wx 0 143 (.pointer (some ⟨s0, 2, none⟩)) rfl hJ ?_
    refine wx 1 144 (.int .i64 n) rfl hJ ?_ (hy := fun V hV => by (have hh := hV.heap (by simp) B0.out; have q2 := cell_of_row V s0 2 _ _ _ hh; have q3 := cell_of_row V s0 3 _ _ _ hh; have q5 := cell_of_row V s0 5 _ _ _ hh; have q6 := cell_of_row V s0 6 _ _ _ hh; clear hV hh; simp only [List.getElem?_toArray, List.getElem?_cons_zero, List.getElem?_cons_succ] at q2 q3 q5 q6; go_simp))
    refine wx 3 146 (.pointer (some ⟨s0, 5, none⟩)) rfl hJ ?_
    refine wx 4 147 (.int .u8 (M0 : Nat)) rfl hJ ?_ (hy := fun V hV => by (have hh := hV.heap (by simp) B0.out; have q2 := cell_of_row V s0 2 _ _ _ hh; have q3 := cell_of_row V s0 3 _ _ _ hh; have q5 := cell_of_row V s0 5 _ _ _ hh; have q6 := cell_of_row V s0 6 _ _ _ hh; clear hV hh; simp only [List.getElem?_toArray, List.getElem?_cons_zero, List.getElem?_cons_succ] at q2 q3 q5 q6; go_simp))
    refine wx 5 148 (.pointer (some ⟨s0, 6, none⟩)) rfl hJ ?_
    refine wx 6 149 (.slice la bl.length lc) rfl hJ ?_ (hy := fun V hV => by (have hh := hV.heap (by simp) B0.out; have q2 := cell_of_row V s0 2 _ _ _ hh; have q3 := cell_of_row V s0 3 _ _ _ hh; have q5 := cell_of_row V s0 5 _ _ _ hh; have q6 := cell_of_row V s0 6 _ _ _ hh; clear hV hh; simp only [List.getElem?_toArray, List.getElem?_cons_zero, List.getElem?_cons_succ] at q2 q3 q5 q6; go_simp))
    refine wx 8 151 (.pointer (some ⟨s0, 3, none⟩)) rfl hJ ?_
    refine wx 9 152 (.int .i64 a) rfl hJ ?_ (hy := fun V hV => by (have hh := hV.heap (by simp) B0.out; have q2 := cell_of_row V s0 2 _ _ _ hh; have q3 := cell_of_row V s0 3 _ _ _ hh; have q5 := cell_of_row V s0 5 _ _ _ hh; have q6 := cell_of_row V s0 6 _ _ _ hh; clear hV hh; simp only [List.getElem?_toArray, List.getElem?_cons_zero, List.getElem?_cons_succ] at q2 q3 q5 q6; go_simp))
    refine wr1 2 rfl (fun KZ hK => ?_)
    go_simp
    go_at_call 25
    refine (xqy n _ NN.out).mono ?_
    rintro ex wy ⟨rfl, rfl⟩
    go_wp2_with fail
    refine hK.out _ _ (KW0.out.mono (by simp) |>.trans KX.out (fun x hx => .inl hx)) (fun hJ => ?_)
    clear hK KZ
    refine wr1 7 rfl (fun KZ hK => ?_)
    go_simp
    go_at_call 26
    refine (snof_any M0 _ bl _ (DLX.out _ (KW0.out.mono (by simp) |>.trans KX.out (fun x hx => .inl hx))) (by have := HBL.out; omega)).mono ?_
    rintro ex w5 ⟨M, sv, l, rfl, hM, hRB, ⟨ia, ic1, rfl⟩, rT, k5⟩
    have KX2 : RowKit.Hid (Kept wo w5 [s0 + 2]) := iH (KX.out.trans k5 (by simp))
    have BX2 : RowKit.Hid (w5.heap[s0 + 2]? = some (.cells #[.int .u8 2, .int .i64 0, .int .i64 0, .int .i64 0, .slice none 0 0, .slice none 0 0, .int .i64 0, .int .i64 0, .slice none 0 0, .int .i64 0, .string ⟨#[]⟩, .int .i64 0, .int .i64 0] 35 (0, 0))) := iH (k5.heap (by simp) BX.out)
    have B15 : RowKit.Hid (w5.heap[s0 + 1]? = some (.cells #[.int .u8 0, .int .i64 0, .int .i64 0, .int .i64 0, .slice none 0 0, .slice none 0 0, .int .i64 0, .int .i64 0, .slice none 0 0, .int .i64 0, .string ⟨#[]⟩, .int .i64 0, .int .i64 0] 35 (0, 0))) := iH (KX2.out.heap (by simp) (KW0.out.heap (by simp) B1.out))
    clear KX BX k5
    have KX := KX2; have BX := BX2
    clear KX2 BX2
    have RT := iH rT; have HMM := iH hM; have HRB := iH hRB
    clear rT hM hRB
    go_wp2_with fail
    refine hK.out _ _ (KW0.out.mono (by simp) |>.trans KX.out (fun x hx => .inl hx)) (fun hJ => ?_)
    clear hK KZ
    refine wx 10 153 (.agg #[.int .i64 (xqd n), .int .i64 M, .slice ia l.length ic1, .int .i64 a]) rfl hJ ?_
    refine wx 11 154 (.pointer (some ⟨s0 + 2, 6, none⟩)) rfl hJ ?_
    have d6 := cell_of_row w5 (s0 + 2) 6 _ _ _ BX.out; have f6 := frozen_of_row w5 (s0 + 2) 6 _ _ BX.out
    have d7 := cell_of_row w5 (s0 + 2) 7 _ _ _ BX.out; have f7 := frozen_of_row w5 (s0 + 2) 7 _ _ BX.out
    have d8 := cell_of_row w5 (s0 + 2) 8 _ _ _ BX.out; have f8 := frozen_of_row w5 (s0 + 2) 8 _ _ BX.out
    have d9 := cell_of_row w5 (s0 + 2) 9 _ _ _ BX.out; have f9 := frozen_of_row w5 (s0 + 2) 9 _ _ BX.out
    simp only [List.getElem?_toArray, List.getElem?_cons_zero, List.getElem?_cons_succ] at d6 d7 d8 d9
    refine wr1 12 rfl (fun K hK => ?_)
    go_simp
    obtain ⟨Y0, hY⟩ : ∃ Y, Y = ((((w5.setCell ⟨s0 + 2, 6, none⟩ (.int .i64 (xqd n))).setCell ⟨s0 + 2, 7, none⟩ (.int .i64 M)).setCell ⟨s0 + 2, 8, none⟩ (.slice ia l.length ic1)).setCell ⟨s0 + 2, 9, none⟩ (.int .i64 a)) := ⟨_, rfl⟩
    rw [<- hY]
    have KX2 : RowKit.Hid (Kept wo Y0 [s0 + 2]) := iH (by rw [hY]; exact ((((KX.out.setCell (.inl (by simp)) _).setCell (.inl (by simp)) _).setCell (.inl (by simp)) _).setCell (.inl (by simp)) _))
    have KY : RowKit.Hid (Kept w5 Y0 [s0 + 2]) := iH (by rw [hY]; exact (((((Kept.refl w5 _).setCell (.inl (by simp)) _).setCell (.inl (by simp)) _).setCell (.inl (by simp)) _).setCell (.inl (by simp)) _))
    have BX2 : RowKit.Hid (Y0.heap[s0 + 2]? = some (.cells #[.int .u8 2, .int .i64 0, .int .i64 0, .int .i64 0, .slice none 0 0, .slice none 0 0, .int .i64 (xqd n), .int .i64 M, .slice ia l.length ic1, .int .i64 a, .string ⟨#[]⟩, .int .i64 0, .int .i64 0] 35 (0, 0))) := iH (by rw [hY]; have := (xqa (xqa (xqa (xqa BX.out 6 (.int .i64 (xqd n))) 7 (.int .i64 M)) 8 (.slice ia l.length ic1)) 9 (.int .i64 a)); simpa using this)
    have LI : RowKit.Hid (Low w5 (s0 + 1) (s0 + 2) (.slice ia l.length ic1)) := iH (fun b hb => by
     obtain ⟨cs, hc⟩ := RT.out.2 b hb
     refine ⟨(Array.getElem?_eq_some_iff.1 hc).1, ?_, ?_⟩
     ·rintro rfl; rw [B15.out] at hc; simp at hc
     ·rintro rfl; rw [BX.out] at hc; simp at hc)
    clear hY d6 d7 d8 d9 f6 f7 f8 f9
    refine hK.out _ _ (KW0.out.mono (by simp) |>.trans KX2.out (fun x hx => .inl hx)) (fun hJ => ?_)
    clear hK K KX BX
    have KX := KX2; have BX := BX2
    clear KX2 BX2
    refine wd ?_
    clear hJ
    go_wp2_with fail
    go_meet
    have hrb := HRB.out
    simp only [rightB, Bool.and_eq_true, decide_eq_true_eq] at hrb
    have hE : xqL (⟨k, tx, n, a, nm, M0, l0, ks, t, gs, ss⟩ : Rw) M l = (⟨2, 0, 0, 0, [], [], xqd n, M, l, a, ⟨#[]⟩, 0, 0⟩ : En) := by have hq := HM.out; simp only [xqL]; simp [<- hq]
    refine ⟨M, l, none, 0, 0, none, 0, 0, ia, l.length, ic1, HMM.out, hrb.2, ?_, ?_, ?_, ?_, ?_, ?_, ?_, ?_, KW0.out.mono (by simp) |>.trans KX.out (fun x hx => .inl hx)⟩
    ·rw [hE]; exact BX.out
    ·rw [hE]; exact ⟨RdK.nil _, RdK.nil _, RT.out.1.kept KY.out LI.out.ne2⟩
    ·exact Low.none _ _ _ _ _
    ·exact Low.none _ _ _ _ _
    ·exact LI.out.keep KY.out.size
    ·exact NoE.none _ _ _
    ·exact NoE.none _ _ _
    ·exact NoE.keepK (fun b hb => by obtain ⟨cs, hc⟩ := RT.out.2 b hb; exact ⟨cs, _, hc, by decide⟩) KY.out LI.out.ne2
   ·have e := HKK.out
    rw [h] at e
    obtain rfl : kk = 3 := by omega
    clear e
    rw [h] at HM
    clear h
    as_aux_lemma =>
    go_upto_region 26 with fail
    refine wp_region_held_drew (S := fun Z => Kept W1 Z [s0 + 2]) (by kernel_rfl) (KW0.out.mono (by simp)).drew (fun hJ => ?_)
    obtain ⟨WD, hWD⟩ : ∃ WD, WD = wo.drew := ⟨_, rfl⟩
    have KX2 : RowKit.Hid (Kept wo WD [s0 + 2]) := iH (by rw [hWD]; exact (Kept.refl wo _).drew)
    have BX2 : RowKit.Hid (WD.heap[s0 + 2]? = some (.cells #[.int .u8 3, .int .i64 0, .int .i64 0, .int .i64 0, .slice none 0 0, .slice none 0 0, .int .i64 0, .int .i64 0, .slice none 0 0, .int .i64 0, .string ⟨#[]⟩, .int .i64 0, .int .i64 0] 35 (0, 0))) := iH (by rw [hWD]; exact BX.out)
    revert hJ
    rw [<- hWD]
    intro hJ
    clear hWD KX BX
    have KX := KX2; have BX := BX2
    clear KX2 BX2
    refine wx 0 160 (.pointer (some ⟨s0, 4, none⟩)) rfl hJ ?_
    refine wx 1 161 (.string nm) rfl hJ ?_ (hy := fun V hV => by (have hh := hV.heap (by simp) B0.out; have q2 := cell_of_row V s0 2 _ _ _ hh; have q4 := cell_of_row V s0 4 _ _ _ hh; clear hV hh; simp only [List.getElem?_toArray, List.getElem?_cons_zero, List.getElem?_cons_succ] at q2 q4; go_simp))
    refine wx 3 163 (.pointer (some ⟨s0, 2, none⟩)) rfl hJ ?_
    refine wx 4 164 (.int .i64 n) rfl hJ ?_ (hy := fun V hV => by (have hh := hV.heap (by simp) B0.out; have q2 := cell_of_row V s0 2 _ _ _ hh; have q4 := cell_of_row V s0 4 _ _ _ hh; clear hV hh; simp only [List.getElem?_toArray, List.getElem?_cons_zero, List.getElem?_cons_succ] at q2 q4; go_simp))
    refine wr1 2 rfl (fun KZ hK => ?_)
    go_simp
    go_at_call 23
    refine (cut_any nm _).mono ?_
    rintro ex wy ⟨rfl, rfl⟩
    go_wp2_with fail
    refine hK.out _ _ (KW0.out.mono (by simp) |>.trans KX.out (fun x hx => .inl hx)) (fun hJ => ?_)
    clear hK KZ
    refine wx 6 166 (.pointer (some ⟨s0 + 2, 10, none⟩)) rfl hJ ?_
    refine wr1 5 rfl (fun KZ hK => ?_)
    go_simp
    go_at_call 25
    refine (xqy n _ NN.out).mono ?_
    rintro ex wy ⟨rfl, rfl⟩
    go_wp2_with fail
    refine hK.out _ _ (KW0.out.mono (by simp) |>.trans KX.out (fun x hx => .inl hx)) (fun hJ => ?_)
    clear hK KZ
    have d := cell_of_row WD (s0 + 2) 10 _ _ _ BX.out; have f := frozen_of_row WD (s0 + 2) 10 _ _ BX.out
    simp only [List.getElem?_toArray, List.getElem?_cons_zero, List.getElem?_cons_succ] at d
    refine wr1 7 rfl (fun K hK => ?_)
    go_simp
    obtain ⟨Y0, hY⟩ : ∃ Y, Y = WD.setCell ⟨s0 + 2, 10, none⟩ (.string (cutS nm)) := ⟨_, rfl⟩
    rw [<- hY]
    have KX2 : RowKit.Hid (Kept wo Y0 [s0 + 2]) := iH (by rw [hY]; exact KX.out.setCell (.inl (by simp)) _)
    have BX2 : RowKit.Hid (Y0.heap[s0 + 2]? = some (.cells #[.int .u8 3, .int .i64 0, .int .i64 0, .int .i64 0, .slice none 0 0, .slice none 0 0, .int .i64 0, .int .i64 0, .slice none 0 0, .int .i64 0, .string (cutS nm), .int .i64 0, .int .i64 0] 35 (0, 0))) := iH (by rw [hY]; have := xqa BX.out 10 (.string (cutS nm)); simpa using this)
    clear hY d f
    refine hK.out _ _ (KW0.out.mono (by simp) |>.trans KX2.out (fun x hx => .inl hx)) (fun hJ => ?_)
    clear hK K KX BX
    have KX := KX2; have BX := BX2
    clear KX2 BX2
    refine wx 8 167 (.pointer (some ⟨s0 + 2, 11, none⟩)) rfl hJ ?_
    have d := cell_of_row Y0 (s0 + 2) 11 _ _ _ BX.out; have f := frozen_of_row Y0 (s0 + 2) 11 _ _ BX.out
    simp only [List.getElem?_toArray, List.getElem?_cons_zero, List.getElem?_cons_succ] at d
    refine wr1 9 rfl (fun K hK => ?_)
    go_simp
    obtain ⟨Y1, hY⟩ : ∃ Y, Y = Y0.setCell ⟨s0 + 2, 11, none⟩ (.int .i64 (xqd n)) := ⟨_, rfl⟩
    rw [<- hY]
    have KX2 : RowKit.Hid (Kept wo Y1 [s0 + 2]) := iH (by rw [hY]; exact KX.out.setCell (.inl (by simp)) _)
    have BX2 : RowKit.Hid (Y1.heap[s0 + 2]? = some (.cells #[.int .u8 3, .int .i64 0, .int .i64 0, .int .i64 0, .slice none 0 0, .slice none 0 0, .int .i64 0, .int .i64 0, .slice none 0 0, .int .i64 0, .string (cutS nm), .int .i64 (xqd n), .int .i64 0] 35 (0, 0))) := iH (by rw [hY]; have := xqa BX.out 11 (.int .i64 (xqd n)); simpa using this)
    clear hY d f
    refine hK.out _ _ (KW0.out.mono (by simp) |>.trans KX2.out (fun x hx => .inl hx)) (fun hJ => ?_)
    clear hK K KX BX
    have KX := KX2; have BX := BX2
    clear KX2 BX2
    refine wd ?_
    clear hJ
    go_wp2_with fail
    go_meet
    have hE : xqL (⟨k, tx, n, a, nm, M0, l0, ks, t, gs, ss⟩ : Rw) (1 + (M0 : Int) % 40) [] = (⟨3, 0, 0, 0, [], [], 0, 0, [], 0, cutS nm, xqd n, 0⟩ : En) := by have hq := HM.out; simp only [xqL]; simp [<- hq]
    refine ⟨(1 + (M0 : Int) % 40), [], none, 0, 0, none, 0, 0, none, 0, 0, rfl, rfl, ?_, ?_, ?_, ?_, ?_, ?_, ?_, ?_, KW0.out.mono (by simp) |>.trans KX.out (fun x hx => .inl hx)⟩
    ·rw [hE]; exact BX.out
    ·rw [hE]; exact ⟨RdK.nil _, RdK.nil _, RdI.nil _⟩
    ·exact Low.none _ _ _ _ _
    ·exact Low.none _ _ _ _ _
    ·exact Low.none _ _ _ _ _
    ·exact NoE.none _ _ _
    ·exact NoE.none _ _ _
    ·exact NoE.none _ _ _
   ·have e := HKK.out
    rw [h] at e
    obtain rfl : kk = 4 := by omega
    clear e
    rw [h] at HM
    clear h
    as_aux_lemma =>
    go_upto_region 26 with fail
    refine wp_region_held_drew (S := fun Z => Kept W1 Z [s0 + 2]) (by kernel_rfl) (KW0.out.mono (by simp)).drew (fun hJ => ?_)
    obtain ⟨WD, hWD⟩ : ∃ WD, WD = wo.drew := ⟨_, rfl⟩
    have KX2 : RowKit.Hid (Kept wo WD [s0 + 2]) := iH (by rw [hWD]; exact (Kept.refl wo _).drew)
    have BX2 : RowKit.Hid (WD.heap[s0 + 2]? = some (.cells #[.int .u8 4, .int .i64 0, .int .i64 0, .int .i64 0, .slice none 0 0, .slice none 0 0, .int .i64 0, .int .i64 0, .slice none 0 0, .int .i64 0, .string ⟨#[]⟩, .int .i64 0, .int .i64 0] 35 (0, 0))) := iH (by rw [hWD]; exact BX.out)
    revert hJ
    rw [<- hWD]
    intro hJ
    clear hWD KX BX
    have KX := KX2; have BX := BX2
    clear KX2 BX2
    refine wx 0 160 (.pointer (some ⟨s0, 4, none⟩)) rfl hJ ?_
    refine wx 1 161 (.string nm) rfl hJ ?_ (hy := fun V hV => by (have hh := hV.heap (by simp) B0.out; have q2 := cell_of_row V s0 2 _ _ _ hh; have q4 := cell_of_row V s0 4 _ _ _ hh; clear hV hh; simp only [List.getElem?_toArray, List.getElem?_cons_zero, List.getElem?_cons_succ] at q2 q4; go_simp))
    refine wx 3 163 (.pointer (some ⟨s0, 2, none⟩)) rfl hJ ?_
    refine wx 4 164 (.int .i64 n) rfl hJ ?_ (hy := fun V hV => by (have hh := hV.heap (by simp) B0.out; have q2 := cell_of_row V s0 2 _ _ _ hh; have q4 := cell_of_row V s0 4 _ _ _ hh; clear hV hh; simp only [List.getElem?_toArray, List.getElem?_cons_zero, List.getElem?_cons_succ] at q2 q4; go_simp))
    refine wr1 2 rfl (fun KZ hK => ?_)
    go_simp
    go_at_call 23
    refine (cut_any nm _).mono ?_
    rintro ex wy ⟨rfl, rfl⟩
    go_wp2_with fail
    refine hK.out _ _ (KW0.out.mono (by simp) |>.trans KX.out (fun x hx => .inl hx)) (fun hJ => ?_)
    clear hK KZ
    refine wx 6 166 (.pointer (some ⟨s0 + 2, 10, none⟩)) rfl hJ ?_
    refine wr1 5 rfl (fun KZ hK => ?_)
    go_simp
    go_at_call 25
    refine (xqy n _ NN.out).mono ?_
    rintro ex wy ⟨rfl, rfl⟩
    go_wp2_with fail
    refine hK.out _ _ (KW0.out.mono (by simp) |>.trans KX.out (fun x hx => .inl hx)) (fun hJ => ?_)
    clear hK KZ
    have d := cell_of_row WD (s0 + 2) 10 _ _ _ BX.out; have f := frozen_of_row WD (s0 + 2) 10 _ _ BX.out
    simp only [List.getElem?_toArray, List.getElem?_cons_zero, List.getElem?_cons_succ] at d
    refine wr1 7 rfl (fun K hK => ?_)
    go_simp
    obtain ⟨Y0, hY⟩ : ∃ Y, Y = WD.setCell ⟨s0 + 2, 10, none⟩ (.string (cutS nm)) := ⟨_, rfl⟩
    rw [<- hY]
    have KX2 : RowKit.Hid (Kept wo Y0 [s0 + 2]) := iH (by rw [hY]; exact KX.out.setCell (.inl (by simp)) _)
    have BX2 : RowKit.Hid (Y0.heap[s0 + 2]? = some (.cells #[.int .u8 4, .int .i64 0, .int .i64 0, .int .i64 0, .slice none 0 0, .slice none 0 0, .int .i64 0, .int .i64 0, .slice none 0 0, .int .i64 0, .string (cutS nm), .int .i64 0, .int .i64 0] 35 (0, 0))) := iH (by rw [hY]; have := xqa BX.out 10 (.string (cutS nm)); simpa using this)
    clear hY d f
    refine hK.out _ _ (KW0.out.mono (by simp) |>.trans KX2.out (fun x hx => .inl hx)) (fun hJ => ?_)
    clear hK K KX BX
    have KX := KX2; have BX := BX2
    clear KX2 BX2
    refine wx 8 167 (.pointer (some ⟨s0 + 2, 11, none⟩)) rfl hJ ?_
    have d := cell_of_row Y0 (s0 + 2) 11 _ _ _ BX.out; have f := frozen_of_row Y0 (s0 + 2) 11 _ _ BX.out
    simp only [List.getElem?_toArray, List.getElem?_cons_zero, List.getElem?_cons_succ] at d
    refine wr1 9 rfl (fun K hK => ?_)
    go_simp
    obtain ⟨Y1, hY⟩ : ∃ Y, Y = Y0.setCell ⟨s0 + 2, 11, none⟩ (.int .i64 (xqd n)) := ⟨_, rfl⟩
    rw [<- hY]
    have KX2 : RowKit.Hid (Kept wo Y1 [s0 + 2]) := iH (by rw [hY]; exact KX.out.setCell (.inl (by simp)) _)
    have BX2 : RowKit.Hid (Y1.heap[s0 + 2]? = some (.cells #[.int .u8 4, .int .i64 0, .int .i64 0, .int .i64 0, .slice none 0 0, .slice none 0 0, .int .i64 0, .int .i64 0, .slice none 0 0, .int .i64 0, .string (cutS nm), .int .i64 (xqd n), .int .i64 0] 35 (0, 0))) := iH (by rw [hY]; have := xqa BX.out 11 (.int .i64 (xqd n)); simpa using this)
    clear hY d f
    refine hK.out _ _ (KW0.out.mono (by simp) |>.trans KX2.out (fun x hx => .inl hx)) (fun hJ => ?_)
    clear hK K KX BX
    have KX := KX2; have BX := BX2
    clear KX2 BX2
    refine wd ?_
    clear hJ
    go_wp2_with fail
    go_meet
    have hE : xqL (⟨k, tx, n, a, nm, M0, l0, ks, t, gs, ss⟩ : Rw) (1 + (M0 : Int) % 40) [] = (⟨4, 0, 0, 0, [], [], 0, 0, [], 0, cutS nm, xqd n, 0⟩ : En) := by have hq := HM.out; simp only [xqL]; simp [<- hq]
    refine ⟨(1 + (M0 : Int) % 40), [], none, 0, 0, none, 0, 0, none, 0, 0, rfl, rfl, ?_, ?_, ?_, ?_, ?_, ?_, ?_, ?_, KW0.out.mono (by simp) |>.trans KX.out (fun x hx => .inl hx)⟩
    ·rw [hE]; exact BX.out
    ·rw [hE]; exact ⟨RdK.nil _, RdK.nil _, RdI.nil _⟩
    ·exact Low.none _ _ _ _ _
    ·exact Low.none _ _ _ _ _
    ·exact Low.none _ _ _ _ _
    ·exact NoE.none _ _ _
    ·exact NoE.none _ _ _
    ·exact NoE.none _ _ _
   ·have e := HKK.out
    rw [h] at e
    obtain rfl : kk = 5 := by omega
    clear e
    rw [h] at HM
    clear h
    as_aux_lemma =>
    go_upto_region 26 with fail
    refine wp_region_held_drew (S := fun Z => Kept W1 Z [s0 + 2]) (by kernel_rfl) (KW0.out.mono (by simp)).drew (fun hJ => ?_)
    obtain ⟨WD, hWD⟩ : ∃ WD, WD = wo.drew := ⟨_, rfl⟩
    have KX2 : RowKit.Hid (Kept wo WD [s0 + 2]) := iH (by rw [hWD]; exact (Kept.refl wo _).drew)
    have BX2 : RowKit.Hid (WD.heap[s0 + 2]? = some (.cells #[.int .u8 5, .int .i64 0, .int .i64 0, .int .i64 0, .slice none 0 0, .slice none 0 0, .int .i64 0, .int .i64 0, .slice none 0 0, .int .i64 0, .string ⟨#[]⟩, .int .i64 0, .int .i64 0] 35 (0, 0))) := iH (by rw [hWD]; exact BX.out)
    revert hJ
    rw [<- hWD]
    intro hJ
    clear hWD KX BX
    have KX := KX2; have BX := BX2
    clear KX2 BX2
    refine wx 0 160 (.pointer (some ⟨s0, 4, none⟩)) rfl hJ ?_
    refine wx 1 161 (.string nm) rfl hJ ?_ (hy := fun V hV => by (have hh := hV.heap (by simp) B0.out; have q2 := cell_of_row V s0 2 _ _ _ hh; have q4 := cell_of_row V s0 4 _ _ _ hh; clear hV hh; simp only [List.getElem?_toArray, List.getElem?_cons_zero, List.getElem?_cons_succ] at q2 q4; go_simp))
    refine wx 3 163 (.pointer (some ⟨s0, 2, none⟩)) rfl hJ ?_
    refine wx 4 164 (.int .i64 n) rfl hJ ?_ (hy := fun V hV => by (have hh := hV.heap (by simp) B0.out; have q2 := cell_of_row V s0 2 _ _ _ hh; have q4 := cell_of_row V s0 4 _ _ _ hh; clear hV hh; simp only [List.getElem?_toArray, List.getElem?_cons_zero, List.getElem?_cons_succ] at q2 q4; go_simp))
    refine wr1 2 rfl (fun KZ hK => ?_)
    go_simp
    go_at_call 23
    refine (cut_any nm _).mono ?_
    rintro ex wy ⟨rfl, rfl⟩
    go_wp2_with fail
    refine hK.out _ _ (KW0.out.mono (by simp) |>.trans KX.out (fun x hx => .inl hx)) (fun hJ => ?_)
    clear hK KZ
    refine wx 6 166 (.pointer (some ⟨s0 + 2, 10, none⟩)) rfl hJ ?_
    refine wr1 5 rfl (fun KZ hK => ?_)
    go_simp
    go_at_call 25
    refine (xqy n _ NN.out).mono ?_
    rintro ex wy ⟨rfl, rfl⟩
    go_wp2_with fail
    refine hK.out _ _ (KW0.out.mono (by simp) |>.trans KX.out (fun x hx => .inl hx)) (fun hJ => ?_)
    clear hK KZ
    have d := cell_of_row WD (s0 + 2) 10 _ _ _ BX.out; have f := frozen_of_row WD (s0 + 2) 10 _ _ BX.out
    simp only [List.getElem?_toArray, List.getElem?_cons_zero, List.getElem?_cons_succ] at d
    refine wr1 7 rfl (fun K hK => ?_)
    go_simp
    obtain ⟨Y0, hY⟩ : ∃ Y, Y = WD.setCell ⟨s0 + 2, 10, none⟩ (.string (cutS nm)) := ⟨_, rfl⟩
    rw [<- hY]
    have KX2 : RowKit.Hid (Kept wo Y0 [s0 + 2]) := iH (by rw [hY]; exact KX.out.setCell (.inl (by simp)) _)
    have BX2 : RowKit.Hid (Y0.heap[s0 + 2]? = some (.cells #[.int .u8 5, .int .i64 0, .int .i64 0, .int .i64 0, .slice none 0 0, .slice none 0 0, .int .i64 0, .int .i64 0, .slice none 0 0, .int .i64 0, .string (cutS nm), .int .i64 0, .int .i64 0] 35 (0, 0))) := iH (by rw [hY]; have := xqa BX.out 10 (.string (cutS nm)); simpa using this)
    clear hY d f
    refine hK.out _ _ (KW0.out.mono (by simp) |>.trans KX2.out (fun x hx => .inl hx)) (fun hJ => ?_)
    clear hK K KX BX
    have KX := KX2; have BX := BX2
    clear KX2 BX2
    refine wx 8 167 (.pointer (some ⟨s0 + 2, 11, none⟩)) rfl hJ ?_
    have d := cell_of_row Y0 (s0 + 2) 11 _ _ _ BX.out; have f := frozen_of_row Y0 (s0 + 2) 11 _ _ BX.out
    simp only [List.getElem?_toArray, List.getElem?_cons_zero, List.getElem?_cons_succ] at d
    refine wr1 9 rfl (fun K hK => ?_)
    go_simp
    obtain ⟨Y1, hY⟩ : ∃ Y, Y = Y0.setCell ⟨s0 + 2, 11, none⟩ (.int .i64 (xqd n)) := ⟨_, rfl⟩
    rw [<- hY]
    have KX2 : RowKit.Hid (Kept wo Y1 [s0 + 2]) := iH (by rw [hY]; exact KX.out.setCell (.inl (by simp)) _)
    have BX2 : RowKit.Hid (Y1.heap[s0 + 2]? = some (.cells #[.int .u8 5, .int .i64 0, .int .i64 0, .int .i64 0, .slice none 0 0, .slice none 0 0, .int .i64 0, .int .i64 0, .slice none 0 0, .int .i64 0, .string (cutS nm), .int .i64 (xqd n), .int .i64 0] 35 (0, 0))) := iH (by rw [hY]; have := xqa BX.out 11 (.int .i64 (xqd n)); simpa using this)
    clear hY d f
    refine hK.out _ _ (KW0.out.mono (by simp) |>.trans KX2.out (fun x hx => .inl hx)) (fun hJ => ?_)
    clear hK K KX BX
    have KX := KX2; have BX := BX2
    clear KX2 BX2
    refine wd ?_
    clear hJ
    go_wp2_with fail
    go_meet
    have hE : xqL (⟨k, tx, n, a, nm, M0, l0, ks, t, gs, ss⟩ : Rw) (1 + (M0 : Int) % 40) [] = (⟨5, 0, 0, 0, [], [], 0, 0, [], 0, cutS nm, xqd n, 0⟩ : En) := by have hq := HM.out; simp only [xqL]; simp [<- hq]
    refine ⟨(1 + (M0 : Int) % 40), [], none, 0, 0, none, 0, 0, none, 0, 0, rfl, rfl, ?_, ?_, ?_, ?_, ?_, ?_, ?_, ?_, KW0.out.mono (by simp) |>.trans KX.out (fun x hx => .inl hx)⟩
    ·rw [hE]; exact BX.out
    ·rw [hE]; exact ⟨RdK.nil _, RdK.nil _, RdI.nil _⟩
    ·exact Low.none _ _ _ _ _
    ·exact Low.none _ _ _ _ _
    ·exact Low.none _ _ _ _ _
    ·exact NoE.none _ _ _
    ·exact NoE.none _ _ _
    ·exact NoE.none _ _ _
   ·have e := HKK.out
    rw [h] at e
    obtain rfl : kk = 6 := by omega
    clear e
    rw [h] at HM
    clear h
    as_aux_lemma =>
    go_upto_region 26 with fail
    refine wp_region_held_drew (S := fun Z => Kept W1 Z [s0 + 2]) (by kernel_rfl) (KW0.out.mono (by simp)).drew (fun hJ => ?_)
    obtain ⟨WD, hWD⟩ : ∃ WD, WD = wo.drew := ⟨_, rfl⟩
    have KX2 : RowKit.Hid (Kept wo WD [s0 + 2]) := iH (by rw [hWD]; exact (Kept.refl wo _).drew)
    have BX2 : RowKit.Hid (WD.heap[s0 + 2]? = some (.cells #[.int .u8 6, .int .i64 0, .int .i64 0, .int .i64 0, .slice none 0 0, .slice none 0 0, .int .i64 0, .int .i64 0, .slice none 0 0, .int .i64 0, .string ⟨#[]⟩, .int .i64 0, .int .i64 0] 35 (0, 0))) := iH (by rw [hWD]; exact BX.out)
    revert hJ
    rw [<- hWD]
    intro hJ
    clear hWD KX BX
    have KX := KX2; have BX := BX2
    clear KX2 BX2
    refine wx 0 160 (.pointer (some ⟨s0, 4, none⟩)) rfl hJ ?_
    refine wx 1 161 (.string nm) rfl hJ ?_ (hy := fun V hV => by (have hh := hV.heap (by simp) B0.out; have q2 := cell_of_row V s0 2 _ _ _ hh; have q4 := cell_of_row V s0 4 _ _ _ hh; clear hV hh; simp only [List.getElem?_toArray, List.getElem?_cons_zero, List.getElem?_cons_succ] at q2 q4; go_simp))
    refine wx 3 163 (.pointer (some ⟨s0, 2, none⟩)) rfl hJ ?_
    refine wx 4 164 (.int .i64 n) rfl hJ ?_ (hy := fun V hV => by (have hh := hV.heap (by simp) B0.out; have q2 := cell_of_row V s0 2 _ _ _ hh; have q4 := cell_of_row V s0 4 _ _ _ hh; clear hV hh; simp only [List.getElem?_toArray, List.getElem?_cons_zero, List.getElem?_cons_succ] at q2 q4; go_simp))
    refine wr1 2 rfl (fun KZ hK => ?_)
    go_simp
    go_at_call 23
    refine (cut_any nm _).mono ?_
    rintro ex wy ⟨rfl, rfl⟩
    go_wp2_with fail
    refine hK.out _ _ (KW0.out.mono (by simp) |>.trans KX.out (fun x hx => .inl hx)) (fun hJ => ?_)
    clear hK KZ
    refine wx 6 166 (.pointer (some ⟨s0 + 2, 10, none⟩)) rfl hJ ?_
    refine wr1 5 rfl (fun KZ hK => ?_)
    go_simp
    go_at_call 25
    refine (xqy n _ NN.out).mono ?_
    rintro ex wy ⟨rfl, rfl⟩
    go_wp2_with fail
    refine hK.out _ _ (KW0.out.mono (by simp) |>.trans KX.out (fun x hx => .inl hx)) (fun hJ => ?_)
    clear hK KZ
    have d := cell_of_row WD (s0 + 2) 10 _ _ _ BX.out; have f := frozen_of_row WD (s0 + 2) 10 _ _ BX.out
    simp only [List.getElem?_toArray, List.getElem?_cons_zero, List.getElem?_cons_succ] at d
    refine wr1 7 rfl (fun K hK => ?_)
    go_simp
    obtain ⟨Y0, hY⟩ : ∃ Y, Y = WD.setCell ⟨s0 + 2, 10, none⟩ (.string (cutS nm)) := ⟨_, rfl⟩
    rw [<- hY]
    have KX2 : RowKit.Hid (Kept wo Y0 [s0 + 2]) := iH (by rw [hY]; exact KX.out.setCell (.inl (by simp)) _)
    have BX2 : RowKit.Hid (Y0.heap[s0 + 2]? = some (.cells #[.int .u8 6, .int .i64 0, .int .i64 0, .int .i64 0, .slice none 0 0, .slice none 0 0, .int .i64 0, .int .i64 0, .slice none 0 0, .int .i64 0, .string (cutS nm), .int .i64 0, .int .i64 0] 35 (0, 0))) := iH (by rw [hY]; have := xqa BX.out 10 (.string (cutS nm)); simpa using this)
    clear hY d f
    refine hK.out _ _ (KW0.out.mono (by simp) |>.trans KX2.out (fun x hx => .inl hx)) (fun hJ => ?_)
    clear hK K KX BX
    have KX := KX2; have BX := BX2
    clear KX2 BX2
    refine wx 8 167 (.pointer (some ⟨s0 + 2, 11, none⟩)) rfl hJ ?_
    have d := cell_of_row Y0 (s0 + 2) 11 _ _ _ BX.out; have f := frozen_of_row Y0 (s0 + 2) 11 _ _ BX.out
    simp only [List.getElem?_toArray, List.getElem?_cons_zero, List.getElem?_cons_succ] at d
    refine wr1 9 rfl (fun K hK => ?_)
    go_simp
    obtain ⟨Y1, hY⟩ : ∃ Y, Y = Y0.setCell ⟨s0 + 2, 11, none⟩ (.int .i64 (xqd n)) := ⟨_, rfl⟩
    rw [<- hY]
    have KX2 : RowKit.Hid (Kept wo Y1 [s0 + 2]) := iH (by rw [hY]; exact KX.out.setCell (.inl (by simp)) _)
    have BX2 : RowKit.Hid (Y1.heap[s0 + 2]? = some (.cells #[.int .u8 6, .int .i64 0, .int .i64 0, .int .i64 0, .slice none 0 0, .slice none 0 0, .int .i64 0, .int .i64 0, .slice none 0 0, .int .i64 0, .string (cutS nm), .int .i64 (xqd n), .int .i64 0] 35 (0, 0))) := iH (by rw [hY]; have := xqa BX.out 11 (.int .i64 (xqd n)); simpa using this)
    clear hY d f
    refine hK.out _ _ (KW0.out.mono (by simp) |>.trans KX2.out (fun x hx => .inl hx)) (fun hJ => ?_)
    clear hK K KX BX
    have KX := KX2; have BX := BX2
    clear KX2 BX2
    refine wd ?_
    clear hJ
    go_wp2_with fail
    go_meet
    have hE : xqL (⟨k, tx, n, a, nm, M0, l0, ks, t, gs, ss⟩ : Rw) (1 + (M0 : Int) % 40) [] = (⟨6, 0, 0, 0, [], [], 0, 0, [], 0, cutS nm, xqd n, 0⟩ : En) := by have hq := HM.out; simp only [xqL]; simp [<- hq]
    refine ⟨(1 + (M0 : Int) % 40), [], none, 0, 0, none, 0, 0, none, 0, 0, rfl, rfl, ?_, ?_, ?_, ?_, ?_, ?_, ?_, ?_, KW0.out.mono (by simp) |>.trans KX.out (fun x hx => .inl hx)⟩
    ·rw [hE]; exact BX.out
    ·rw [hE]; exact ⟨RdK.nil _, RdK.nil _, RdI.nil _⟩
    ·exact Low.none _ _ _ _ _
    ·exact Low.none _ _ _ _ _
    ·exact Low.none _ _ _ _ _
    ·exact NoE.none _ _ _
    ·exact NoE.none _ _ _
    ·exact NoE.none _ _ _
   ·have e := HKK.out
    rw [h] at e
    obtain rfl : kk = 7 := by omega
    clear e
    rw [h] at HM
    clear h
    as_aux_lemma =>
    go_upto_region 28 with fail
    refine wp_region_held_drew (S := fun Z => Kept W1 Z [s0 + 2]) (by kernel_rfl) (KW0.out.mono (by simp)).drew (fun hJ => ?_)
    obtain ⟨WD, hWD⟩ : ∃ WD, WD = wo.drew := ⟨_, rfl⟩
    have KX2 : RowKit.Hid (Kept wo WD [s0 + 2]) := iH (by rw [hWD]; exact (Kept.refl wo _).drew)
    have BX2 : RowKit.Hid (WD.heap[s0 + 2]? = some (.cells #[.int .u8 7, .int .i64 0, .int .i64 0, .int .i64 0, .slice none 0 0, .slice none 0 0, .int .i64 0, .int .i64 0, .slice none 0 0, .int .i64 0, .string ⟨#[]⟩, .int .i64 0, .int .i64 0] 35 (0, 0))) := iH (by rw [hWD]; exact BX.out)
    revert hJ
    rw [<- hWD]
    intro hJ
    clear hWD KX BX
    have KX := KX2; have BX := BX2
    clear KX2 BX2
    refine wx 0 170 (.pointer (some ⟨s0, 4, none⟩)) rfl hJ ?_
    refine wx 1 171 (.string nm) rfl hJ ?_ (hy := fun V hV => by (have hh := hV.heap (by simp) B0.out; have q2 := cell_of_row V s0 2 _ _ _ hh; have q3 := cell_of_row V s0 3 _ _ _ hh; have q4 := cell_of_row V s0 4 _ _ _ hh; clear hV hh; simp only [List.getElem?_toArray, List.getElem?_cons_zero, List.getElem?_cons_succ] at q2 q3 q4; go_simp))
    refine wx 3 173 (.pointer (some ⟨s0, 2, none⟩)) rfl hJ ?_
    refine wx 4 174 (.int .i64 n) rfl hJ ?_ (hy := fun V hV => by (have hh := hV.heap (by simp) B0.out; have q2 := cell_of_row V s0 2 _ _ _ hh; have q3 := cell_of_row V s0 3 _ _ _ hh; have q4 := cell_of_row V s0 4 _ _ _ hh; clear hV hh; simp only [List.getElem?_toArray, List.getElem?_cons_zero, List.getElem?_cons_succ] at q2 q3 q4; go_simp))
    refine wx 6 176 (.pointer (some ⟨s0, 3, none⟩)) rfl hJ ?_
    refine wx 7 177 (.int .i64 a) rfl hJ ?_ (hy := fun V hV => by (have hh := hV.heap (by simp) B0.out; have q2 := cell_of_row V s0 2 _ _ _ hh; have q3 := cell_of_row V s0 3 _ _ _ hh; have q4 := cell_of_row V s0 4 _ _ _ hh; clear hV hh; simp only [List.getElem?_toArray, List.getElem?_cons_zero, List.getElem?_cons_succ] at q2 q3 q4; go_simp))
    refine wr1 2 rfl (fun KZ hK => ?_)
    go_simp
    go_at_call 23
    refine (cut_any nm _).mono ?_
    rintro ex wy ⟨rfl, rfl⟩
    go_wp2_with fail
    refine hK.out _ _ (KW0.out.mono (by simp) |>.trans KX.out (fun x hx => .inl hx)) (fun hJ => ?_)
    clear hK KZ
    refine wx 8 178 (.pointer (some ⟨s0 + 2, 10, none⟩)) rfl hJ ?_
    refine wr1 5 rfl (fun KZ hK => ?_)
    go_simp
    go_at_call 25
    refine (xqy n _ NN.out).mono ?_
    rintro ex wy ⟨rfl, rfl⟩
    go_wp2_with fail
    refine hK.out _ _ (KW0.out.mono (by simp) |>.trans KX.out (fun x hx => .inl hx)) (fun hJ => ?_)
    clear hK KZ
    have d := cell_of_row WD (s0 + 2) 10 _ _ _ BX.out; have f := frozen_of_row WD (s0 + 2) 10 _ _ BX.out
    simp only [List.getElem?_toArray, List.getElem?_cons_zero, List.getElem?_cons_succ] at d
    refine wr1 9 rfl (fun K hK => ?_)
    go_simp
    obtain ⟨Y0, hY⟩ : ∃ Y, Y = WD.setCell ⟨s0 + 2, 10, none⟩ (.string (cutS nm)) := ⟨_, rfl⟩
    rw [<- hY]
    have KX2 : RowKit.Hid (Kept wo Y0 [s0 + 2]) := iH (by rw [hY]; exact KX.out.setCell (.inl (by simp)) _)
    have BX2 : RowKit.Hid (Y0.heap[s0 + 2]? = some (.cells #[.int .u8 7, .int .i64 0, .int .i64 0, .int .i64 0, .slice none 0 0, .slice none 0 0, .int .i64 0, .int .i64 0, .slice none 0 0, .int .i64 0, .string (cutS nm), .int .i64 0, .int .i64 0] 35 (0, 0))) := iH (by rw [hY]; have := xqa BX.out 10 (.string (cutS nm)); simpa using this)
    clear hY d f
    refine hK.out _ _ (KW0.out.mono (by simp) |>.trans KX2.out (fun x hx => .inl hx)) (fun hJ => ?_)
    clear hK K KX BX
    have KX := KX2; have BX := BX2
    clear KX2 BX2
    refine wx 10 179 (.pointer (some ⟨s0 + 2, 11, none⟩)) rfl hJ ?_
    have d := cell_of_row Y0 (s0 + 2) 11 _ _ _ BX.out; have f := frozen_of_row Y0 (s0 + 2) 11 _ _ BX.out
    simp only [List.getElem?_toArray, List.getElem?_cons_zero, List.getElem?_cons_succ] at d
    refine wr1 11 rfl (fun K hK => ?_)
    go_simp
    obtain ⟨Y1, hY⟩ : ∃ Y, Y = Y0.setCell ⟨s0 + 2, 11, none⟩ (.int .i64 (xqd n)) := ⟨_, rfl⟩
    rw [<- hY]
    have KX2 : RowKit.Hid (Kept wo Y1 [s0 + 2]) := iH (by rw [hY]; exact KX.out.setCell (.inl (by simp)) _)
    have BX2 : RowKit.Hid (Y1.heap[s0 + 2]? = some (.cells #[.int .u8 7, .int .i64 0, .int .i64 0, .int .i64 0, .slice none 0 0, .slice none 0 0, .int .i64 0, .int .i64 0, .slice none 0 0, .int .i64 0, .string (cutS nm), .int .i64 (xqd n), .int .i64 0] 35 (0, 0))) := iH (by rw [hY]; have := xqa BX.out 11 (.int .i64 (xqd n)); simpa using this)
    clear hY d f
    refine hK.out _ _ (KW0.out.mono (by simp) |>.trans KX2.out (fun x hx => .inl hx)) (fun hJ => ?_)
    clear hK K KX BX
    have KX := KX2; have BX := BX2
    clear KX2 BX2
    refine wx 12 180 (.pointer (some ⟨s0 + 2, 12, none⟩)) rfl hJ ?_
    have d := cell_of_row Y1 (s0 + 2) 12 _ _ _ BX.out; have f := frozen_of_row Y1 (s0 + 2) 12 _ _ BX.out
    simp only [List.getElem?_toArray, List.getElem?_cons_zero, List.getElem?_cons_succ] at d
    refine wr1 13 rfl (fun K hK => ?_)
    go_simp
    obtain ⟨Y2, hY⟩ : ∃ Y, Y = Y1.setCell ⟨s0 + 2, 12, none⟩ (.int .i64 a) := ⟨_, rfl⟩
    rw [<- hY]
    have KX2 : RowKit.Hid (Kept wo Y2 [s0 + 2]) := iH (by rw [hY]; exact KX.out.setCell (.inl (by simp)) _)
    have BX2 : RowKit.Hid (Y2.heap[s0 + 2]? = some (.cells #[.int .u8 7, .int .i64 0, .int .i64 0, .int .i64 0, .slice none 0 0, .slice none 0 0, .int .i64 0, .int .i64 0, .slice none 0 0, .int .i64 0, .string (cutS nm), .int .i64 (xqd n), .int .i64 a] 35 (0, 0))) := iH (by rw [hY]; have := xqa BX.out 12 (.int .i64 a); simpa using this)
    clear hY d f
    refine hK.out _ _ (KW0.out.mono (by simp) |>.trans KX2.out (fun x hx => .inl hx)) (fun hJ => ?_)
    clear hK K KX BX
    have KX := KX2; have BX := BX2
    clear KX2 BX2
    refine wd ?_
    clear hJ
    go_wp2_with fail
    go_meet
    have hE : xqL (⟨k, tx, n, a, nm, M0, l0, ks, t, gs, ss⟩ : Rw) (1 + (M0 : Int) % 40) [] = (⟨7, 0, 0, 0, [], [], 0, 0, [], 0, cutS nm, xqd n, a⟩ : En) := by have hq := HM.out; simp only [xqL]; simp [<- hq]
    refine ⟨(1 + (M0 : Int) % 40), [], none, 0, 0, none, 0, 0, none, 0, 0, rfl, rfl, ?_, ?_, ?_, ?_, ?_, ?_, ?_, ?_, KW0.out.mono (by simp) |>.trans KX.out (fun x hx => .inl hx)⟩
    ·rw [hE]; exact BX.out
    ·rw [hE]; exact ⟨RdK.nil _, RdK.nil _, RdI.nil _⟩
    ·exact Low.none _ _ _ _ _
    ·exact Low.none _ _ _ _ _
    ·exact Low.none _ _ _ _ _
    ·exact NoE.none _ _ _
    ·exact NoE.none _ _ _
    ·exact NoE.none _ _ _
   ·have e := HKK.out
    rw [h] at e
    obtain rfl : kk = 8 := by omega
    clear e
    rw [h] at HM
    clear h
    as_aux_lemma =>
    go_upto_region 19 with fail
    refine wp_region_held_drew (S := fun Z => Kept W1 Z [s0 + 2]) (by kernel_rfl) (KW0.out.mono (by simp)).drew (fun hJ => ?_)
    obtain ⟨WD, hWD⟩ : ∃ WD, WD = wo.drew := ⟨_, rfl⟩
    have KX2 : RowKit.Hid (Kept wo WD [s0 + 2]) := iH (by rw [hWD]; exact (Kept.refl wo _).drew)
    have BX2 : RowKit.Hid (WD.heap[s0 + 2]? = some (.cells #[.int .u8 8, .int .i64 0, .int .i64 0, .int .i64 0, .slice none 0 0, .slice none 0 0, .int .i64 0, .int .i64 0, .slice none 0 0, .int .i64 0, .string ⟨#[]⟩, .int .i64 0, .int .i64 0] 35 (0, 0))) := iH (by rw [hWD]; exact BX.out)
    revert hJ
    rw [<- hWD]
    intro hJ
    clear hWD KX BX
    have KX := KX2; have BX := BX2
    clear KX2 BX2
    refine wx 0 124 (.pointer (some ⟨s0, 1, none⟩)) rfl hJ ?_
    refine wx 1 125 (.int .i64 tx) rfl hJ ?_ (hy := fun V hV => by (have hh := hV.heap (by simp) B0.out; have q1 := cell_of_row V s0 1 _ _ _ hh; have q2 := cell_of_row V s0 2 _ _ _ hh; have q3 := cell_of_row V s0 3 _ _ _ hh; clear hV hh; simp only [List.getElem?_toArray, List.getElem?_cons_zero, List.getElem?_cons_succ] at q1 q2 q3; go_simp))
    refine wx 3 127 (.pointer (some ⟨s0, 2, none⟩)) rfl hJ ?_
    refine wx 4 128 (.int .i64 n) rfl hJ ?_ (hy := fun V hV => by (have hh := hV.heap (by simp) B0.out; have q1 := cell_of_row V s0 1 _ _ _ hh; have q2 := cell_of_row V s0 2 _ _ _ hh; have q3 := cell_of_row V s0 3 _ _ _ hh; clear hV hh; simp only [List.getElem?_toArray, List.getElem?_cons_zero, List.getElem?_cons_succ] at q1 q2 q3; go_simp))
    refine wx 6 130 (.pointer (some ⟨s0, 3, none⟩)) rfl hJ ?_
    refine wx 7 131 (.int .i64 a) rfl hJ ?_ (hy := fun V hV => by (have hh := hV.heap (by simp) B0.out; have q1 := cell_of_row V s0 1 _ _ _ hh; have q2 := cell_of_row V s0 2 _ _ _ hh; have q3 := cell_of_row V s0 3 _ _ _ hh; clear hV hh; simp only [List.getElem?_toArray, List.getElem?_cons_zero, List.getElem?_cons_succ] at q1 q2 q3; go_simp))
    refine wx 9 133 (.slice ea bs.length ec) rfl hJ ?_
    refine wx 10 134 (.pointer (some ⟨s0, 3, none⟩)) rfl hJ ?_
    refine wx 11 135 (.int .i64 a) rfl hJ ?_ (hy := fun V hV => by (have hh := hV.heap (by simp) B0.out; have q1 := cell_of_row V s0 1 _ _ _ hh; have q2 := cell_of_row V s0 2 _ _ _ hh; have q3 := cell_of_row V s0 3 _ _ _ hh; clear hV hh; simp only [List.getElem?_toArray, List.getElem?_cons_zero, List.getElem?_cons_succ] at q1 q2 q3; go_simp))
    refine wr1 2 rfl (fun KZ hK => ?_)
    go_simp
    go_at_call 25
    refine (xqy tx _ NTX.out).mono ?_
    rintro ex wy ⟨rfl, rfl⟩
    go_wp2_with fail
    refine hK.out _ _ (KW0.out.mono (by simp) |>.trans KX.out (fun x hx => .inl hx)) (fun hJ => ?_)
    clear hK KZ
    refine wx 12 136 (.pointer (some ⟨s0 + 2, 1, none⟩)) rfl hJ ?_
    refine wr1 5 rfl (fun KZ hK => ?_)
    go_simp
    go_at_call 25
    refine (xqy n _ NN.out).mono ?_
    rintro ex wy ⟨rfl, rfl⟩
    go_wp2_with fail
    refine hK.out _ _ (KW0.out.mono (by simp) |>.trans KX.out (fun x hx => .inl hx)) (fun hJ => ?_)
    clear hK KZ
    refine wr1 8 rfl (fun KZ hK => ?_)
    go_simp
    go_at_call 25
    refine (xqy a _ NA.out).mono ?_
    rintro ex wy ⟨rfl, rfl⟩
    go_wp2_with fail
    refine hK.out _ _ (KW0.out.mono (by simp) |>.trans KX.out (fun x hx => .inl hx)) (fun hJ => ?_)
    clear hK KZ
    have d := cell_of_row WD (s0 + 2) 1 _ _ _ BX.out; have f := frozen_of_row WD (s0 + 2) 1 _ _ BX.out
    simp only [List.getElem?_toArray, List.getElem?_cons_zero, List.getElem?_cons_succ] at d
    refine wr1 13 rfl (fun K hK => ?_)
    go_simp
    obtain ⟨Y0, hY⟩ : ∃ Y, Y = WD.setCell ⟨s0 + 2, 1, none⟩ (.int .i64 (xqd tx)) := ⟨_, rfl⟩
    rw [<- hY]
    have KX2 : RowKit.Hid (Kept wo Y0 [s0 + 2]) := iH (by rw [hY]; exact KX.out.setCell (.inl (by simp)) _)
    have BX2 : RowKit.Hid (Y0.heap[s0 + 2]? = some (.cells #[.int .u8 8, .int .i64 (xqd tx), .int .i64 0, .int .i64 0, .slice none 0 0, .slice none 0 0, .int .i64 0, .int .i64 0, .slice none 0 0, .int .i64 0, .string ⟨#[]⟩, .int .i64 0, .int .i64 0] 35 (0, 0))) := iH (by rw [hY]; have := xqa BX.out 1 (.int .i64 (xqd tx)); simpa using this)
    clear hY d f
    refine hK.out _ _ (KW0.out.mono (by simp) |>.trans KX2.out (fun x hx => .inl hx)) (fun hJ => ?_)
    clear hK K KX BX
    have KX := KX2; have BX := BX2
    clear KX2 BX2
    refine wx 14 137 (.pointer (some ⟨s0 + 2, 2, none⟩)) rfl hJ ?_
    have d := cell_of_row Y0 (s0 + 2) 2 _ _ _ BX.out; have f := frozen_of_row Y0 (s0 + 2) 2 _ _ BX.out
    simp only [List.getElem?_toArray, List.getElem?_cons_zero, List.getElem?_cons_succ] at d
    refine wr1 15 rfl (fun K hK => ?_)
    go_simp
    obtain ⟨Y1, hY⟩ : ∃ Y, Y = Y0.setCell ⟨s0 + 2, 2, none⟩ (.int .i64 (xqd n)) := ⟨_, rfl⟩
    rw [<- hY]
    have KX2 : RowKit.Hid (Kept wo Y1 [s0 + 2]) := iH (by rw [hY]; exact KX.out.setCell (.inl (by simp)) _)
    have BX2 : RowKit.Hid (Y1.heap[s0 + 2]? = some (.cells #[.int .u8 8, .int .i64 (xqd tx), .int .i64 (xqd n), .int .i64 0, .slice none 0 0, .slice none 0 0, .int .i64 0, .int .i64 0, .slice none 0 0, .int .i64 0, .string ⟨#[]⟩, .int .i64 0, .int .i64 0] 35 (0, 0))) := iH (by rw [hY]; have := xqa BX.out 2 (.int .i64 (xqd n)); simpa using this)
    clear hY d f
    refine hK.out _ _ (KW0.out.mono (by simp) |>.trans KX2.out (fun x hx => .inl hx)) (fun hJ => ?_)
    clear hK K KX BX
    have KX := KX2; have BX := BX2
    clear KX2 BX2
    refine wx 16 138 (.pointer (some ⟨s0 + 2, 3, none⟩)) rfl hJ ?_
    have d := cell_of_row Y1 (s0 + 2) 3 _ _ _ BX.out; have f := frozen_of_row Y1 (s0 + 2) 3 _ _ BX.out
    simp only [List.getElem?_toArray, List.getElem?_cons_zero, List.getElem?_cons_succ] at d
    refine wr1 17 rfl (fun K hK => ?_)
    go_simp
    obtain ⟨Y2, hY⟩ : ∃ Y, Y = Y1.setCell ⟨s0 + 2, 3, none⟩ (.int .i64 (xqd a)) := ⟨_, rfl⟩
    rw [<- hY]
    have KX2 : RowKit.Hid (Kept wo Y2 [s0 + 2]) := iH (by rw [hY]; exact KX.out.setCell (.inl (by simp)) _)
    have BX2 : RowKit.Hid (Y2.heap[s0 + 2]? = some (.cells #[.int .u8 8, .int .i64 (xqd tx), .int .i64 (xqd n), .int .i64 (xqd a), .slice none 0 0, .slice none 0 0, .int .i64 0, .int .i64 0, .slice none 0 0, .int .i64 0, .string ⟨#[]⟩, .int .i64 0, .int .i64 0] 35 (0, 0))) := iH (by rw [hY]; have := xqa BX.out 3 (.int .i64 (xqd a)); simpa using this)
    clear hY d f
    refine hK.out _ _ (KW0.out.mono (by simp) |>.trans KX2.out (fun x hx => .inl hx)) (fun hJ => ?_)
    clear hK K KX BX
    have KX := KX2; have BX := BX2
    clear KX2 BX2
    refine wx 18 139 (.pointer (some ⟨s0 + 2, 5, none⟩)) rfl hJ ?_
    have d := cell_of_row Y2 (s0 + 2) 5 _ _ _ BX.out; have f := frozen_of_row Y2 (s0 + 2) 5 _ _ BX.out
    simp only [List.getElem?_toArray, List.getElem?_cons_zero, List.getElem?_cons_succ] at d
    refine wr1 19 rfl (fun K hK => ?_)
    go_simp
    obtain ⟨Y3, hY⟩ : ∃ Y, Y = Y2.setCell ⟨s0 + 2, 5, none⟩ (.slice ea bs.length ec) := ⟨_, rfl⟩
    rw [<- hY]
    have KX2 : RowKit.Hid (Kept wo Y3 [s0 + 2]) := iH (by rw [hY]; exact KX.out.setCell (.inl (by simp)) _)
    have BX2 : RowKit.Hid (Y3.heap[s0 + 2]? = some (.cells #[.int .u8 8, .int .i64 (xqd tx), .int .i64 (xqd n), .int .i64 (xqd a), .slice none 0 0, .slice ea bs.length ec, .int .i64 0, .int .i64 0, .slice none 0 0, .int .i64 0, .string ⟨#[]⟩, .int .i64 0, .int .i64 0] 35 (0, 0))) := iH (by rw [hY]; have := xqa BX.out 5 (.slice ea bs.length ec); simpa using this)
    clear hY d f
    refine hK.out _ _ (KW0.out.mono (by simp) |>.trans KX2.out (fun x hx => .inl hx)) (fun hJ => ?_)
    clear hK K KX BX
    have KX := KX2; have BX := BX2
    clear KX2 BX2
    refine wx 20 140 (.pointer (some ⟨s0 + 2, 12, none⟩)) rfl hJ ?_
    have d := cell_of_row Y3 (s0 + 2) 12 _ _ _ BX.out; have f := frozen_of_row Y3 (s0 + 2) 12 _ _ BX.out
    simp only [List.getElem?_toArray, List.getElem?_cons_zero, List.getElem?_cons_succ] at d
    refine wr1 21 rfl (fun K hK => ?_)
    go_simp
    obtain ⟨Y4, hY⟩ : ∃ Y, Y = Y3.setCell ⟨s0 + 2, 12, none⟩ (.int .i64 a) := ⟨_, rfl⟩
    rw [<- hY]
    have KX2 : RowKit.Hid (Kept wo Y4 [s0 + 2]) := iH (by rw [hY]; exact KX.out.setCell (.inl (by simp)) _)
    have BX2 : RowKit.Hid (Y4.heap[s0 + 2]? = some (.cells #[.int .u8 8, .int .i64 (xqd tx), .int .i64 (xqd n), .int .i64 (xqd a), .slice none 0 0, .slice ea bs.length ec, .int .i64 0, .int .i64 0, .slice none 0 0, .int .i64 0, .string ⟨#[]⟩, .int .i64 0, .int .i64 a] 35 (0, 0))) := iH (by rw [hY]; have := xqa BX.out 12 (.int .i64 a); simpa using this)
    clear hY d f
    refine hK.out _ _ (KW0.out.mono (by simp) |>.trans KX2.out (fun x hx => .inl hx)) (fun hJ => ?_)
    clear hK K KX BX
    have KX := KX2; have BX := BX2
    clear KX2 BX2
    refine wd ?_
    clear hJ
    go_wp2_with fail
    go_meet
    have hE : xqL (⟨k, tx, n, a, nm, M0, l0, ks, t, gs, ss⟩ : Rw) (1 + (M0 : Int) % 40) [] = (⟨8, xqd tx, xqd n, xqd a, [], EL bs.length, 0, 0, [], 0, ⟨#[]⟩, 0, a⟩ : En) := by rw [HEL.out, show bs.length = ss.length from by rw [ESS.out, List.length_map]]; have hq := HM.out; simp only [xqL]; simp [<- hq]
    refine ⟨(1 + (M0 : Int) % 40), [], none, 0, 0, ea, bs.length, ec, none, 0, 0, rfl, rfl, ?_, ?_, ?_, ?_, ?_, ?_, ?_, ?_, KW0.out.mono (by simp) |>.trans KX.out (fun x hx => .inl hx)⟩
    ·rw [hE]; exact BX.out
    ·rw [hE]; exact ⟨RdK.nil _, (OE.out.kept KX.out (fun b hb => by have := (OE.out.lt b hb).1; simp; omega)).rd, RdI.nil _⟩
    ·exact Low.none _ _ _ _ _
    ·exact (Low.own OE.out (by omega) (by omega)).keep KX.out.size
    ·exact Low.none _ _ _ _ _
    ·exact NoE.none _ _ _
    ·exact NoE.own (OE.out.kept KX.out (fun b hb => by have := (OE.out.lt b hb).1; simp; omega)) (by decide)
    ·exact NoE.none _ _ _
   ·have e := HKK.out
    rw [h] at e
    obtain rfl : kk = 9 := by omega
    clear e
    rw [h] at HM
    clear h
    as_aux_lemma =>
    have hh := KW0.out.heap (by simp) B0.out
    have c2 := cell_of_row wo s0 2 _ _ _ hh
    simp only [List.getElem?_toArray, List.getElem?_cons_zero, List.getElem?_cons_succ] at c2
    clear hh
    have d11 := cell_of_row wo (s0 + 2) 11 _ _ _ BX.out; have f11 := frozen_of_row wo (s0 + 2) 11 _ _ BX.out
    simp only [List.getElem?_toArray, List.getElem?_cons_zero, List.getElem?_cons_succ] at d11
    go_wp2_with fail
    refine (xqy n _ NN.out).mono ?_
    rintro ex wy ⟨rfl, rfl⟩
    go_wp2_with fail
    go_meet
    have BX2 := (xqa BX.out 11 (.int .i64 (xqd n)))
    simp only [List.setIfInBounds_toArray, List.set_cons_zero, List.set_cons_succ] at BX2
    have KX2 : Kept wo (wo.setCell ⟨s0 + 2, 11, none⟩ (.int .i64 (xqd n))) [s0 + 2] := ((Kept.refl wo [s0 + 2]).setCell (.inl (by simp)) _)
    clear BX KX
    have KX := iH KX2; have BX := iH BX2
    clear KX2 BX2
    have hE : xqL (⟨k, tx, n, a, nm, M0, l0, ks, t, gs, ss⟩ : Rw) (1 + (M0 : Int) % 40) [] = (⟨9, 0, 0, 0, [], [], 0, 0, [], 0, ⟨#[]⟩, xqd n, 0⟩ : En) := by have hq := HM.out; simp only [xqL]; simp [<- hq]
    refine ⟨(1 + (M0 : Int) % 40), [], none, 0, 0, none, 0, 0, none, 0, 0, rfl, rfl, ?_, ?_, ?_, ?_, ?_, ?_, ?_, ?_, KW0.out.mono (by simp) |>.trans KX.out (fun x hx => .inl hx)⟩
    ·rw [hE]; exact BX.out
    ·rw [hE]; exact ⟨RdK.nil _, RdK.nil _, RdI.nil _⟩
    ·exact Low.none _ _ _ _ _
    ·exact Low.none _ _ _ _ _
    ·exact Low.none _ _ _ _ _
    ·exact NoE.none _ _ _
    ·exact NoE.none _ _ _
    ·exact NoE.none _ _ _
   ·have e := HKK.out
    rw [h] at e
    obtain rfl : kk = 10 := by omega
    clear e
    rw [h] at HM
    clear h
    as_aux_lemma =>
    have hh := KW0.out.heap (by simp) B0.out
    have c2 := cell_of_row wo s0 2 _ _ _ hh
    simp only [List.getElem?_toArray, List.getElem?_cons_zero, List.getElem?_cons_succ] at c2
    clear hh
    have d11 := cell_of_row wo (s0 + 2) 11 _ _ _ BX.out; have f11 := frozen_of_row wo (s0 + 2) 11 _ _ BX.out
    simp only [List.getElem?_toArray, List.getElem?_cons_zero, List.getElem?_cons_succ] at d11
    go_wp2_with fail
    refine (xqy n _ NN.out).mono ?_
    rintro ex wy ⟨rfl, rfl⟩
    go_wp2_with fail
    go_meet
    have BX2 := (xqa BX.out 11 (.int .i64 (xqd n)))
    simp only [List.setIfInBounds_toArray, List.set_cons_zero, List.set_cons_succ] at BX2
    have KX2 : Kept wo (wo.setCell ⟨s0 + 2, 11, none⟩ (.int .i64 (xqd n))) [s0 + 2] := ((Kept.refl wo [s0 + 2]).setCell (.inl (by simp)) _)
    clear BX KX
    have KX := iH KX2; have BX := iH BX2
    clear KX2 BX2
    have hE : xqL (⟨k, tx, n, a, nm, M0, l0, ks, t, gs, ss⟩ : Rw) (1 + (M0 : Int) % 40) [] = (⟨10, 0, 0, 0, [], [], 0, 0, [], 0, ⟨#[]⟩, xqd n, 0⟩ : En) := by have hq := HM.out; simp only [xqL]; simp [<- hq]
    refine ⟨(1 + (M0 : Int) % 40), [], none, 0, 0, none, 0, 0, none, 0, 0, rfl, rfl, ?_, ?_, ?_, ?_, ?_, ?_, ?_, ?_, KW0.out.mono (by simp) |>.trans KX.out (fun x hx => .inl hx)⟩
    ·rw [hE]; exact BX.out
    ·rw [hE]; exact ⟨RdK.nil _, RdK.nil _, RdI.nil _⟩
    ·exact Low.none _ _ _ _ _
    ·exact Low.none _ _ _ _ _
    ·exact Low.none _ _ _ _ _
    ·exact NoE.none _ _ _
    ·exact NoE.none _ _ _
    ·exact NoE.none _ _ _
   have e := HKK.out
   rw [h] at e
   obtain rfl : kk = 11 := by omega
   clear e
   rw [h] at HM
   clear h
   as_aux_lemma =>
   have hh := KW0.out.heap (by simp) B0.out
   have c2 := cell_of_row wo s0 2 _ _ _ hh
   simp only [List.getElem?_toArray, List.getElem?_cons_zero, List.getElem?_cons_succ] at c2
   clear hh
   have d11 := cell_of_row wo (s0 + 2) 11 _ _ _ BX.out; have f11 := frozen_of_row wo (s0 + 2) 11 _ _ BX.out
   have d4 := cell_of_row wo (s0 + 2) 4 _ _ _ BX.out; have f4 := frozen_of_row wo (s0 + 2) 4 _ _ BX.out
   simp only [List.getElem?_toArray, List.getElem?_cons_zero, List.getElem?_cons_succ] at d11 d4
   go_wp2_with fail
   refine (xqy n _ NN.out).mono ?_
   rintro ex wy ⟨rfl, rfl⟩
   go_wp2_with fail
   go_meet
   have BX2 := (xqa (xqa BX.out 11 (.int .i64 (xqd n))) 4 (.slice oa ks.length oc))
   simp only [List.setIfInBounds_toArray, List.set_cons_zero, List.set_cons_succ] at BX2
   have KX2 : Kept wo ((wo.setCell ⟨s0 + 2, 11, none⟩ (.int .i64 (xqd n))).setCell ⟨s0 + 2, 4, none⟩ (.slice oa ks.length oc)) [s0 + 2] := (((Kept.refl wo [s0 + 2]).setCell (.inl (by simp)) _).setCell (.inl (by simp)) _)
   clear BX KX
   have KX := iH KX2; have BX := iH BX2
   clear KX2 BX2
   have hE : xqL (⟨k, tx, n, a, nm, M0, l0, ks, t, gs, ss⟩ : Rw) (1 + (M0 : Int) % 40) [] = (⟨11, 0, 0, 0, OL ks.length, [], 0, 0, [], 0, ⟨#[]⟩, xqd n, 0⟩ : En) := by rw [HOL.out]; have hq := HM.out; simp only [xqL]; simp [<- hq]
   refine ⟨(1 + (M0 : Int) % 40), [], oa, ks.length, oc, none, 0, 0, none, 0, 0, rfl, rfl, ?_, ?_, ?_, ?_, ?_, ?_, ?_, ?_, KW0.out.mono (by simp) |>.trans KX.out (fun x hx => .inl hx)⟩
   ·rw [hE]; exact BX.out
   ·rw [hE]; exact ⟨(OT.out.kept KX.out (fun b hb => by have := (OT.out.lt b hb).1; simp; omega)).rd, RdK.nil _, RdI.nil _⟩
   ·exact (Low.own OT.out (by omega) (by omega)).keep KX.out.size
   ·exact Low.none _ _ _ _ _
   ·exact Low.none _ _ _ _ _
   ·exact NoE.own (OT.out.kept KX.out (fun b hb => by have := (OT.out.lt b hb).1; simp; omega)) (by decide)
   ·exact NoE.none _ _ _
   ·exact NoE.none _ _ _
  case rest =>
  obtain ⟨M, l, oa1, on, oc1, ea1, en1, ec1, ia, il, ic1, hM, hub, hb, hrd, lo, le, li, no, ne, ni, hkx⟩ := hcut
  obtain ⟨wf, hwf⟩ : ∃ wf, wf = wc := ⟨_, rfl⟩
  subst hwf
  have HMM := iH hM; have HUB := iH hub; have HRD := iH hrd; have HLO := iH lo; have HLE := iH le; have HLI := iH li; have HKX := iH hkx; have HNO := iH no; have HNE := iH ne; have HNI := iH ni
  clear hM hub hrd lo le li hkx no ne ni
  obtain ⟨E, hE⟩ : ∃ E, E = xqL (⟨k, tx, n, a, nm, M0, l0, ks, t, gs, ss⟩ : Rw) M l := ⟨_, rfl⟩
  rw [<- hE] at hb HRD
  have HE := iH hE
  clear hE
  obtain ⟨e0, e1, e2, e3, e4, e5, e6, e7, e8, e9, e10, e11, e12⟩ := E
  simp only [En.cs] at hb
  have HB := iH hb
  have d0 := cell_of_row wf (s0 + 2) 0 _ _ _ hb
  have d1 := cell_of_row wf (s0 + 2) 1 _ _ _ hb
  have d2 := cell_of_row wf (s0 + 2) 2 _ _ _ hb
  have d3 := cell_of_row wf (s0 + 2) 3 _ _ _ hb
  have d4 := cell_of_row wf (s0 + 2) 4 _ _ _ hb
  have d5 := cell_of_row wf (s0 + 2) 5 _ _ _ hb
  have d6 := cell_of_row wf (s0 + 2) 6 _ _ _ hb
  have d7 := cell_of_row wf (s0 + 2) 7 _ _ _ hb
  have d8 := cell_of_row wf (s0 + 2) 8 _ _ _ hb
  have d9 := cell_of_row wf (s0 + 2) 9 _ _ _ hb
  have d10 := cell_of_row wf (s0 + 2) 10 _ _ _ hb
  have d11 := cell_of_row wf (s0 + 2) 11 _ _ _ hb
  have d12 := cell_of_row wf (s0 + 2) 12 _ _ _ hb
  simp only [List.getElem?_toArray, List.getElem?_cons_zero, List.getElem?_cons_succ] at d0 d1 d2 d3 d4 d5 d6 d7 d8 d9 d10 d11 d12
  clear hb
  have BZ := HKX.out.heap (by simp) B1.out
  have p0 := cell_of_row wf (s0 + 1) 0 _ _ _ BZ
  have p1 := cell_of_row wf (s0 + 1) 1 _ _ _ BZ
  have p2 := cell_of_row wf (s0 + 1) 2 _ _ _ BZ
  have p3 := cell_of_row wf (s0 + 1) 3 _ _ _ BZ
  have p4 := cell_of_row wf (s0 + 1) 4 _ _ _ BZ
  have p5 := cell_of_row wf (s0 + 1) 5 _ _ _ BZ
  have p6 := cell_of_row wf (s0 + 1) 6 _ _ _ BZ
  have p7 := cell_of_row wf (s0 + 1) 7 _ _ _ BZ
  have p8 := cell_of_row wf (s0 + 1) 8 _ _ _ BZ
  have p9 := cell_of_row wf (s0 + 1) 9 _ _ _ BZ
  have p10 := cell_of_row wf (s0 + 1) 10 _ _ _ BZ
  have p11 := cell_of_row wf (s0 + 1) 11 _ _ _ BZ
  have p12 := cell_of_row wf (s0 + 1) 12 _ _ _ BZ
  simp only [List.getElem?_toArray, List.getElem?_cons_zero, List.getElem?_cons_succ] at p0 p1 p2 p3 p4 p5 p6 p7 p8 p9 p10 p11 p12
  have f0 := frozen_of_row wf (s0 + 1) 0 _ _ BZ
  have f1 := frozen_of_row wf (s0 + 1) 1 _ _ BZ
  have f2 := frozen_of_row wf (s0 + 1) 2 _ _ BZ
  have f3 := frozen_of_row wf (s0 + 1) 3 _ _ BZ
  have f4 := frozen_of_row wf (s0 + 1) 4 _ _ BZ
  have f5 := frozen_of_row wf (s0 + 1) 5 _ _ BZ
  have f6 := frozen_of_row wf (s0 + 1) 6 _ _ BZ
  have f7 := frozen_of_row wf (s0 + 1) 7 _ _ BZ
  have f8 := frozen_of_row wf (s0 + 1) 8 _ _ BZ
  have f9 := frozen_of_row wf (s0 + 1) 9 _ _ BZ
  have f10 := frozen_of_row wf (s0 + 1) 10 _ _ BZ
  have f11 := frozen_of_row wf (s0 + 1) 11 _ _ BZ
  have f12 := frozen_of_row wf (s0 + 1) 12 _ _ BZ
  have BZ := iH BZ
  go_wp2
  obtain ⟨g, kF⟩ := put13 BZ.out (.int .u8 e0) (.int .i64 e1) (.int .i64 e2) (.int .i64 e3) (.slice oa1 on oc1) (.slice ea1 en1 ec1) (.int .i64 e6) (.int .i64 e7) (.slice ia il ic1) (.int .i64 e9) (.string e10) (.int .i64 e11) (.int .i64 e12)
  have kF := iH kF
  simp only [set13] at g
  have y0 := cell_of_row _ _ 0 _ _ _ g
  have y1 := cell_of_row _ _ 1 _ _ _ g
  have y2 := cell_of_row _ _ 2 _ _ _ g
  have y3 := cell_of_row _ _ 3 _ _ _ g
  have y4 := cell_of_row _ _ 4 _ _ _ g
  have y5 := cell_of_row _ _ 5 _ _ _ g
  have y6 := cell_of_row _ _ 6 _ _ _ g
  have y7 := cell_of_row _ _ 7 _ _ _ g
  have y8 := cell_of_row _ _ 8 _ _ _ g
  have y9 := cell_of_row _ _ 9 _ _ _ g
  have y10 := cell_of_row _ _ 10 _ _ _ g
  have y11 := cell_of_row _ _ 11 _ _ _ g
  have y12 := cell_of_row _ _ 12 _ _ _ g
  simp only [List.getElem?_toArray, List.getElem?_cons_zero, List.getElem?_cons_succ] at y0 y1 y2 y3 y4 y5 y6 y7 y8 y9 y10 y11 y12
  refine bodyPost_ret (v := .agg #[.int .u8 e0, .int .i64 e1, .int .i64 e2, .int .i64 e3, .slice oa1 on oc1, .slice ea1 en1 ec1, .int .i64 e6, .int .i64 e7, .slice ia il ic1, .int .i64 e9, .string e10, .int .i64 e11, .int .i64 e12]) (by simp [results, Try.results11, go_sem, y0, y1, y2, y3, y4, y5, y6, y7, y8, y9, y10, y11, y12]) rfl ?_
  have hs := HS0.out
  have kF2 := kF.out
  simp only [set13] at kF2
  refine ⟨M, l, .slice oa1 on oc1, .slice ea1 en1 ec1, .slice ia il ic1, by rw [<- HE.out]; rfl, ⟨HMM.out, HNO.out.keepK kF2 HLO.out.ne, HNE.out.keepK kF2 HLE.out.ne, HNI.out.keepK kF2 HLI.out.ne⟩, HUB.out, ?_, ?_, ?_⟩
  ·rw [<- HE.out]; exact ⟨HRD.out.ro.kept kF2 HLO.out.ne, HRD.out.re.kept kF2 HLE.out.ne, HRD.out.ri.kept kF2 HLI.out.ne⟩
  ·have hsz := kF2.size
   exact ⟨fun b hb => Nat.lt_of_lt_of_le (HLO.out b hb).1 hsz, fun b hb => Nat.lt_of_lt_of_le (HLE.out b hb).1 hsz, fun b hb => Nat.lt_of_lt_of_le (HLI.out b hb).1 hsz⟩
  exact (K1.out.trans HKX.out (by intro x hx; simp at hx; exact .inr (by omega))).trans kF2 (by intro x hx; simp at hx; exact .inr (by omega))
end Go.Proofs.Ytjdbmlifekghfaa
