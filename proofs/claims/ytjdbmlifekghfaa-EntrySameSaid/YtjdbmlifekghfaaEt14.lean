/-
  Eoj in one text.
-/
import Derived.Test.YtjdbmlifekghfaaEt0
import Derived.Test.YtjdbmlifekghfaaEt13
set_option linter.unusedVariables false
set_option maxHeartbeats 16000000
set_option maxRecDepth 100000
namespace Go.Proofs.Ytjdbmlifekghfaa
open Go.RowKit
theorem Zs.any_l {w : World} {q r c : Nat} {e : Int} {l l' : List UInt8} (h : Zs w q r c e l) (he : e ≠ 0) : Zs w q r c e l' := by
 obtain ⟨x, e0, l0, z, s⟩ := h
 exact ⟨x, e0, l0, z, s.1, fun h0 => absurd h0 he⟩
theorem dOps_zero {k : Nat} {e : Int} {l : List UInt8} (h : (dOps k e l).2.2 = 0) : e = 0 := by
 by_cases he : e = 0
 ·exact he
 have := dOps_stop 0 k e l (Nat.zero_le _) he
 rw [this] at h; exact h
theorem dEvs_zero {k : Nat} {e : Int} {l : List UInt8} (h : (dEvs k e l).2.2 = 0) : e = 0 := by
 by_cases he : e = 0
 ·exact he
 have := dEvs_stop 0 k e l (Nat.zero_le _) he
 rw [this] at h; exact h
theorem dOpen_zero {k : Nat} {e : Int} {l : List UInt8} (h : (xqs k e l).2.2 = 0) : e = 0 := by
 by_cases he : e = 0
 ·exact he
 have := dOpen_stop 0 k e l (Nat.zero_le _) he
 rw [this] at h; exact h
theorem dEvs_step {k : Nat} {e : Int} {l : List UInt8} (h : (dEvs k e l).2.2 = 0) : (dEvs (k + 1) e l).2.2 = evE (pA 0 (dEvs k e l).2.1).2.2 (pA 0 (dEvs k e l).2.1).2.1 /\ (dEvs (k + 1) e l).2.1 = evL (pA 0 (dEvs k e l).2.1).2.2 (pA 0 (dEvs k e l).2.1).2.1 /\ ((dEvs (k + 1) e l).2.2 = 0 -> (dEvs (k + 1) e l).1 = (dEvs k e l).1 ++ [dPl 0 (dEvs k e l).2.1]) := by
 rw [dEvs_snoc k e l h, h]
 unfold evE evL pL
 rw [show pB 0 (dEvs k e l).2.1 = xqg 400 (pA 0 (dEvs k e l).2.1).2.2 (pA 0 (dEvs k e l).2.1).2.1 from rfl]
 split
 ·exact ⟨rfl, rfl, fun _ => rfl⟩
 rename_i h1
 exact ⟨rfl, rfl, fun h2 => absurd h2 h1⟩
theorem rgops_any (q r c : Nat) (e : Int) (l : List UInt8) (w : World) (z : Zs w q r c e l) (hc : c < w.heap.size) :
  Calls Try.prog 57 #[.pointer (some ⟨q, 0, none⟩)] w fun en w' => ∃ (lv : Value) (L : List Ox), en = .returned lv /\ Zs w' q r c (gOps e l).2.2 (gOps e l).2.1 /\ OwnK encO w' w.heap.size 67 lv L /\ Kept w w' [q, r] /\ ((gOps e l).2.2 = 0 -> L = (gOps e l).1) := by
 have hlt := z.lt
 obtain ⟨W1, hW1⟩ : ∃ W1, W1 = (w.alloc (.cells #[.pointer (some ⟨q, 0, none⟩)] 86)).alloc (.cells #[.slice none 0 0] 38) := ⟨_, rfl⟩
 have hz : (w.alloc (.cells #[.pointer (some ⟨q, 0, none⟩)] 86)).heap.size = w.heap.size + 1 := by simp
 have hz1 : W1.heap.size = w.heap.size + 2 := by rw [hW1]; simp
 have k1 : Kept w W1 [] := by rw [hW1]; exact ((Kept.refl w []).alloc _).alloc _
 have b1 : W1.heap[w.heap.size + 1]? = some (.cells #[.slice none 0 0] 38 (0, 0)) := by rw [hW1, <- hz]; exact heap_alloc_new _ _
 have b2 : W1.heap[w.heap.size]? = some (.cells #[.pointer (some ⟨q, 0, none⟩)] 86 (0, 0)) := by rw [hW1]; exact ((Kept.refl _ []).alloc _).heap (by simp) (heap_alloc_new w _)
 have z1 : Zs W1 q r c e l := z.kept k1 (by simp) (by simp) (by simp)
 have L1 : Lq encO 38 67 W1 q r c (w.heap.size + 2) w.heap.size (w.heap.size + 1) (.slice none 0 0) [] := ⟨b2, b1, OwnK.nil _ _ _, by omega, by omega⟩
 have c1 := L1.cells
 obtain ⟨c1, c2, _⟩ := c1
 have HM : RowKit.Hid (Calls Try.prog 82 #[.pointer (some ⟨q, 0, none⟩), .func (.func 83) #[] #[.pointer (some ⟨w.heap.size, 0, none⟩), .pointer (some ⟨w.heap.size + 1, 0, none⟩)]] W1 fun en w' => en = .returned (.tuple #[]) /\ ∃ (lv : Value) (L : List Ox), w'.cell? ⟨w.heap.size + 1, 0, none⟩ = some lv /\ Zs w' q r c (gOps e l).2.2 (gOps e l).2.1 /\ OwnK encO w' w.heap.size 67 lv L /\ Kept w w' [q, r] /\ ((gOps e l).2.2 = 0 -> L = (gOps e l).1)) := iH (by
  have h := rmany_any q r c 83 #[.pointer (some ⟨w.heap.size, 0, none⟩), .pointer (some ⟨w.heap.size + 1, 0, none⟩)] e l (fun k => (dOps k (bA e l).2.2 (bA e l).2.1).2.2) (fun k => (dOps k (bA e l).2.2 (bA e l).2.1).2.1)
   (fun k V => ∃ (lv : Value) (xs : List Ox), Zs V q r c (dOps k (bA e l).2.2 (bA e l).2.1).2.2 (dOps k (bA e l).2.2 (bA e l).2.1).2.1 /\ Lq encO 38 67 V q r c (w.heap.size + 2) w.heap.size (w.heap.size + 1) lv xs /\ xs.length = k /\ Kept w V [q, r] /\ ((dOps k (bA e l).2.2 (bA e l).2.1).2.2 = 0 -> xs = (dOps k (bA e l).2.2 (bA e l).2.1).1))
   W1 (fun _ _ => rfl) z1 rfl (fun V zV kV => ⟨_, [], zV, L1.keep kV, rfl, (k1.mono (by simp)).trans kV (fun x hx => .inl hx), fun _ => rfl⟩) (fun k V h => by obtain ⟨_, _, h1, _⟩ := h; exact h1) (fun k V hk hE hI => by
    obtain ⟨lv, xs, zV, lV, hxs, kV, hx⟩ := hI
    have he0 : (bA e l).2.2 = 0 := dOps_zero hE
    have h255 := bA_le e l he0
    have hx0 := hx hE
    rw [hE] at zV
    refine (rop_any q r c _ _ _ lv xs _ V zV lV (by omega)).mono ?_
    rintro en w' ⟨rfl, o, lv', z', l', k', ho⟩
    have hk' : Kept w w' [q, r] := kV.trans k' (by
     intro x hx
     simp only [List.cons_append, List.nil_append, List.mem_cons, Option.mem_toList] at hx
     rcases hx with rfl | rfl | rfl | hx
     ·exact .inl (by simp)
     ·exact .inl (by simp)
     ·exact .inr (by omega)
     ·exact .inr (by have := (lV.own.lt x hx).1; omega))
    have hs := dOps_snoc k _ _ hE
    rw [hE] at hs
    refine ⟨rfl, lv', xs ++ [o], ?_, l', by simp [hxs], hk', fun h1 => ?_⟩
    ·rw [hs]; exact z'
    ·rw [hs] at h1 ⊢
     rw [ho h1, hx0])
  refine h.mono ?_
  rintro en w' ⟨rfl, k, hk, ⟨lv, xs, zV, lV, hxs, kV, hx⟩, hend⟩
  obtain ⟨_, hc2, _⟩ := lV.cells
  refine ⟨rfl, lv, xs, hc2, ?_, lV.own.mono (by omega), kV, ?_⟩
  ·by_cases h0 : (dOps k (bA e l).2.2 (bA e l).2.1).2.2 = 0
   ·have hkn : k = (bA e l).1 := by rcases hend with h | h; exact absurd h0 h; exact h
    unfold gOps
    rw [<- hkn]
    exact zV
   have := dOps_stop k (bA e l).1 _ _ hk h0
   unfold gOps
   rw [this]
   exact zV.any_l h0
  ·intro hg
   unfold gOps at hg ⊢
   by_cases h0 : (dOps k (bA e l).2.2 (bA e l).2.1).2.2 = 0
   ·have hkn : k = (bA e l).1 := by rcases hend with h | h; exact absurd h0 h; exact h
    rw [hx h0, hkn]
   have := dOps_stop k (bA e l).1 _ _ hk h0
   rw [this] at hg
   exact absurd hg h0)
 clear L1 z1 b1 b2 k1 hz1 z hlt hc hz
 go_enter Try.func57, Try.ntmps57
 go_upto_region 2 with fail
 rw [<- hW1]
 clear hW1
 go_wp2_with fail
 refine HM.out.mono ?_
 rintro en w2 ⟨rfl, lv, L, c3, z2, o2, k2, h2⟩
 obtain ⟨ua, uc, hlv⟩ := o2.shape
 have Z2 := iH z2; have O2 := iH o2; have K2 := iH k2; have H2 := iH h2
 clear z2 o2 k2 h2 c1 c2
 subst hlv
 go_wp2
 go_ret
 exact ⟨_, L, rfl, Z2.out, O2.out, K2.out, H2.out⟩
theorem rgevs_any (q r c : Nat) (e : Int) (l : List UInt8) (w : World) (z : Zs w q r c e l) (hc : c < w.heap.size) :
  Calls Try.prog 58 #[.pointer (some ⟨q, 0, none⟩)] w fun en w' => ∃ (lv : Value) (L : List Px), en = .returned lv /\ Zs w' q r c (gEvs e l).2.2 (gEvs e l).2.1 /\ OwnK encP w' w.heap.size 71 lv L /\ Kept w w' [q, r] /\ ((gEvs e l).2.2 = 0 -> L = (gEvs e l).1) := by
 have hlt := z.lt
 obtain ⟨W1, hW1⟩ : ∃ W1, W1 = (w.alloc (.cells #[.pointer (some ⟨q, 0, none⟩)] 86)).alloc (.cells #[.slice none 0 0] 39) := ⟨_, rfl⟩
 have hz : (w.alloc (.cells #[.pointer (some ⟨q, 0, none⟩)] 86)).heap.size = w.heap.size + 1 := by simp
 have hz1 : W1.heap.size = w.heap.size + 2 := by rw [hW1]; simp
 have k1 : Kept w W1 [] := by rw [hW1]; exact ((Kept.refl w []).alloc _).alloc _
 have b1 : W1.heap[w.heap.size + 1]? = some (.cells #[.slice none 0 0] 39 (0, 0)) := by rw [hW1, <- hz]; exact heap_alloc_new _ _
 have b2 : W1.heap[w.heap.size]? = some (.cells #[.pointer (some ⟨q, 0, none⟩)] 86 (0, 0)) := by rw [hW1]; exact ((Kept.refl _ []).alloc _).heap (by simp) (heap_alloc_new w _)
 have z1 : Zs W1 q r c e l := z.kept k1 (by simp) (by simp) (by simp)
 have L1 : Lq encP 39 71 W1 q r c (w.heap.size + 2) w.heap.size (w.heap.size + 1) (.slice none 0 0) [] := ⟨b2, b1, OwnK.nil _ _ _, by omega, by omega⟩
 have c1 := L1.cells
 obtain ⟨c1, c2, _⟩ := c1
 have HM : RowKit.Hid (Calls Try.prog 82 #[.pointer (some ⟨q, 0, none⟩), .func (.func 84) #[] #[.pointer (some ⟨w.heap.size, 0, none⟩), .pointer (some ⟨w.heap.size + 1, 0, none⟩)]] W1 fun en w' => en = .returned (.tuple #[]) /\ ∃ (lv : Value) (L : List Px), w'.cell? ⟨w.heap.size + 1, 0, none⟩ = some lv /\ Zs w' q r c (gEvs e l).2.2 (gEvs e l).2.1 /\ OwnK encP w' w.heap.size 71 lv L /\ Kept w w' [q, r] /\ ((gEvs e l).2.2 = 0 -> L = (gEvs e l).1)) := iH (by
  have h := rmany_any q r c 84 #[.pointer (some ⟨w.heap.size, 0, none⟩), .pointer (some ⟨w.heap.size + 1, 0, none⟩)] e l (fun k => (dEvs k (bA e l).2.2 (bA e l).2.1).2.2) (fun k => (dEvs k (bA e l).2.2 (bA e l).2.1).2.1)
   (fun k V => ∃ (lv : Value) (xs : List Px), Zs V q r c (dEvs k (bA e l).2.2 (bA e l).2.1).2.2 (dEvs k (bA e l).2.2 (bA e l).2.1).2.1 /\ Lq encP 39 71 V q r c (w.heap.size + 2) w.heap.size (w.heap.size + 1) lv xs /\ xs.length = k /\ Kept w V [q, r] /\ ((dEvs k (bA e l).2.2 (bA e l).2.1).2.2 = 0 -> xs = (dEvs k (bA e l).2.2 (bA e l).2.1).1))
   W1 (fun _ _ => rfl) z1 rfl (fun V zV kV => ⟨_, [], zV, L1.keep kV, rfl, (k1.mono (by simp)).trans kV (fun x hx => .inl hx), fun _ => rfl⟩) (fun k V h => by obtain ⟨_, _, h1, _⟩ := h; exact h1) (fun k V hk hE hI => by
    obtain ⟨lv, xs, zV, lV, hxs, kV, hx⟩ := hI
    have he0 : (bA e l).2.2 = 0 := dEvs_zero hE
    have h255 := bA_le e l he0
    have hx0 := hx hE
    rw [hE] at zV
    refine (rpl_any q r c _ _ _ lv xs _ V zV lV (by omega)).mono ?_
    rintro en w' ⟨rfl, o, lv', z', l', k', ho⟩
    have hk' : Kept w w' [q, r] := kV.trans k' (by
     intro x hx
     simp only [List.cons_append, List.nil_append, List.mem_cons, Option.mem_toList] at hx
     rcases hx with rfl | rfl | rfl | hx
     ·exact .inl (by simp)
     ·exact .inl (by simp)
     ·exact .inr (by omega)
     ·exact .inr (by have := (lV.own.lt x hx).1; omega))
    obtain ⟨hs1, hs2, hs3⟩ := dEvs_step hE
    refine ⟨rfl, lv', xs ++ [o], ?_, l', by simp [hxs], hk', fun h1 => ?_⟩
    ·rw [hs1, hs2]; exact z'
    ·rw [hs3 h1]
     rw [hs1] at h1
     rw [ho h1, hx0])
  refine h.mono ?_
  rintro en w' ⟨rfl, k, hk, ⟨lv, xs, zV, lV, hxs, kV, hx⟩, hend⟩
  obtain ⟨_, hc2, _⟩ := lV.cells
  refine ⟨rfl, lv, xs, hc2, ?_, lV.own.mono (by omega), kV, ?_⟩
  ·by_cases h0 : (dEvs k (bA e l).2.2 (bA e l).2.1).2.2 = 0
   ·have hkn : k = (bA e l).1 := by rcases hend with h | h; exact absurd h0 h; exact h
    unfold gEvs
    rw [<- hkn]
    exact zV
   have := dEvs_stop k (bA e l).1 _ _ hk h0
   unfold gEvs
   rw [this]
   exact zV.any_l h0
  ·intro hg
   unfold gEvs at hg ⊢
   by_cases h0 : (dEvs k (bA e l).2.2 (bA e l).2.1).2.2 = 0
   ·have hkn : k = (bA e l).1 := by rcases hend with h | h; exact absurd h0 h; exact h
    rw [hx h0, hkn]
   have := dEvs_stop k (bA e l).1 _ _ hk h0
   rw [this] at hg
   exact absurd hg h0)
 clear L1 z1 b1 b2 k1 hz1 z hlt hc hz
 go_enter Try.func58, Try.ntmps58
 go_upto_region 2 with fail
 rw [<- hW1]
 clear hW1
 go_wp2_with fail
 refine HM.out.mono ?_
 rintro en w2 ⟨rfl, lv, L, c3, z2, o2, k2, h2⟩
 obtain ⟨ua, uc, hlv⟩ := o2.shape
 have Z2 := iH z2; have O2 := iH o2; have K2 := iH k2; have H2 := iH h2
 clear z2 o2 k2 h2 c1 c2
 subst hlv
 go_wp2
 go_ret
 exact ⟨_, L, rfl, Z2.out, O2.out, K2.out, H2.out⟩
theorem ownsRow_mono {w : World} {B B' e size n : Nat} {v : Value} {xs : List Value} (h : w.ownsRow B e size v n xs) (hb : B' <= B) : w.ownsRow B' e size v n xs := by
 refine ⟨h.1, ?_⟩
 rcases h.2 with h2 | ⟨g, cap, cur, rfl, hbg, r⟩
 ·exact .inl h2
 exact .inr ⟨g, cap, cur, rfl, by omega, r⟩
theorem Lt.set0 {w : World} {q r c B br bl : Nat} {tn tm ta lv : Value} {xs : List Int} {e : Int} {l : List UInt8} (h : Lt w q r c B br bl tn tm ta lv xs) (z : Zs w q r c e l) (u : Value) :
  Lt (w.setCell ⟨bl, 0, none⟩ u) q r c B br bl u tm ta lv xs /\ Zs (w.setCell ⟨bl, 0, none⟩ u) q r c e l /\ Kept w (w.setCell ⟨bl, 0, none⟩ u) [bl] := by
 have h1 := h.lo
 have k2 : Kept w (w.setCell ⟨bl, 0, none⟩ u) [bl] := (Kept.refl w [bl]).setCell (.inl (by simp)) _
 exact ⟨⟨k2.heap (by simp; omega) h.bb, by simpa using xqa h.bo 0 u, xqj h.own k2 (fun b hb => by have := (World.ownsRow.lt h.own b hb).1; simp; omega), h.lo, Nat.le_trans h.sz k2.size⟩, z.kept k2 (by simp; omega) (by simp; omega) (by simp; omega), k2⟩
theorem Lt.set1 {w : World} {q r c B br bl : Nat} {tn tm ta lv : Value} {xs : List Int} {e : Int} {l : List UInt8} (h : Lt w q r c B br bl tn tm ta lv xs) (z : Zs w q r c e l) (u : Value) :
  Lt (w.setCell ⟨bl, 1, none⟩ u) q r c B br bl tn u ta lv xs /\ Zs (w.setCell ⟨bl, 1, none⟩ u) q r c e l /\ Kept w (w.setCell ⟨bl, 1, none⟩ u) [bl] := by
 have h1 := h.lo
 have k2 : Kept w (w.setCell ⟨bl, 1, none⟩ u) [bl] := (Kept.refl w [bl]).setCell (.inl (by simp)) _
 exact ⟨⟨k2.heap (by simp; omega) h.bb, by simpa using xqa h.bo 1 u, xqj h.own k2 (fun b hb => by have := (World.ownsRow.lt h.own b hb).1; simp; omega), h.lo, Nat.le_trans h.sz k2.size⟩, z.kept k2 (by simp; omega) (by simp; omega) (by simp; omega), k2⟩
theorem Lt.set3 {w : World} {q r c B br bl : Nat} {tn tm ta lv : Value} {xs : List Int} {e : Int} {l : List UInt8} (h : Lt w q r c B br bl tn tm ta lv xs) (z : Zs w q r c e l) (u : Value) :
  Lt (w.setCell ⟨bl, 3, none⟩ u) q r c B br bl tn tm u lv xs /\ Zs (w.setCell ⟨bl, 3, none⟩ u) q r c e l /\ Kept w (w.setCell ⟨bl, 3, none⟩ u) [bl] := by
 have h1 := h.lo
 have k2 : Kept w (w.setCell ⟨bl, 3, none⟩ u) [bl] := (Kept.refl w [bl]).setCell (.inl (by simp)) _
 exact ⟨⟨k2.heap (by simp; omega) h.bb, by simpa using xqa h.bo 3 u, xqj h.own k2 (fun b hb => by have := (World.ownsRow.lt h.own b hb).1; simp; omega), h.lo, Nat.le_trans h.sz k2.size⟩, z.kept k2 (by simp; omega) (by simp; omega) (by simp; omega), k2⟩
theorem rgtick_any (q r c : Nat) (l : List UInt8) (w : World) (z : Zs w q r c 0 l) (hc : c < w.heap.size) :
  Calls Try.prog 60 #[.pointer (some ⟨q, 0, none⟩)] w fun en w' => ∃ (lv : Value) (tn tm ta : Int) (L : List Int), en = .returned (.agg #[.int .i64 tn, .int .i64 tm, lv, .int .i64 ta]) /\ Zs w' q r c (ft4 l).2.2 (ft4 l).2.1 /\ w'.ownsRow w.heap.size 2 1 lv L.length (ic L) /\ Kept w w' [q, r] /\ ((ft4 l).2.2 = 0 -> tn = ((ft1 l).1 : Nat) /\ tm = ((ft2 l).1 : Nat) /\ L = (ft3 l).1 /\ ta = (ft4 l).1) := by
 have hlt := z.lt
 obtain ⟨W0, hW0⟩ : ∃ W0, W0 = w.alloc (.cells #[.pointer (some ⟨q, 0, none⟩)] 86) := ⟨_, rfl⟩
 obtain ⟨V0, hV0⟩ : ∃ V0, V0 = W0.alloc (.cells #[.int .i64 0, .int .i64 0, .slice none 0 0, .int .i64 0] 33) := ⟨_, rfl⟩
 obtain ⟨W1, hW1⟩ : ∃ W1, W1 = V0.alloc (.cells #[.int .i64 0, .int .i64 0, .slice none 0 0, .int .i64 0] 33) := ⟨_, rfl⟩
 have hz0 : W0.heap.size = w.heap.size + 1 := by rw [hW0]; simp
 have hz1 : V0.heap.size = w.heap.size + 2 := by rw [hV0]; simp [hz0]
 have hz2 : W1.heap.size = w.heap.size + 3 := by rw [hW1]; simp [hz1]
 have kA : Kept w W0 [] := by rw [hW0]; exact (Kept.refl w []).alloc _
 have kB : Kept W0 V0 [] := by rw [hV0]; exact (Kept.refl W0 []).alloc _
 have kC : Kept V0 W1 [] := by rw [hW1]; exact (Kept.refl V0 []).alloc _
 have k1 : Kept w W1 [] := (kA.trans kB (by simp)).trans kC (by simp)
 have b0 : W1.heap[w.heap.size]? = some (.cells #[.pointer (some ⟨q, 0, none⟩)] 86 (0, 0)) := (kB.trans kC (by simp)).heap (by simp) (by rw [hW0]; exact heap_alloc_new w _)
 have b1 : W1.heap[w.heap.size + 1]? = some (.cells #[.int .i64 0, .int .i64 0, .slice none 0 0, .int .i64 0] 33 (0, 0)) := kC.heap (by simp) (by rw [hV0, <- hz0]; exact heap_alloc_new W0 _)
 have b2 : W1.heap[w.heap.size + 2]? = some (.cells #[.int .i64 0, .int .i64 0, .slice none 0 0, .int .i64 0] 33 (0, 0)) := by rw [hW1, <- hz1]; exact heap_alloc_new V0 _
 have Z1 := iH (z.kept k1 (by simp) (by simp) (by simp))
 have L1 : RowKit.Hid (Lt W1 q r c (w.heap.size + 3) w.heap.size (w.heap.size + 2) (.int .i64 0) (.int .i64 0) (.int .i64 0) (.slice none 0 0) []) := iH ⟨b0, b2, World.ownsRow_nil _ _ _ _, by omega, by omega⟩
 have HM : RowKit.Hid (∀ (V : World) (tn tm : Int), Zs V q r c (ft2 l).2.2 (ft2 l).2.1 -> Lt V q r c (w.heap.size + 3) w.heap.size (w.heap.size + 2) (.int .i64 tn) (.int .i64 tm) (.int .i64 0) (.slice none 0 0) [] -> Kept W1 V [q, r, w.heap.size + 2] -> Calls Try.prog 82 #[.pointer (some ⟨q, 0, none⟩), .func (.func 87) #[] #[.pointer (some ⟨w.heap.size + 2, 0, none⟩), .pointer (some ⟨w.heap.size, 0, none⟩)]] V fun en w' => en = .returned (.tuple #[]) /\ ∃ (lv : Value) (L : List Int), Zs w' q r c (ft3 l).2.2 (ft3 l).2.1 /\ Lt w' q r c (w.heap.size + 3) w.heap.size (w.heap.size + 2) (.int .i64 tn) (.int .i64 tm) (.int .i64 0) lv L /\ Kept W1 w' [q, r, w.heap.size + 2] /\ ((ft3 l).2.2 = 0 -> L = (ft3 l).1)) := iH (fun V tn tm zV lV kV => by
  obtain ⟨e, he⟩ : ∃ e, e = (ft2 l).2.2 := ⟨_, rfl⟩
  obtain ⟨l', hl'⟩ : ∃ l', l' = (ft2 l).2.1 := ⟨_, rfl⟩
  unfold ft3
  rw [<- he, <- hl'] at zV ⊢
  have h := rmany_any q r c 87 #[.pointer (some ⟨w.heap.size + 2, 0, none⟩), .pointer (some ⟨w.heap.size, 0, none⟩)] e l' (fun k => (xqs k (bA e l').2.2 (bA e l').2.1).2.2) (fun k => (xqs k (bA e l').2.2 (bA e l').2.1).2.1)
   (fun k V => ∃ (lv : Value) (xs : List Int), Zs V q r c (xqs k (bA e l').2.2 (bA e l').2.1).2.2 (xqs k (bA e l').2.2 (bA e l').2.1).2.1 /\ Lt V q r c (w.heap.size + 3) w.heap.size (w.heap.size + 2) (.int .i64 tn) (.int .i64 tm) (.int .i64 0) lv xs /\ xs.length = k /\ Kept W1 V [q, r, w.heap.size + 2] /\ ((xqs k (bA e l').2.2 (bA e l').2.1).2.2 = 0 -> xs = (xqs k (bA e l').2.2 (bA e l').2.1).1))
   V (fun _ _ => rfl) zV rfl (fun V2 zV2 kV2 => ⟨_, [], zV2, lV.keep kV2, rfl, kV.trans kV2 (fun x hx => .inl (by simp at hx ⊢; omega)), fun _ => rfl⟩) (fun k V h => by obtain ⟨_, _, h1, _⟩ := h; exact h1) (fun k V hk hE hI => by
    obtain ⟨lv, xs, zV, lV, hxs, kV, hx⟩ := hI
    have he0 : (bA e l').2.2 = 0 := dOpen_zero hE
    have h255 := bA_le e l' he0
    have hx0 := hx hE
    rw [hE] at zV
    refine (rnum1_any q r c _ _ _ _ _ _ lv xs _ V zV lV (by omega)).mono ?_
    rintro en w' ⟨rfl, o, lv', z', l', k', ho⟩
    have hk' : Kept W1 w' [q, r, w.heap.size + 2] := kV.trans k' (by
     intro x hx
     simp only [List.cons_append, List.nil_append, List.mem_cons, Option.mem_toList] at hx
     rcases hx with rfl | rfl | rfl | hx
     ·exact .inl (by simp)
     ·exact .inl (by simp)
     ·exact .inl (by simp)
     ·exact .inr (by have := (World.ownsRow.lt lV.own x hx).1; omega))
    have hs := dOpen_snoc k _ _ hE
    rw [hE] at hs
    refine ⟨rfl, lv', xs ++ [o], ?_, l', by simp [hxs], hk', fun h1 => ?_⟩
    ·rw [hs]; exact z'
    ·rw [hs] at h1 ⊢
     rw [ho h1, hx0])
  refine h.mono ?_
  rintro en w' ⟨rfl, k, hk, ⟨lv, xs, zV, lV, hxs, kV, hx⟩, hend⟩
  refine ⟨rfl, lv, xs, ?_, lV, kV, ?_⟩
  ·by_cases h0 : (xqs k (bA e l').2.2 (bA e l').2.1).2.2 = 0
   ·have hkn : k = (bA e l').1 := by rcases hend with h | h; exact absurd h0 h; exact h
    unfold gOpen
    rw [<- hkn]
    exact zV
   have := dOpen_stop k (bA e l').1 _ _ hk h0
   unfold gOpen
   rw [this]
   exact zV.any_l h0
  ·intro hg
   unfold gOpen at hg ⊢
   by_cases h0 : (xqs k (bA e l').2.2 (bA e l').2.1).2.2 = 0
   ·have hkn : k = (bA e l').1 := by rcases hend with h | h; exact absurd h0 h; exact h
    rw [hx h0, hkn]
   have := dOpen_stop k (bA e l').1 _ _ hk h0
   rw [this] at hg
   exact absurd hg h0)
 have B1 := iH b1; have KW := iH k1; have LQ := iH hlt; have HC := iH hc; have HZ := iH hz2
 have c0 := cell_of_row W1 _ 0 _ _ _ b0
 simp at c0
 subst hV0 hW0
 clear z hlt hc hz0 hz1 hz2 kA kB kC k1 b0 b1 b2
 go_enter Try.func60, Try.ntmps60
 go_upto_region 2 with fail
 rw [<- hW1]
 clear hW1
 refine wp_region_held_drew (S := fun Z => Z.cell? ⟨w.heap.size, 0, none⟩ = some (.pointer (some ⟨q, 0, none⟩))) (by kernel_rfl) (by simpa using c0) (fun hJ => ?_)
 clear c0
 refine wx 0 4 (.pointer (some ⟨q, 0, none⟩)) rfl hJ ?_
 refine wx 2 6 (.pointer (some ⟨q, 0, none⟩)) rfl hJ ?_
 refine wr1 1 rfl (fun K hK => ?_)
 go_simp
 go_at_call 56
 refine (xqH q r c 0 l _ (Z1.out.kept (Kept.refl W1 []).drew (by simp) (by simp) (by simp))).mono ?_
 rintro en w2 ⟨a1, rfl, g, k, ha⟩
 have L2 := iH (L1.out.keep ((Kept.refl W1 [q, r]).drew.trans k (fun x hx => .inl hx))); have Z2 := iH g; have H1 := iH ha; have K2 := iH ((Kept.refl W1 [q, r]).drew.trans k (fun x hx => .inl hx))
 clear g k ha
 have p2 := cell_of_row w2 _ 0 _ _ _ L2.out.bb
 simp at p2
 refine hK.out _ _ p2 (fun hJ => ?_)
 clear hK K
 refine wx 4 8 (.pointer (some ⟨w.heap.size + 2, 0, none⟩)) rfl hJ ?_
 refine wr1 3 rfl (fun K hK => ?_)
 go_simp
 go_at_call 56
 refine (xqH q r c _ _ _ Z2.out).mono ?_
 rintro en w3 ⟨a2, rfl, g, k, ha⟩
 have L3 := iH (L2.out.keep k); have Z3 := iH g; have H2 := iH ha; have K3 := iH (K2.out.trans k (fun x hx => .inl hx))
 clear g k ha p2
 have p3 := cell_of_row w3 _ 0 _ _ _ L3.out.bb
 simp at p3
 refine hK.out _ _ p3 (fun hJ => ?_)
 clear hK K
 refine wr1 5 rfl (fun K hK => ?_)
 have d3 := cell_of_row w3 _ 0 _ _ _ L3.out.bo; have f3 := frozen_of_row w3 (w.heap.size + 2) 0 _ _ L3.out.bo
 simp at d3
 go_simp
 obtain ⟨l4, z4, k4⟩ := L3.out.set0 Z3.out (.int .i64 a1)
 have L4 := iH l4; have Z4 := iH z4; have K4 := iH ((K3.out.mono (cs := [q, r, w.heap.size + 2]) (by intro x hx; simp at hx ⊢; omega)).trans k4 (by intro x hx; left; simp at hx ⊢; omega))
 clear l4 z4 k4 d3 f3 p3
 have p4 := cell_of_row _ _ 0 _ _ _ L4.out.bb
 simp at p4
 refine hK.out _ _ p4 (fun hJ => ?_)
 clear hK K
 refine wx 6 9 (.pointer (some ⟨w.heap.size + 2, 1, none⟩)) rfl hJ ?_
 refine wx 7 10 (.pointer (some ⟨w.heap.size + 2, 1, none⟩)) rfl hJ ?_
 refine wr1 8 rfl (fun K hK => ?_)
 have d3 := cell_of_row _ _ 1 _ _ _ L4.out.bo; have f3 := frozen_of_row _ (w.heap.size + 2) 1 _ _ L4.out.bo
 simp at d3
 go_simp
 obtain ⟨l5, z5, k5⟩ := L4.out.set1 Z4.out (.int .i64 a2)
 have L5 := iH l5; have Z5 := iH z5; have K5 := iH (K4.out.trans k5 (by intro x hx; left; simp at hx ⊢; omega))
 clear l5 z5 k5 d3 f3 p4
 have p5 := cell_of_row _ _ 0 _ _ _ L5.out.bb
 simp at p5
 refine hK.out _ _ p5 (fun hJ => ?_)
 clear hK K
 refine wd ?_
 clear hJ
 obtain ⟨W5, hW5⟩ : ∃ W5, W5 = (w3.setCell ⟨w.heap.size + 2, 0, none⟩ (.int .i64 a1)).setCell ⟨w.heap.size + 2, 1, none⟩ (.int .i64 a2) := ⟨_, rfl⟩
 rw [<- hW5] at L5 Z5 K5 p5 ⊢
 clear hW5
 go_wp2_with fail
 refine (HM.out W5 a1 a2 Z5.out L5.out K5.out).mono ?_
 rintro en w6 ⟨rfl, lv, L, z6, l6, k6, h6⟩
 obtain ⟨ua, uc, hlv, _⟩ := xqM l6.own
 subst hlv
 have pc := cell_of_row w6 _ 0 _ _ _ l6.bb
 simp at pc
 have pr := z6.cell
 have HI := iH (zint_any q r c _ _ w6 z6)
 have L6 := iH l6; have K6 := iH k6; have H6 := iH h6
 clear z6 l6 k6 h6 p5
 go_wp2_with fail
 refine HI.out.mono ?_
 rintro en w7 ⟨a4, rfl, g, k, ha⟩
 have l7 := L6.out.keep k
 have H7 := iH ha
 have d3 := cell_of_row w7 _ 3 _ _ _ l7.bo; have f3 := frozen_of_row w7 (w.heap.size + 2) 3 _ _ l7.bo
 simp at d3
 obtain ⟨l8, z8, k8⟩ := l7.set3 g (.int .i64 a4)
 have L8 := iH l8; have Z8 := iH z8
 have K8 := iH ((K6.out.trans k (fun x hx => .inl (by simp at hx ⊢; omega))).trans k8 (by intro x hx; left; simp at hx ⊢; omega))
 clear g k ha l7 l8 z8 k8 pc pr
 go_upto_region 5 with fail
 obtain ⟨W8, hW8⟩ : ∃ W8, W8 = w7.setCell ⟨w.heap.size + 2, 3, none⟩ (.int .i64 a4) := ⟨_, rfl⟩
 rw [<- hW8] at L8 Z8 K8 ⊢
 clear hW8 d3 f3
 have m0 := cell_of_row W8 _ 0 _ _ _ L8.out.bo; have m1 := cell_of_row W8 _ 1 _ _ _ L8.out.bo; have m2 := cell_of_row W8 _ 2 _ _ _ L8.out.bo; have m3 := cell_of_row W8 _ 3 _ _ _ L8.out.bo
 have b8 := K8.out.heap (by have := LQ.out; have := HC.out; simp; omega) B1.out
 have n0 := cell_of_row W8 _ 0 _ _ _ b8; have n1 := cell_of_row W8 _ 1 _ _ _ b8; have n2 := cell_of_row W8 _ 2 _ _ _ b8; have n3 := cell_of_row W8 _ 3 _ _ _ b8
 have f0 := frozen_of_row W8 (w.heap.size + 1) 0 _ _ b8; have f1 := frozen_of_row W8 (w.heap.size + 1) 1 _ _ b8; have f2 := frozen_of_row W8 (w.heap.size + 1) 2 _ _ b8; have f3 := frozen_of_row W8 (w.heap.size + 1) 3 _ _ b8
 simp at m0 m1 m2 m3 n0 n1 n2 n3
 have B8 := iH b8
 clear b8
 go_wp2
 have g0 := xqa B8.out 0 (.int .i64 a1)
 have g1 := xqa g0 1 (.int .i64 a2)
 have g2 := xqa g1 2 (.slice ua L.length uc)
 have g3 := xqa g2 3 (.int .i64 a4)
 simp only [List.setIfInBounds_toArray, List.set_cons_zero, List.set_cons_succ] at g3
 have y0 := cell_of_row _ _ 0 _ _ _ g3; have y1 := cell_of_row _ _ 1 _ _ _ g3; have y2 := cell_of_row _ _ 2 _ _ _ g3; have y3 := cell_of_row _ _ 3 _ _ _ g3
 simp at y0 y1 y2 y3
 have kF : Kept W8 ((((W8.setCell ⟨w.heap.size + 1, 0, none⟩ (.int .i64 a1)).setCell ⟨w.heap.size + 1, 1, none⟩ (.int .i64 a2)).setCell ⟨w.heap.size + 1, 2, none⟩ (.slice ua L.length uc)).setCell ⟨w.heap.size + 1, 3, none⟩ (.int .i64 a4)) [w.heap.size + 1] := ((((Kept.refl W8 [w.heap.size + 1]).setCell (.inl (by simp)) _).setCell (.inl (by simp)) _).setCell (.inl (by simp)) _).setCell (.inl (by simp)) _
 refine bodyPost_ret (v := .agg #[.int .i64 a1, .int .i64 a2, .slice ua L.length uc, .int .i64 a4]) (by simp [results, Try.results60, go_sem, y0, y1, y2, y3]) rfl ?_
 have hq := LQ.out; have hc := HC.out
 refine ⟨_, a1, a2, a4, L, rfl, Z8.out.kept kF (by simp; omega) (by simp; omega) (by simp; omega), ?_, ?_, fun h0 => ?_⟩
 ·have := xqj L8.out.own kF (fun b hb => by have := (World.ownsRow.lt L8.out.own b hb).1; simp; omega)
  exact ownsRow_mono this (by omega)
 ·have h1 := (KW.out.mono (cs := [q, r]) (by simp)).trans K8.out (by intro x hx; simp at hx; rcases hx with rfl | rfl | rfl; exact .inl (by simp); exact .inl (by simp); exact .inr (by omega))
  exact h1.trans kF (by intro x hx; simp at hx; exact .inr (by omega))
 ·have h3 : (ft3 l).2.2 = 0 := stay_I h0
  have h2 : (ft2 l).2.2 = 0 := by
   unfold ft3 gOpen at h3
   exact xq4 (dOpen_zero h3)
  have h1 : (ft1 l).2.2 = 0 := xq4 h2
  exact ⟨H1.out h1, H2.out h2, H6.out h3, H7.out h0⟩
end Go.Proofs.Ytjdbmlifekghfaa
