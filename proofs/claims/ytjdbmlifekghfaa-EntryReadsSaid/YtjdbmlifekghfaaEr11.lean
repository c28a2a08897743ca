/-
  Eqj, Eqm, Eoa in one text.
-/
import Derived.Test.YtjdbmlifekghfaaEr7
import Derived.Test.YtjdbmlifekghfaaEr8
import Derived.Test.YtjdbmlifekghfaaEr9
import Derived.Test.YtjdbmlifekghfaaEr10
import Derived.Test.YtjdbmlifekghfaaEr5
import Derived.LoopTactic
namespace Go.Proofs.Ytjdbmlifekghfaa
set_option linter.unusedVariables false
open Go.RowKit

set_option maxHeartbeats 8000000 in
set_option maxRecDepth 100000 in
theorem es_ne10 (ak : Int) (atx : Int) (anx : Int) (aid : Int) (aops : List Ox) (aevs : List Px) (atn : Int) (atm : Int) (aop : List Int) (ata : Int) (anm : ByteArray) (an : Int) (aat : Int) (aoa : Option Addr) (aea : Option Addr) (aia : Option Addr) (aoc : Nat) (aec : Nat) (aic : Nat) (bops : List Ox) (bevs : List Px) (btm : Int) (bop : List Int) (bn : Int) (bat : Int) (boa : Option Addr) (bea : Option Addr) (bia : Option Addr) (boc : Nat) (bec : Nat) (bic : Nat) (w : World) (ra : RdN w (⟨ak, atx, anx, aid, aops, aevs, atn, atm, aop, ata, anm, an, aat⟩ : En) (.slice aoa aops.length aoc) (.slice aea aevs.length aec) (.slice aia aop.length aic)) (rb : RdN w (⟨ak, atx, anx, aid, bops, bevs, atn, btm, bop, ata, anm, bn, bat⟩ : En) (.slice boa bops.length boc) (.slice bea bevs.length bec) (.slice bia bop.length bic)) (fa : aops.length ≤ 1000000 ∧ aevs.length ≤ 1000000) (fb : bops.length ≤ 1000000 ∧ bevs.length ≤ 1000000) (hHO : aops = bops) (hHP : aevs = bevs) (hHS : atm = btm ∧ aop = bop) (hd : an ≠ bn) :
    Calls Try.prog 18 #[.agg #[.int .u8 ak, .int .i64 atx, .int .i64 anx, .int .i64 aid, .slice aoa aops.length aoc, .slice aea aevs.length aec, .int .i64 atn, .int .i64 atm, .slice aia aop.length aic, .int .i64 ata, .string anm, .int .i64 an, .int .i64 aat], .agg #[.int .u8 ak, .int .i64 atx, .int .i64 anx, .int .i64 aid, .slice boa bops.length boc, .slice bea bevs.length bec, .int .i64 atn, .int .i64 btm, .slice bia bop.length bic, .int .i64 ata, .string anm, .int .i64 bn, .int .i64 bat]] w fun e w' => e = .returned (.bool false) ∧ Kept w w' [] := by
  obtain ⟨W1, hW1⟩ : ∃ W1, W1 = (w.alloc (.cells #[.int .u8 ak, .int .i64 atx, .int .i64 anx, .int .i64 aid, .slice aoa aops.length aoc, .slice aea aevs.length aec, .int .i64 atn, .int .i64 atm, .slice aia aop.length aic, .int .i64 ata, .string anm, .int .i64 an, .int .i64 aat] 41)).alloc (.cells #[.int .u8 ak, .int .i64 atx, .int .i64 anx, .int .i64 aid, .slice boa bops.length boc, .slice bea bevs.length bec, .int .i64 atn, .int .i64 btm, .slice bia bop.length bic, .int .i64 ata, .string anm, .int .i64 bn, .int .i64 bat] 41) := ⟨_, rfl⟩
  have hz : (w.alloc (.cells #[.int .u8 ak, .int .i64 atx, .int .i64 anx, .int .i64 aid, .slice aoa aops.length aoc, .slice aea aevs.length aec, .int .i64 atn, .int .i64 atm, .slice aia aop.length aic, .int .i64 ata, .string anm, .int .i64 an, .int .i64 aat] 41)).heap.size = w.heap.size + 1 := by simp
  have k1 : Kept w W1 [] := by rw [hW1]; exact ((Kept.refl w []).alloc _).alloc _
  have b1 : W1.heap[w.heap.size + 1]? = some (.cells #[.int .u8 ak, .int .i64 atx, .int .i64 anx, .int .i64 aid, .slice boa bops.length boc, .slice bea bevs.length bec, .int .i64 atn, .int .i64 btm, .slice bia bop.length bic, .int .i64 ata, .string anm, .int .i64 bn, .int .i64 bat] 41 (0, 0)) := by rw [hW1, ← hz]; exact heap_alloc_new _ _
  have b2 : W1.heap[w.heap.size]? = some (.cells #[.int .u8 ak, .int .i64 atx, .int .i64 anx, .int .i64 aid, .slice aoa aops.length aoc, .slice aea aevs.length aec, .int .i64 atn, .int .i64 atm, .slice aia aop.length aic, .int .i64 ata, .string anm, .int .i64 an, .int .i64 aat] 41 (0, 0)) := by rw [hW1]; exact ((Kept.refl _ []).alloc _).heap (by simp) (heap_alloc_new w _)
  have HO : RowKit.Hid (∀ V, Kept W1 V [] → Calls Try.prog 44 #[.slice aoa aops.length aoc, .slice boa bops.length boc] V fun e w' => EqP (aops = bops) V e w') := Lib.hid (fun V hV => eqo_any _ _ _ _ V (ra.ro.keep (k1.trans hV (by simp))) (rb.ro.keep (k1.trans hV (by simp))) fa.1 fb.1)
  have HP : RowKit.Hid (∀ V, Kept W1 V [] → Calls Try.prog 45 #[.slice aea aevs.length aec, .slice bea bevs.length bec] V fun e w' => EqP (aevs = bevs) V e w') := Lib.hid (fun V hV => eqp_any _ _ _ _ V (ra.re.keep (k1.trans hV (by simp))) (rb.re.keep (k1.trans hV (by simp))) fa.2 fb.2)
  have HS : RowKit.Hid (∀ V, Kept W1 V [] → Calls Try.prog 46 #[.agg #[.int .i64 atm, .slice aia aop.length aic], .agg #[.int .i64 btm, .slice bia bop.length bic]] V fun e w' => EqP (atm = btm ∧ aop = bop) V e w') := Lib.hid (fun V hV => (same_any atm btm _ _ aop bop V (ra.ri.keep (k1.trans hV (by simp))) (rb.ri.keep (k1.trans hV (by simp)))).mono (by
    rintro e w' ⟨rfl, k⟩
    exact ⟨_, rfl, by simp [sameB], k⟩))
  have CS : RowKit.Hid (∀ V, Kept W1 V [] → ∀ j, V.cell? ⟨w.heap.size, j, none⟩ = (#[.int .u8 ak, .int .i64 atx, .int .i64 anx, .int .i64 aid, .slice aoa aops.length aoc, .slice aea aevs.length aec, .int .i64 atn, .int .i64 atm, .slice aia aop.length aic, .int .i64 ata, .string anm, .int .i64 an, .int .i64 aat] : Array Value)[j]? ∧ V.cell? ⟨w.heap.size + 1, j, none⟩ = (#[.int .u8 ak, .int .i64 atx, .int .i64 anx, .int .i64 aid, .slice boa bops.length boc, .slice bea bevs.length bec, .int .i64 atn, .int .i64 btm, .slice bia bop.length bic, .int .i64 ata, .string anm, .int .i64 bn, .int .i64 bat] : Array Value)[j]?) := Lib.hid (fun V hV j => ⟨cell_of_row V _ j _ _ _ (hV.heap (by simp) b2), cell_of_row V _ j _ _ _ (hV.heap (by simp) b1)⟩)
  have K1 := Lib.hid k1
  clear ra rb fa fb k1 b1 b2 hz
  have x0 : (an == bn) = false := beq_eq_false_iff_ne.2 hd
  clear hd
  have YHO := Lib.hid hHO
  clear hHO
  have YHP := Lib.hid hHP
  clear hHP
  have YHS := Lib.hid hHS
  clear hHS
  go_enter Try.func18, Try.ntmps18
  go_wp2_with fail
  rw [← hW1]
  clear hW1
  refine (EqP.ye (w := W1) (HO.out W1 (Kept.refl W1 [])) YHO.out).mono ?_
  rintro en w2 ⟨rfl, k1⟩
  obtain ⟨pa5, pb5⟩ := CS.out w2 ((Kept.refl W1 []).trans k1 (by simp)) 5
  simp only [List.getElem?_toArray, List.getElem?_cons_zero, List.getElem?_cons_succ] at pa5 pb5
  go_wp2_with fail
  refine (EqP.ye (w := W1) (HP.out w2 ((Kept.refl W1 []).trans k1 (by simp))) YHP.out).mono ?_
  rintro en w3 ⟨rfl, k2⟩
  clear pa5 pb5
  obtain ⟨pa6, pb6⟩ := CS.out w3 (((Kept.refl W1 []).trans k1 (by simp)).trans k2 (by simp)) 6
  obtain ⟨pa7, pb7⟩ := CS.out w3 (((Kept.refl W1 []).trans k1 (by simp)).trans k2 (by simp)) 7
  obtain ⟨pa8, pb8⟩ := CS.out w3 (((Kept.refl W1 []).trans k1 (by simp)).trans k2 (by simp)) 8
  simp only [List.getElem?_toArray, List.getElem?_cons_zero, List.getElem?_cons_succ] at pa6 pb6 pa7 pb7 pa8 pb8
  go_wp2_with fail
  refine (EqP.ye (w := W1) (HS.out w3 (((Kept.refl W1 []).trans k1 (by simp)).trans k2 (by simp))) YHS.out).mono ?_
  rintro en w4 ⟨rfl, k3⟩
  clear pa6 pb6 pa7 pb7 pa8 pb8
  obtain ⟨pa9, pb9⟩ := CS.out w4 ((((Kept.refl W1 []).trans k1 (by simp)).trans k2 (by simp)).trans k3 (by simp)) 9
  obtain ⟨pa10, pb10⟩ := CS.out w4 ((((Kept.refl W1 []).trans k1 (by simp)).trans k2 (by simp)).trans k3 (by simp)) 10
  obtain ⟨pa11, pb11⟩ := CS.out w4 ((((Kept.refl W1 []).trans k1 (by simp)).trans k2 (by simp)).trans k3 (by simp)) 11
  obtain ⟨pa12, pb12⟩ := CS.out w4 ((((Kept.refl W1 []).trans k1 (by simp)).trans k2 (by simp)).trans k3 (by simp)) 12
  simp only [List.getElem?_toArray, List.getElem?_cons_zero, List.getElem?_cons_succ] at pa9 pb9 pa10 pb10 pa11 pb11 pa12 pb12
  go_wp2
  go_ret
  exact ⟨rfl, K1.out.trans ((((Kept.refl W1 []).trans k1 (by simp)).trans k2 (by simp)).trans k3 (by simp)) (by simp)⟩

set_option maxHeartbeats 8000000 in
set_option maxRecDepth 100000 in
theorem es_ne11 (ak : Int) (atx : Int) (anx : Int) (aid : Int) (aops : List Ox) (aevs : List Px) (atn : Int) (atm : Int) (aop : List Int) (ata : Int) (anm : ByteArray) (an : Int) (aat : Int) (aoa : Option Addr) (aea : Option Addr) (aia : Option Addr) (aoc : Nat) (aec : Nat) (aic : Nat) (bops : List Ox) (bevs : List Px) (btm : Int) (bop : List Int) (bat : Int) (boa : Option Addr) (bea : Option Addr) (bia : Option Addr) (boc : Nat) (bec : Nat) (bic : Nat) (w : World) (ra : RdN w (⟨ak, atx, anx, aid, aops, aevs, atn, atm, aop, ata, anm, an, aat⟩ : En) (.slice aoa aops.length aoc) (.slice aea aevs.length aec) (.slice aia aop.length aic)) (rb : RdN w (⟨ak, atx, anx, aid, bops, bevs, atn, btm, bop, ata, anm, an, bat⟩ : En) (.slice boa bops.length boc) (.slice bea bevs.length bec) (.slice bia bop.length bic)) (fa : aops.length ≤ 1000000 ∧ aevs.length ≤ 1000000) (fb : bops.length ≤ 1000000 ∧ bevs.length ≤ 1000000) (hHO : aops = bops) (hHP : aevs = bevs) (hHS : atm = btm ∧ aop = bop) (hd : aat ≠ bat) :
    Calls Try.prog 18 #[.agg #[.int .u8 ak, .int .i64 atx, .int .i64 anx, .int .i64 aid, .slice aoa aops.length aoc, .slice aea aevs.length aec, .int .i64 atn, .int .i64 atm, .slice aia aop.length aic, .int .i64 ata, .string anm, .int .i64 an, .int .i64 aat], .agg #[.int .u8 ak, .int .i64 atx, .int .i64 anx, .int .i64 aid, .slice boa bops.length boc, .slice bea bevs.length bec, .int .i64 atn, .int .i64 btm, .slice bia bop.length bic, .int .i64 ata, .string anm, .int .i64 an, .int .i64 bat]] w fun e w' => e = .returned (.bool false) ∧ Kept w w' [] := by
  obtain ⟨W1, hW1⟩ : ∃ W1, W1 = (w.alloc (.cells #[.int .u8 ak, .int .i64 atx, .int .i64 anx, .int .i64 aid, .slice aoa aops.length aoc, .slice aea aevs.length aec, .int .i64 atn, .int .i64 atm, .slice aia aop.length aic, .int .i64 ata, .string anm, .int .i64 an, .int .i64 aat] 41)).alloc (.cells #[.int .u8 ak, .int .i64 atx, .int .i64 anx, .int .i64 aid, .slice boa bops.length boc, .slice bea bevs.length bec, .int .i64 atn, .int .i64 btm, .slice bia bop.length bic, .int .i64 ata, .string anm, .int .i64 an, .int .i64 bat] 41) := ⟨_, rfl⟩
  have hz : (w.alloc (.cells #[.int .u8 ak, .int .i64 atx, .int .i64 anx, .int .i64 aid, .slice aoa aops.length aoc, .slice aea aevs.length aec, .int .i64 atn, .int .i64 atm, .slice aia aop.length aic, .int .i64 ata, .string anm, .int .i64 an, .int .i64 aat] 41)).heap.size = w.heap.size + 1 := by simp
  have k1 : Kept w W1 [] := by rw [hW1]; exact ((Kept.refl w []).alloc _).alloc _
  have b1 : W1.heap[w.heap.size + 1]? = some (.cells #[.int .u8 ak, .int .i64 atx, .int .i64 anx, .int .i64 aid, .slice boa bops.length boc, .slice bea bevs.length bec, .int .i64 atn, .int .i64 btm, .slice bia bop.length bic, .int .i64 ata, .string anm, .int .i64 an, .int .i64 bat] 41 (0, 0)) := by rw [hW1, ← hz]; exact heap_alloc_new _ _
  have b2 : W1.heap[w.heap.size]? = some (.cells #[.int .u8 ak, .int .i64 atx, .int .i64 anx, .int .i64 aid, .slice aoa aops.length aoc, .slice aea aevs.length aec, .int .i64 atn, .int .i64 atm, .slice aia aop.length aic, .int .i64 ata, .string anm, .int .i64 an, .int .i64 aat] 41 (0, 0)) := by rw [hW1]; exact ((Kept.refl _ []).alloc _).heap (by simp) (heap_alloc_new w _)
  have HO : RowKit.Hid (∀ V, Kept W1 V [] → Calls Try.prog 44 #[.slice aoa aops.length aoc, .slice boa bops.length boc] V fun e w' => EqP (aops = bops) V e w') := Lib.hid (fun V hV => eqo_any _ _ _ _ V (ra.ro.keep (k1.trans hV (by simp))) (rb.ro.keep (k1.trans hV (by simp))) fa.1 fb.1)
  have HP : RowKit.Hid (∀ V, Kept W1 V [] → Calls Try.prog 45 #[.slice aea aevs.length aec, .slice bea bevs.length bec] V fun e w' => EqP (aevs = bevs) V e w') := Lib.hid (fun V hV => eqp_any _ _ _ _ V (ra.re.keep (k1.trans hV (by simp))) (rb.re.keep (k1.trans hV (by simp))) fa.2 fb.2)
  have HS : RowKit.Hid (∀ V, Kept W1 V [] → Calls Try.prog 46 #[.agg #[.int .i64 atm, .slice aia aop.length aic], .agg #[.int .i64 btm, .slice bia bop.length bic]] V fun e w' => EqP (atm = btm ∧ aop = bop) V e w') := Lib.hid (fun V hV => (same_any atm btm _ _ aop bop V (ra.ri.keep (k1.trans hV (by simp))) (rb.ri.keep (k1.trans hV (by simp)))).mono (by
    rintro e w' ⟨rfl, k⟩
    exact ⟨_, rfl, by simp [sameB], k⟩))
  have CS : RowKit.Hid (∀ V, Kept W1 V [] → ∀ j, V.cell? ⟨w.heap.size, j, none⟩ = (#[.int .u8 ak, .int .i64 atx, .int .i64 anx, .int .i64 aid, .slice aoa aops.length aoc, .slice aea aevs.length aec, .int .i64 atn, .int .i64 atm, .slice aia aop.length aic, .int .i64 ata, .string anm, .int .i64 an, .int .i64 aat] : Array Value)[j]? ∧ V.cell? ⟨w.heap.size + 1, j, none⟩ = (#[.int .u8 ak, .int .i64 atx, .int .i64 anx, .int .i64 aid, .slice boa bops.length boc, .slice bea bevs.length bec, .int .i64 atn, .int .i64 btm, .slice bia bop.length bic, .int .i64 ata, .string anm, .int .i64 an, .int .i64 bat] : Array Value)[j]?) := Lib.hid (fun V hV j => ⟨cell_of_row V _ j _ _ _ (hV.heap (by simp) b2), cell_of_row V _ j _ _ _ (hV.heap (by simp) b1)⟩)
  have K1 := Lib.hid k1
  clear ra rb fa fb k1 b1 b2 hz
  have x0 : (aat == bat) = false := beq_eq_false_iff_ne.2 hd
  clear hd
  have YHO := Lib.hid hHO
  clear hHO
  have YHP := Lib.hid hHP
  clear hHP
  have YHS := Lib.hid hHS
  clear hHS
  go_enter Try.func18, Try.ntmps18
  go_wp2_with fail
  rw [← hW1]
  clear hW1
  refine (EqP.ye (w := W1) (HO.out W1 (Kept.refl W1 [])) YHO.out).mono ?_
  rintro en w2 ⟨rfl, k1⟩
  obtain ⟨pa5, pb5⟩ := CS.out w2 ((Kept.refl W1 []).trans k1 (by simp)) 5
  simp only [List.getElem?_toArray, List.getElem?_cons_zero, List.getElem?_cons_succ] at pa5 pb5
  go_wp2_with fail
  refine (EqP.ye (w := W1) (HP.out w2 ((Kept.refl W1 []).trans k1 (by simp))) YHP.out).mono ?_
  rintro en w3 ⟨rfl, k2⟩
  clear pa5 pb5
  obtain ⟨pa6, pb6⟩ := CS.out w3 (((Kept.refl W1 []).trans k1 (by simp)).trans k2 (by simp)) 6
  obtain ⟨pa7, pb7⟩ := CS.out w3 (((Kept.refl W1 []).trans k1 (by simp)).trans k2 (by simp)) 7
  obtain ⟨pa8, pb8⟩ := CS.out w3 (((Kept.refl W1 []).trans k1 (by simp)).trans k2 (by simp)) 8
  simp only [List.getElem?_toArray, List.getElem?_cons_zero, List.getElem?_cons_succ] at pa6 pb6 pa7 pb7 pa8 pb8
  go_wp2_with fail
  refine (EqP.ye (w := W1) (HS.out w3 (((Kept.refl W1 []).trans k1 (by simp)).trans k2 (by simp))) YHS.out).mono ?_
  rintro en w4 ⟨rfl, k3⟩
  clear pa6 pb6 pa7 pb7 pa8 pb8
  obtain ⟨pa9, pb9⟩ := CS.out w4 ((((Kept.refl W1 []).trans k1 (by simp)).trans k2 (by simp)).trans k3 (by simp)) 9
  obtain ⟨pa10, pb10⟩ := CS.out w4 ((((Kept.refl W1 []).trans k1 (by simp)).trans k2 (by simp)).trans k3 (by simp)) 10
  obtain ⟨pa11, pb11⟩ := CS.out w4 ((((Kept.refl W1 []).trans k1 (by simp)).trans k2 (by simp)).trans k3 (by simp)) 11
  obtain ⟨pa12, pb12⟩ := CS.out w4 ((((Kept.refl W1 []).trans k1 (by simp)).trans k2 (by simp)).trans k3 (by simp)) 12
  simp only [List.getElem?_toArray, List.getElem?_cons_zero, List.getElem?_cons_succ] at pa9 pb9 pa10 pb10 pa11 pb11 pa12 pb12
  go_wp2
  go_ret
  exact ⟨rfl, K1.out.trans ((((Kept.refl W1 []).trans k1 (by simp)).trans k2 (by simp)).trans k3 (by simp)) (by simp)⟩

set_option maxHeartbeats 8000000 in
set_option maxRecDepth 100000 in
theorem es_eq (ak : Int) (atx : Int) (anx : Int) (aid : Int) (aops : List Ox) (aevs : List Px) (atn : Int) (atm : Int) (aop : List Int) (ata : Int) (anm : ByteArray) (an : Int) (aat : Int) (aoa : Option Addr) (aea : Option Addr) (aia : Option Addr) (aoc : Nat) (aec : Nat) (aic : Nat) (bops : List Ox) (bevs : List Px) (btm : Int) (bop : List Int) (boa : Option Addr) (bea : Option Addr) (bia : Option Addr) (boc : Nat) (bec : Nat) (bic : Nat) (w : World) (ra : RdN w (⟨ak, atx, anx, aid, aops, aevs, atn, atm, aop, ata, anm, an, aat⟩ : En) (.slice aoa aops.length aoc) (.slice aea aevs.length aec) (.slice aia aop.length aic)) (rb : RdN w (⟨ak, atx, anx, aid, bops, bevs, atn, btm, bop, ata, anm, an, aat⟩ : En) (.slice boa bops.length boc) (.slice bea bevs.length bec) (.slice bia bop.length bic)) (fa : aops.length ≤ 1000000 ∧ aevs.length ≤ 1000000) (fb : bops.length ≤ 1000000 ∧ bevs.length ≤ 1000000) (hHO : aops = bops) (hHP : aevs = bevs) (hHS : atm = btm ∧ aop = bop) :
    Calls Try.prog 18 #[.agg #[.int .u8 ak, .int .i64 atx, .int .i64 anx, .int .i64 aid, .slice aoa aops.length aoc, .slice aea aevs.length aec, .int .i64 atn, .int .i64 atm, .slice aia aop.length aic, .int .i64 ata, .string anm, .int .i64 an, .int .i64 aat], .agg #[.int .u8 ak, .int .i64 atx, .int .i64 anx, .int .i64 aid, .slice boa bops.length boc, .slice bea bevs.length bec, .int .i64 atn, .int .i64 btm, .slice bia bop.length bic, .int .i64 ata, .string anm, .int .i64 an, .int .i64 aat]] w fun e w' => e = .returned (.bool true) ∧ Kept w w' [] := by
  obtain ⟨W1, hW1⟩ : ∃ W1, W1 = (w.alloc (.cells #[.int .u8 ak, .int .i64 atx, .int .i64 anx, .int .i64 aid, .slice aoa aops.length aoc, .slice aea aevs.length aec, .int .i64 atn, .int .i64 atm, .slice aia aop.length aic, .int .i64 ata, .string anm, .int .i64 an, .int .i64 aat] 41)).alloc (.cells #[.int .u8 ak, .int .i64 atx, .int .i64 anx, .int .i64 aid, .slice boa bops.length boc, .slice bea bevs.length bec, .int .i64 atn, .int .i64 btm, .slice bia bop.length bic, .int .i64 ata, .string anm, .int .i64 an, .int .i64 aat] 41) := ⟨_, rfl⟩
  have hz : (w.alloc (.cells #[.int .u8 ak, .int .i64 atx, .int .i64 anx, .int .i64 aid, .slice aoa aops.length aoc, .slice aea aevs.length aec, .int .i64 atn, .int .i64 atm, .slice aia aop.length aic, .int .i64 ata, .string anm, .int .i64 an, .int .i64 aat] 41)).heap.size = w.heap.size + 1 := by simp
  have k1 : Kept w W1 [] := by rw [hW1]; exact ((Kept.refl w []).alloc _).alloc _
  have b1 : W1.heap[w.heap.size + 1]? = some (.cells #[.int .u8 ak, .int .i64 atx, .int .i64 anx, .int .i64 aid, .slice boa bops.length boc, .slice bea bevs.length bec, .int .i64 atn, .int .i64 btm, .slice bia bop.length bic, .int .i64 ata, .string anm, .int .i64 an, .int .i64 aat] 41 (0, 0)) := by rw [hW1, ← hz]; exact heap_alloc_new _ _
  have b2 : W1.heap[w.heap.size]? = some (.cells #[.int .u8 ak, .int .i64 atx, .int .i64 anx, .int .i64 aid, .slice aoa aops.length aoc, .slice aea aevs.length aec, .int .i64 atn, .int .i64 atm, .slice aia aop.length aic, .int .i64 ata, .string anm, .int .i64 an, .int .i64 aat] 41 (0, 0)) := by rw [hW1]; exact ((Kept.refl _ []).alloc _).heap (by simp) (heap_alloc_new w _)
  have HO : RowKit.Hid (∀ V, Kept W1 V [] → Calls Try.prog 44 #[.slice aoa aops.length aoc, .slice boa bops.length boc] V fun e w' => EqP (aops = bops) V e w') := Lib.hid (fun V hV => eqo_any _ _ _ _ V (ra.ro.keep (k1.trans hV (by simp))) (rb.ro.keep (k1.trans hV (by simp))) fa.1 fb.1)
  have HP : RowKit.Hid (∀ V, Kept W1 V [] → Calls Try.prog 45 #[.slice aea aevs.length aec, .slice bea bevs.length bec] V fun e w' => EqP (aevs = bevs) V e w') := Lib.hid (fun V hV => eqp_any _ _ _ _ V (ra.re.keep (k1.trans hV (by simp))) (rb.re.keep (k1.trans hV (by simp))) fa.2 fb.2)
  have HS : RowKit.Hid (∀ V, Kept W1 V [] → Calls Try.prog 46 #[.agg #[.int .i64 atm, .slice aia aop.length aic], .agg #[.int .i64 btm, .slice bia bop.length bic]] V fun e w' => EqP (atm = btm ∧ aop = bop) V e w') := Lib.hid (fun V hV => (same_any atm btm _ _ aop bop V (ra.ri.keep (k1.trans hV (by simp))) (rb.ri.keep (k1.trans hV (by simp)))).mono (by
    rintro e w' ⟨rfl, k⟩
    exact ⟨_, rfl, by simp [sameB], k⟩))
  have CS : RowKit.Hid (∀ V, Kept W1 V [] → ∀ j, V.cell? ⟨w.heap.size, j, none⟩ = (#[.int .u8 ak, .int .i64 atx, .int .i64 anx, .int .i64 aid, .slice aoa aops.length aoc, .slice aea aevs.length aec, .int .i64 atn, .int .i64 atm, .slice aia aop.length aic, .int .i64 ata, .string anm, .int .i64 an, .int .i64 aat] : Array Value)[j]? ∧ V.cell? ⟨w.heap.size + 1, j, none⟩ = (#[.int .u8 ak, .int .i64 atx, .int .i64 anx, .int .i64 aid, .slice boa bops.length boc, .slice bea bevs.length bec, .int .i64 atn, .int .i64 btm, .slice bia bop.length bic, .int .i64 ata, .string anm, .int .i64 an, .int .i64 aat] : Array Value)[j]?) := Lib.hid (fun V hV j => ⟨cell_of_row V _ j _ _ _ (hV.heap (by simp) b2), cell_of_row V _ j _ _ _ (hV.heap (by simp) b1)⟩)
  have K1 := Lib.hid k1
  clear ra rb fa fb k1 b1 b2 hz
  have YHO := Lib.hid hHO
  clear hHO
  have YHP := Lib.hid hHP
  clear hHP
  have YHS := Lib.hid hHS
  clear hHS
  go_enter Try.func18, Try.ntmps18
  go_wp2_with fail
  rw [← hW1]
  clear hW1
  refine (EqP.ye (w := W1) (HO.out W1 (Kept.refl W1 [])) YHO.out).mono ?_
  rintro en w2 ⟨rfl, k1⟩
  obtain ⟨pa5, pb5⟩ := CS.out w2 ((Kept.refl W1 []).trans k1 (by simp)) 5
  simp only [List.getElem?_toArray, List.getElem?_cons_zero, List.getElem?_cons_succ] at pa5 pb5
  go_wp2_with fail
  refine (EqP.ye (w := W1) (HP.out w2 ((Kept.refl W1 []).trans k1 (by simp))) YHP.out).mono ?_
  rintro en w3 ⟨rfl, k2⟩
  clear pa5 pb5
  obtain ⟨pa6, pb6⟩ := CS.out w3 (((Kept.refl W1 []).trans k1 (by simp)).trans k2 (by simp)) 6
  obtain ⟨pa7, pb7⟩ := CS.out w3 (((Kept.refl W1 []).trans k1 (by simp)).trans k2 (by simp)) 7
  obtain ⟨pa8, pb8⟩ := CS.out w3 (((Kept.refl W1 []).trans k1 (by simp)).trans k2 (by simp)) 8
  simp only [List.getElem?_toArray, List.getElem?_cons_zero, List.getElem?_cons_succ] at pa6 pb6 pa7 pb7 pa8 pb8
  go_wp2_with fail
  refine (EqP.ye (w := W1) (HS.out w3 (((Kept.refl W1 []).trans k1 (by simp)).trans k2 (by simp))) YHS.out).mono ?_
  rintro en w4 ⟨rfl, k3⟩
  clear pa6 pb6 pa7 pb7 pa8 pb8
  obtain ⟨pa9, pb9⟩ := CS.out w4 ((((Kept.refl W1 []).trans k1 (by simp)).trans k2 (by simp)).trans k3 (by simp)) 9
  obtain ⟨pa10, pb10⟩ := CS.out w4 ((((Kept.refl W1 []).trans k1 (by simp)).trans k2 (by simp)).trans k3 (by simp)) 10
  obtain ⟨pa11, pb11⟩ := CS.out w4 ((((Kept.refl W1 []).trans k1 (by simp)).trans k2 (by simp)).trans k3 (by simp)) 11
  obtain ⟨pa12, pb12⟩ := CS.out w4 ((((Kept.refl W1 []).trans k1 (by simp)).trans k2 (by simp)).trans k3 (by simp)) 12
  simp only [List.getElem?_toArray, List.getElem?_cons_zero, List.getElem?_cons_succ] at pa9 pb9 pa10 pb10 pa11 pb11 pa12 pb12
  go_wp2
  go_ret
  exact ⟨rfl, K1.out.trans ((((Kept.refl W1 []).trans k1 (by simp)).trans k2 (by simp)).trans k3 (by simp)) (by simp)⟩

end Go.Proofs.Ytjdbmlifekghfaa

namespace Go.Proofs.Ytjdbmlifekghfaa
set_option linter.unusedVariables false
open Go.RowKit

theorem EqP.no {P : Prop} {f : Nat} {args : Array Value} {w : World} (h : Calls Try.prog f args w fun e w' => e = .returned (.bool false) ∧ Kept w w' []) (hp : ¬ P) : Calls Try.prog f args w fun e w' => EqP P w e w' :=
  h.mono (by rintro e w' ⟨rfl, k⟩; exact ⟨false, rfl, by simp [hp], k⟩)
theorem EqP.yes {P : Prop} {f : Nat} {args : Array Value} {w : World} (h : Calls Try.prog f args w fun e w' => e = .returned (.bool true) ∧ Kept w w' []) (hp : P) : Calls Try.prog f args w fun e w' => EqP P w e w' :=
  h.mono (by rintro e w' ⟨rfl, k⟩; exact ⟨true, rfl, by simp [hp], k⟩)
theorem EqP.iff {P Q : Prop} {f : Nat} {args : Array Value} {w : World} (h : Calls Try.prog f args w fun e w' => EqP P w e w') (hp : P ↔ Q) : Calls Try.prog f args w fun e w' => EqP Q w e w' :=
  h.mono (by rintro e w' ⟨r, rfl, hr, k⟩; exact ⟨r, rfl, hr.trans hp, k⟩)

theorem rsame_any (a b : En) (vao vae vai vbo vbe vbi : Value) (w : World) (ra : RdN w a vao vae vai) (rb : RdN w b vbo vbe vbi) (fa : a.ops.length ≤ 1000000 ∧ a.evs.length ≤ 1000000) :
    Calls Try.prog 19 #[.agg (a.cs vao vae vai), .agg (b.cs vbo vbe vbi)] w fun e w' => EqP (a = b) w e w' := by
  obtain ⟨aoa, aoc, rfl⟩ := ra.ro.shape
  obtain ⟨aea, aec, rfl⟩ := ra.re.shape
  obtain ⟨aia, aic, e1, _⟩ := id ra.ri
  subst e1
  obtain ⟨boa, boc, rfl⟩ := rb.ro.shape
  obtain ⟨bea, bec, rfl⟩ := rb.re.shape
  obtain ⟨bia, bic, e2, _⟩ := id rb.ri
  subst e2
  obtain ⟨ak, atx, anx, aid, aops, aevs, atn, atm, aop, ata, anm, an, aat⟩ := a
  obtain ⟨bk, btx, bnx, bid, bops, bevs, btn, btm, bop, bta, bnm, bn, bat⟩ := b
  by_cases hk : ak = bk
  case neg => exact EqP.no (rs_ne0 (ra := ra) (rb := rb) (hd := hk)) (by simp [hk])
  subst hk
  by_cases htx : atx = btx
  case neg => exact EqP.no (rs_ne1 (ra := ra) (rb := rb) (hd := htx)) (by simp [htx])
  subst htx
  by_cases hnx : anx = bnx
  case neg => exact EqP.no (rs_ne2 (ra := ra) (rb := rb) (hd := hnx)) (by simp [hnx])
  subst hnx
  by_cases hid : aid = bid
  case neg => exact EqP.no (rs_ne3 (ra := ra) (rb := rb) (hd := hid)) (by simp [hid])
  subst hid
  by_cases hnm : anm = bnm
  case neg => exact EqP.no (rs_ne4 (ra := ra) (rb := rb) (hd := hnm)) (by simp [hnm])
  subst hnm
  by_cases hn : an = bn
  case neg => exact EqP.no (rs_ne5 (ra := ra) (rb := rb) (hd := hn)) (by simp [hn])
  subst hn
  by_cases hat : aat = bat
  case neg => exact EqP.no (rs_ne6 (ra := ra) (rb := rb) (hd := hat)) (by simp [hat])
  subst hat
  by_cases ht : atn = btn ∧ ata = bta ∧ atm = btm ∧ aop = bop
  case neg => exact EqP.no (rs_ne7 (ra := ra) (rb := rb) (hd := ht)) (fun h => by rw [En.mk.injEq] at h; obtain ⟨_, _, _, _, _, _, q7, q8, q9, q10, _⟩ := h; exact ht ⟨q7, q10, q8, q9⟩)
  by_cases hlo : aops.length = bops.length
  case neg => exact EqP.no (rs_ne8 (ra := ra) (rb := rb) (het := ht) (hd := hlo)) (fun h => by rw [En.mk.injEq] at h; exact hlo (congrArg List.length h.2.2.2.2.1))
  by_cases hle : aevs.length = bevs.length
  case neg => exact EqP.no (rs_ne9 (ra := ra) (rb := rb) (het := ht) (hlo := hlo) (hd := hle)) (fun h => by rw [En.mk.injEq] at h; exact hle (congrArg List.length h.2.2.2.2.2.1))
  exact EqP.iff (rs_eq (ra := ra) (rb := rb) (het := ht) (hlo := hlo) (hle := hle) (hl1 := fa.1) (hl2 := fa.2)) (by obtain ⟨q1, q2, q3, q4⟩ := ht; simp [q1, q2, q3, q4])

theorem esame_any (a b : En) (vao vae vai vbo vbe vbi : Value) (w : World) (ra : RdN w a vao vae vai) (rb : RdN w b vbo vbe vbi) (fa : a.ops.length ≤ 1000000 ∧ a.evs.length ≤ 1000000) (fb : b.ops.length ≤ 1000000 ∧ b.evs.length ≤ 1000000) :
    Calls Try.prog 18 #[.agg (a.cs vao vae vai), .agg (b.cs vbo vbe vbi)] w fun e w' => EqP (a = b) w e w' := by
  obtain ⟨aoa, aoc, rfl⟩ := ra.ro.shape
  obtain ⟨aea, aec, rfl⟩ := ra.re.shape
  obtain ⟨aia, aic, e1, _⟩ := id ra.ri
  subst e1
  obtain ⟨boa, boc, rfl⟩ := rb.ro.shape
  obtain ⟨bea, bec, rfl⟩ := rb.re.shape
  obtain ⟨bia, bic, e2, _⟩ := id rb.ri
  subst e2
  obtain ⟨ak, atx, anx, aid, aops, aevs, atn, atm, aop, ata, anm, an, aat⟩ := a
  obtain ⟨bk, btx, bnx, bid, bops, bevs, btn, btm, bop, bta, bnm, bn, bat⟩ := b
  by_cases hk : ak = bk
  case neg => exact EqP.no (es_ne0 (ra := ra) (rb := rb) (fa := fa) (fb := fb) (hd := hk)) (by simp [hk])
  subst hk
  by_cases htx : atx = btx
  case neg => exact EqP.no (es_ne1 (ra := ra) (rb := rb) (fa := fa) (fb := fb) (hd := htx)) (by simp [htx])
  subst htx
  by_cases hnx : anx = bnx
  case neg => exact EqP.no (es_ne2 (ra := ra) (rb := rb) (fa := fa) (fb := fb) (hd := hnx)) (by simp [hnx])
  subst hnx
  by_cases hid : aid = bid
  case neg => exact EqP.no (es_ne3 (ra := ra) (rb := rb) (fa := fa) (fb := fb) (hd := hid)) (by simp [hid])
  subst hid
  by_cases hHO : aops = bops
  case neg => exact EqP.no (es_ne4 (ra := ra) (rb := rb) (fa := fa) (fb := fb) (hd := hHO)) (by simp [hHO])
  by_cases hHP : aevs = bevs
  case neg => exact EqP.no (es_ne5 (ra := ra) (rb := rb) (fa := fa) (fb := fb) (hHO := hHO) (hd := hHP)) (by simp [hHP])
  by_cases htn : atn = btn
  case neg => exact EqP.no (es_ne6 (ra := ra) (rb := rb) (fa := fa) (fb := fb) (hHO := hHO) (hHP := hHP) (hd := htn)) (by simp [htn])
  subst htn
  by_cases hHS : atm = btm ∧ aop = bop
  case neg => exact EqP.no (es_ne7 (ra := ra) (rb := rb) (fa := fa) (fb := fb) (hHO := hHO) (hHP := hHP) (hd := hHS)) (fun h => by rw [En.mk.injEq] at h; obtain ⟨_, _, _, _, _, _, q7, q8, q9, q10, _⟩ := h; exact hHS ⟨q8, q9⟩)
  by_cases hta : ata = bta
  case neg => exact EqP.no (es_ne8 (ra := ra) (rb := rb) (fa := fa) (fb := fb) (hHO := hHO) (hHP := hHP) (hHS := hHS) (hd := hta)) (by simp [hta])
  subst hta
  by_cases hnm : anm = bnm
  case neg => exact EqP.no (es_ne9 (ra := ra) (rb := rb) (fa := fa) (fb := fb) (hHO := hHO) (hHP := hHP) (hHS := hHS) (hd := hnm)) (by simp [hnm])
  subst hnm
  by_cases hn : an = bn
  case neg => exact EqP.no (es_ne10 (ra := ra) (rb := rb) (fa := fa) (fb := fb) (hHO := hHO) (hHP := hHP) (hHS := hHS) (hd := hn)) (by simp [hn])
  subst hn
  by_cases hat : aat = bat
  case neg => exact EqP.no (es_ne11 (ra := ra) (rb := rb) (fa := fa) (fb := fb) (hHO := hHO) (hHP := hHP) (hHS := hHS) (hd := hat)) (by simp [hat])
  subst hat
  exact EqP.yes (es_eq (ra := ra) (rb := rb) (fa := fa) (fb := fb) (hHO := hHO) (hHP := hHP) (hHS := hHS)) (by obtain ⟨q1, q2⟩ := hHS; simp [hHO, hHP, q1, q2])
end Go.Proofs.Ytjdbmlifekghfaa

namespace Go.Proofs.Ytjdbmlifekghfaa
set_option linter.unusedVariables false
open Go.RowKit

abbrev wB : Bx := ⟨83, [.bool false], by decide⟩

theorem Wr.bad {w : World} {B p : Nat} {v : Value} {l : List UInt8} (h : Wr wB w B p v l) : w.cell? ⟨p, 1, none⟩ = some (.bool false) ∧ w.frozen? ⟨p, 1, none⟩ = false :=
  ⟨by simpa using cell_of_row w p 1 (v :: wB.r).toArray _ _ h.1, frozen_of_row w p 1 _ _ h.1⟩

theorem Wr.mark {w : World} {B p : Nat} {v : Value} {l : List UInt8} (h : Wr wB w B p v l) : Wr wB (w.setCell ⟨p, 1, none⟩ (.bool false)) B p v l ∧ Wtp w (w.setCell ⟨p, 1, none⟩ (.bool false)) [p] v v := by
  have hk : Kept w (w.setCell ⟨p, 1, none⟩ (.bool false)) [p] := (Kept.refl w [p]).setCell (.inl (by simp)) _
  refine ⟨⟨by simpa using heap_setCell_at h.1 1 (.bool false), h.2.kept hk (fun b hb => by simpa using h.2.apart h.1 wB.ne b hb)⟩, ⟨hk.mono (fun x hx => List.mem_append.2 (.inl hx)), .inl rfl⟩⟩

theorem Wr.size {R : Bx} {w : World} {B p : Nat} {v : Value} {l : List UInt8} (h : Wr R w B p v l) : p < w.heap.size := (Array.getElem?_eq_some_iff.1 h.1).1

set_option maxHeartbeats 400000 in
set_option maxRecDepth 100000 in
theorem must_any (B p : Nat) (v : Value) (l : List UInt8) (w : World) (hw : Wr wB w B p v l) :
    Calls Try.prog 71 #[.pointer (some ⟨p, 0, none⟩), .bool true] w fun e w' => e = .returned (.tuple #[]) ∧ Wr wB w' B p v l ∧ Wtp w w' [p] v v := by
  obtain ⟨c1, f1⟩ := hw.bad
  have H := Lib.hid hw.mark; clear hw
  go_enter Try.func71, Try.ntmps71
  go_wp2
  go_end0
  exact ⟨rfl, H.out⟩

set_option maxHeartbeats 400000 in
set_option maxRecDepth 100000 in
theorem flag_any (g : Bool) (w : World) :
    Calls Try.prog 75 #[.bool g] w fun e w' => e = .returned (.int .i64 (flag g : Nat)) ∧ w' = w := by
  cases g
  · go_enter Try.func75, Try.ntmps75
    go_wp2
    go_ret
    exact ⟨rfl, rfl⟩
  · go_enter Try.func75, Try.ntmps75
    go_wp2
    go_ret
    exact ⟨rfl, rfl⟩

theorem Wtp.rdI {w w' : World} {p : Nat} {v v' sv : Value} {xs : List Int} (s : Wtp w w' [p] v v') (h : RdI w sv xs) (hb : ∀ b, sv.ownBlock = some b → b ≠ p ∧ v.ownBlock ≠ some b) : RdI w' sv xs :=
  h.kept s.1 (fun b hb' hm => by
    obtain ⟨h1, h2⟩ := hb b hb'
    rcases List.mem_append.1 hm with h | h
    · exact h1 (by simpa using h)
    · exact h2 (by simpa using h))

set_option maxHeartbeats 1000000 in
set_option maxRecDepth 100000 in
theorem nums_any (B p : Nat) (v : Value) (l : List UInt8) (sv : Value) (xs : List Int) (w : World) (hw : Wr wB w B p v l) (hB : B ≤ w.heap.size) (hs : RdI w sv xs) (hx : ∀ x ∈ xs, whole x) (hn : xs.length ≤ 10) (hb : ∀ b, sv.ownBlock = some b → b ≠ p ∧ v.ownBlock ≠ some b) (hl : l.length ≤ 1000000000) :
    Calls Try.prog 49 #[.pointer (some ⟨p, 0, none⟩), sv] w fun e w' => e = .returned (.tuple #[]) ∧ ∃ v', Wr wB w' B p v' (l ++ manyL wholeL xs) ∧ Wtp w w' [p] v v' := by
  have HS := Lib.hid hs; have HB := Lib.hid hb; have HX := Lib.hid hx; have HW := Lib.hid hw
  obtain ⟨a, c, rfl, hc, hm, ha, hcell⟩ := hs
  have HC := Lib.hid hcell
  clear hb hx hw hcell ha hm hc
  go_enter Try.func49, Try.ntmps49
  go_wp2
  go_loopw [5, 8] (fun _ t wr => ∃ (k : Nat) (v' : Value), t = .int .i64 k ∧ k ≤ xs.length ∧ Wr wB wr B p v' (l ++ manyL wholeL (xs.take k)) ∧ Wtp w wr [p] v v') (fun _ t _ => xs.length - (intOf t).toNat)
  case atStart => exact ⟨0, v, rfl, Nat.zero_le _, by simpa [manyL] using HW.out, Wtp.refl _ _ _⟩
  case round =>
    obtain ⟨k, v1, rfl, hk, hw1, hs1⟩ := hrel
    have W1 := Lib.hid hw1; have S1 := Lib.hid hs1
    clear hw1 hs1
    by_cases hlt : k < xs.length
    · obtain ⟨x, hxk⟩ : ∃ x, x = xs[k] := ⟨_, rfl⟩
      have hwx : whole x := HX.out x (by rw [hxk]; exact List.getElem_mem hlt)
      obtain ⟨n, rfl⟩ := Int.eq_ofNat_of_zero_le hwx.1
      obtain ⟨a', c', e1, _, _, _, hla⟩ := S1.out.rdI HS.out HB.out
      simp only [Value.slice.injEq, true_and] at e1
      obtain ⟨rfl, rfl⟩ := e1
      obtain ⟨sb, so, rfl, hcell⟩ := hla (by rintro rfl; simp at hlt)
      have c1 := hcell k hlt
      have hg : xs.getD k 0 = (n : Int) := by rw [List.getD, List.getElem?_eq_getElem hlt]; exact hxk.symm
      rw [hg] at c1
      have hbr : B ≤ wr.heap.size := Nat.le_trans hB S1.out.1.size
      have hn2 : n ≤ 9223372036854775807 := by have := hwx.2; omega
      have e0 : decide ((0 : Int) ≤ (n : Int)) = true := by simp
      have e3 : IntKind.u64.wrap (n : Int) = n := by rw [IntKind.wrap_u64]; omega
      have hlen : (l ++ manyL wholeL (xs.take k)).length ≤ 1099511627776 := by
        have := manyL_len wholeL 10 (xs.take k) (fun y hy => numL_ten (by have := (HX.out y (List.mem_of_mem_take hy)).2; omega))
        rw [List.length_append]; rw [List.length_take] at this; omega
      have hT : l ++ manyL wholeL (xs.take (k + 1)) = l ++ manyL wholeL (xs.take k) ++ numL n := by
        rw [List.take_succ_eq_append_getElem hlt, manyL_snoc, ← hxk, List.append_assoc]; rfl
      have HT := Lib.hid hT
      have x1 : (k : Int) < (xs.length : Int) := by omega
      have HN := Lib.hid hn2; have HL := Lib.hid hlen; have HBR := Lib.hid hbr
      clear hcell hla hxk hwx hg hT hlen hbr hn2
      go_wp2_with fail
      refine (must_any B p v1 _ wr W1.out).mono ?_
      rintro e w2 ⟨rfl, g2, s2⟩
      have G2 := Lib.hid g2; have S2 := Lib.hid s2
      clear g2 s2 c1
      go_wp2_with fail
      refine (num_any B p v1 _ n w2 G2.out (Nat.le_trans HBR.out S2.out.1.size) (by have := HN.out; omega) HL.out).mono ?_
      rintro e w3 ⟨rfl, v3, g3, s3⟩
      have G3 := Lib.hid g3; have S3 := Lib.hid ((S1.out.trans S2.out).trans s3)
      clear g3 s3
      go_wp2
      go_roundw
      case rel => exact ⟨k + 1, v3, by go_num, by omega, by rw [HT.out]; exact G3.out, S3.out⟩
      case measure => simp [intOf]; omega
    · have x1 : ¬ (k : Int) < (xs.length : Int) := by omega
      have ek : xs.take k = xs := List.take_of_length_le (by omega)
      go_wp2
      go_end0
      have := W1.out
      rw [ek] at this
      exact ⟨rfl, v1, this, S1.out⟩

set_option maxHeartbeats 400000 in
set_option maxRecDepth 100000 in
theorem etext_any (B p : Nat) (v : Value) (l : List UInt8) (s : ByteArray) (w : World) (hw : Wr wB w B p v l) (hB : B ≤ w.heap.size) (hs : s.size ≤ 40) (hl : l.length ≤ 1000000000) :
    Calls Try.prog 54 #[.pointer (some ⟨p, 0, none⟩), .string s] w fun e w' => e = .returned (.tuple #[]) ∧ ∃ v', Wr wB w' B p v' (l ++ textL s.data.toList) ∧ Wtp w w' [p] v v' := by
  have HW := Lib.hid hw; clear hw
  have e0 : decide ((s.size : Int) ≤ 40) = true := by simp; omega
  go_enter Try.func54, Try.ntmps54
  go_wp2_with fail
  refine (must_any B p v _ w HW.out).mono ?_
  rintro e w2 ⟨rfl, g2, s2⟩
  have G2 := Lib.hid g2; have S2 := Lib.hid s2
  clear g2 s2
  go_wp2_with fail
  refine (text_any B p v _ s w2 G2.out (Nat.le_trans hB S2.out.1.size) (by omega) (by omega)).mono ?_
  rintro e w3 ⟨rfl, v3, g3, s3⟩
  have G3 := Lib.hid g3; have S3 := Lib.hid (S2.out.trans s3)
  clear g3 s3
  go_wp2
  go_end0
  exact ⟨rfl, v3, G3.out, S3.out⟩

end Go.Proofs.Ytjdbmlifekghfaa
