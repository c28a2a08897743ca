/-
  Eqj, Eqm, Eof in one text.
-/
import Derived.Test.YtjdbmlifekghfaaEt0
import Derived.Test.YtjdbmlifekghfaaEt22
import Derived.Test.YtjdbmlifekghfaaEt23
import Derived.Test.YtjdbmlifekghfaaEt24
import Derived.Test.YtjdbmlifekghfaaEt25
import Derived.Test.YtjdbmlifekghfaaEt26
import Derived.Test.YtjdbmlifekghfaaEt18
set_option linter.unusedVariables false
set_option maxHeartbeats 16000000
set_option maxRecDepth 100000
namespace Go.Proofs.Ytjdbmlifekghfaa
open Go.RowKit
theorem es_ne10 (ak : Int) (atx : Int) (anx : Int) (aid : Int) (aops : List Ox) (aevs : List Px) (atn : Int) (atm : Int) (aop : List Int) (ata : Int) (anm : ByteArray) (an : Int) (aat : Int) (aoa : Option Addr) (aea : Option Addr) (aia : Option Addr) (aoc : Nat) (aec : Nat) (aic : Nat) (bops : List Ox) (bevs : List Px) (btm : Int) (bop : List Int) (bn : Int) (bat : Int) (boa : Option Addr) (bea : Option Addr) (bia : Option Addr) (boc : Nat) (bec : Nat) (bic : Nat) (w : World) (ra : RdN w (⟨ak, atx, anx, aid, aops, aevs, atn, atm, aop, ata, anm, an, aat⟩ : En) (.slice aoa aops.length aoc) (.slice aea aevs.length aec) (.slice aia aop.length aic)) (rb : RdN w (⟨ak, atx, anx, aid, bops, bevs, atn, btm, bop, ata, anm, bn, bat⟩ : En) (.slice boa bops.length boc) (.slice bea bevs.length bec) (.slice bia bop.length bic)) (fa : aops.length <= 1000000 /\ aevs.length <= 1000000) (fb : bops.length <= 1000000 /\ bevs.length <= 1000000) (hHO : aops = bops) (hHP : aevs = bevs) (hHS : atm = btm /\ aop = bop) (hd : an ≠ bn) :
  Calls Try.prog 18 #[.agg #[.int .u8 ak, .int .i64 atx, .int .i64 anx, .int .i64 aid, .slice aoa aops.length aoc, .slice aea aevs.length aec, .int .i64 atn, .int .i64 atm, .slice aia aop.length aic, .int .i64 ata, .string anm, .int .i64 an, .int .i64 aat], .agg #[.int .u8 ak, .int .i64 atx, .int .i64 anx, .int .i64 aid, .slice boa bops.length boc, .slice bea bevs.length bec, .int .i64 atn, .int .i64 btm, .slice bia bop.length bic, .int .i64 ata, .string anm, .int .i64 bn, .int .i64 bat]] w fun e w' => e = .returned (.bool false) /\ Kept w w' [] := by
 obtain ⟨W1, hW1⟩ : ∃ W1, W1 = (w.alloc (.cells #[.int .u8 ak, .int .i64 atx, .int .i64 anx, .int .i64 aid, .slice aoa aops.length aoc, .slice aea aevs.length aec, .int .i64 atn, .int .i64 atm, .slice aia aop.length aic, .int .i64 ata, .string anm, .int .i64 an, .int .i64 aat] 41)).alloc (.cells #[.int .u8 ak, .int .i64 atx, .int .i64 anx, .int .i64 aid, .slice boa bops.length boc, .slice bea bevs.length bec, .int .i64 atn, .int .i64 btm, .slice bia bop.length bic, .int .i64 ata, .string anm, .int .i64 bn, .int .i64 bat] 41) := ⟨_, rfl⟩
 have hz : (w.alloc (.cells #[.int .u8 ak, .int .i64 atx, .int .i64 anx, .int .i64 aid, .slice aoa aops.length aoc, .slice aea aevs.length aec, .int .i64 atn, .int .i64 atm, .slice aia aop.length aic, .int .i64 ata, .string anm, .int .i64 an, .int .i64 aat] 41)).heap.size = w.heap.size + 1 := by simp
 have k1 : Kept w W1 [] := by rw [hW1]; exact ((Kept.refl w []).alloc _).alloc _
 have b1 : W1.heap[w.heap.size + 1]? = some (.cells #[.int .u8 ak, .int .i64 atx, .int .i64 anx, .int .i64 aid, .slice boa bops.length boc, .slice bea bevs.length bec, .int .i64 atn, .int .i64 btm, .slice bia bop.length bic, .int .i64 ata, .string anm, .int .i64 bn, .int .i64 bat] 41 (0, 0)) := by rw [hW1, <- hz]; exact heap_alloc_new _ _
 have b2 : W1.heap[w.heap.size]? = some (.cells #[.int .u8 ak, .int .i64 atx, .int .i64 anx, .int .i64 aid, .slice aoa aops.length aoc, .slice aea aevs.length aec, .int .i64 atn, .int .i64 atm, .slice aia aop.length aic, .int .i64 ata, .string anm, .int .i64 an, .int .i64 aat] 41 (0, 0)) := by rw [hW1]; exact ((Kept.refl _ []).alloc _).heap (by simp) (heap_alloc_new w _)
 have HO : RowKit.Hid (∀ V, Kept W1 V [] -> Calls Try.prog 44 #[.slice aoa aops.length aoc, .slice boa bops.length boc] V fun e w' => EqP (aops = bops) V e w') := iH (fun V hV => xqS _ _ _ _ V (ra.ro.keep (k1.trans hV (by simp))) (rb.ro.keep (k1.trans hV (by simp))) fa.1 fb.1)
 have HP : RowKit.Hid (∀ V, Kept W1 V [] -> Calls Try.prog 45 #[.slice aea aevs.length aec, .slice bea bevs.length bec] V fun e w' => EqP (aevs = bevs) V e w') := iH (fun V hV => xqR _ _ _ _ V (ra.re.keep (k1.trans hV (by simp))) (rb.re.keep (k1.trans hV (by simp))) fa.2 fb.2)
 have HS : RowKit.Hid (∀ V, Kept W1 V [] -> Calls Try.prog 46 #[.agg #[.int .i64 atm, .slice aia aop.length aic], .agg #[.int .i64 btm, .slice bia bop.length bic]] V fun e w' => EqP (atm = btm /\ aop = bop) V e w') := iH (fun V hV => (xqJ atm btm _ _ aop bop V (ra.ri.keep (k1.trans hV (by simp))) (rb.ri.keep (k1.trans hV (by simp)))).mono (by
  rintro e w' ⟨rfl, k⟩
  exact ⟨_, rfl, by simp [sameB], k⟩))
 have CS : RowKit.Hid (∀ V, Kept W1 V [] -> ∀ j, V.cell? ⟨w.heap.size, j, none⟩ = (#[.int .u8 ak, .int .i64 atx, .int .i64 anx, .int .i64 aid, .slice aoa aops.length aoc, .slice aea aevs.length aec, .int .i64 atn, .int .i64 atm, .slice aia aop.length aic, .int .i64 ata, .string anm, .int .i64 an, .int .i64 aat] : Array Value)[j]? /\ V.cell? ⟨w.heap.size + 1, j, none⟩ = (#[.int .u8 ak, .int .i64 atx, .int .i64 anx, .int .i64 aid, .slice boa bops.length boc, .slice bea bevs.length bec, .int .i64 atn, .int .i64 btm, .slice bia bop.length bic, .int .i64 ata, .string anm, .int .i64 bn, .int .i64 bat] : Array Value)[j]?) := iH (fun V hV j => ⟨cell_of_row V _ j _ _ _ (hV.heap (by simp) b2), cell_of_row V _ j _ _ _ (hV.heap (by simp) b1)⟩)
 have K1 := iH k1
 clear ra rb fa fb k1 b1 b2 hz
 have x0 : (an == bn) = false := beq_eq_false_iff_ne.2 hd
 clear hd
 have YHO := iH hHO
 clear hHO
 have YHP := iH hHP
 clear hHP
 have YHS := iH hHS
 clear hHS
 go_enter Try.func18, Try.ntmps18
 go_wp2_with fail
 rw [<- hW1]
 clear hW1
 refine (EqP.ye (w := W1) (HO.out W1 (Kept.refl W1 [])) YHO.out).mono ?_
 rintro en w2 ⟨rfl, k1⟩
 obtain ⟨pa5, pb5⟩ := CS.out w2 ((Kept.refl W1 []).trans k1 (by simp)) 5
 simp only [List.getElem?_toArray, List.getElem?_cons_zero, List.getElem?_cons_succ] at pa5 pb5
 go_wp2_with fail
 refine (EqP.ye (w := W1) (HP.out w2 ((Kept.refl W1 []).trans k1 (by simp))) YHP.out).mono ?_
 rintro en w3 ⟨rfl, k2⟩
 clear pa5 pb5
 obtain ⟨pa6, pb6⟩ := CS.out w3 (((Kept.refl W1 []).trans k1 (by simp)).trans k2 (by simp)) 6
 obtain ⟨pa7, pb7⟩ := CS.out w3 (((Kept.refl W1 []).trans k1 (by simp)).trans k2 (by simp)) 7
 obtain ⟨pa8, pb8⟩ := CS.out w3 (((Kept.refl W1 []).trans k1 (by simp)).trans k2 (by simp)) 8
 simp only [List.getElem?_toArray, List.getElem?_cons_zero, List.getElem?_cons_succ] at pa6 pb6 pa7 pb7 pa8 pb8
 go_wp2_with fail
 refine (EqP.ye (w := W1) (HS.out w3 (((Kept.refl W1 []).trans k1 (by simp)).trans k2 (by simp))) YHS.out).mono ?_
 rintro en w4 ⟨rfl, k3⟩
 clear pa6 pb6 pa7 pb7 pa8 pb8
 obtain ⟨pa9, pb9⟩ := CS.out w4 ((((Kept.refl W1 []).trans k1 (by simp)).trans k2 (by simp)).trans k3 (by simp)) 9
 obtain ⟨pa10, pb10⟩ := CS.out w4 ((((Kept.refl W1 []).trans k1 (by simp)).trans k2 (by simp)).trans k3 (by simp)) 10
 obtain ⟨pa11, pb11⟩ := CS.out w4 ((((Kept.refl W1 []).trans k1 (by simp)).trans k2 (by simp)).trans k3 (by simp)) 11
 obtain ⟨pa12, pb12⟩ := CS.out w4 ((((Kept.refl W1 []).trans k1 (by simp)).trans k2 (by simp)).trans k3 (by simp)) 12
 simp only [List.getElem?_toArray, List.getElem?_cons_zero, List.getElem?_cons_succ] at pa9 pb9 pa10 pb10 pa11 pb11 pa12 pb12
 go_wp2
 go_ret
 exact ⟨rfl, K1.out.trans ((((Kept.refl W1 []).trans k1 (by simp)).trans k2 (by simp)).trans k3 (by simp)) (by simp)⟩
theorem es_ne11 (ak : Int) (atx : Int) (anx : Int) (aid : Int) (aops : List Ox) (aevs : List Px) (atn : Int) (atm : Int) (aop : List Int) (ata : Int) (anm : ByteArray) (an : Int) (aat : Int) (aoa : Option Addr) (aea : Option Addr) (aia : Option Addr) (aoc : Nat) (aec : Nat) (aic : Nat) (bops : List Ox) (bevs : List Px) (btm : Int) (bop : List Int) (bat : Int) (boa : Option Addr) (bea : Option Addr) (bia : Option Addr) (boc : Nat) (bec : Nat) (bic : Nat) (w : World) (ra : RdN w (⟨ak, atx, anx, aid, aops, aevs, atn, atm, aop, ata, anm, an, aat⟩ : En) (.slice aoa aops.length aoc) (.slice aea aevs.length aec) (.slice aia aop.length aic)) (rb : RdN w (⟨ak, atx, anx, aid, bops, bevs, atn, btm, bop, ata, anm, an, bat⟩ : En) (.slice boa bops.length boc) (.slice bea bevs.length bec) (.slice bia bop.length bic)) (fa : aops.length <= 1000000 /\ aevs.length <= 1000000) (fb : bops.length <= 1000000 /\ bevs.length <= 1000000) (hHO : aops = bops) (hHP : aevs = bevs) (hHS : atm = btm /\ aop = bop) (hd : aat ≠ bat) :
  Calls Try.prog 18 #[.agg #[.int .u8 ak, .int .i64 atx, .int .i64 anx, .int .i64 aid, .slice aoa aops.length aoc, .slice aea aevs.length aec, .int .i64 atn, .int .i64 atm, .slice aia aop.length aic, .int .i64 ata, .string anm, .int .i64 an, .int .i64 aat], .agg #[.int .u8 ak, .int .i64 atx, .int .i64 anx, .int .i64 aid, .slice boa bops.length boc, .slice bea bevs.length bec, .int .i64 atn, .int .i64 btm, .slice bia bop.length bic, .int .i64 ata, .string anm, .int .i64 an, .int .i64 bat]] w fun e w' => e = .returned (.bool false) /\ Kept w w' [] := by
 obtain ⟨W1, hW1⟩ : ∃ W1, W1 = (w.alloc (.cells #[.int .u8 ak, .int .i64 atx, .int .i64 anx, .int .i64 aid, .slice aoa aops.length aoc, .slice aea aevs.length aec, .int .i64 atn, .int .i64 atm, .slice aia aop.length aic, .int .i64 ata, .string anm, .int .i64 an, .int .i64 aat] 41)).alloc (.cells #[.int .u8 ak, .int .i64 atx, .int .i64 anx, .int .i64 aid, .slice boa bops.length boc, .slice bea bevs.length bec, .int .i64 atn, .int .i64 btm, .slice bia bop.length bic, .int .i64 ata, .string anm, .int .i64 an, .int .i64 bat] 41) := ⟨_, rfl⟩
 have hz : (w.alloc (.cells #[.int .u8 ak, .int .i64 atx, .int .i64 anx, .int .i64 aid, .slice aoa aops.length aoc, .slice aea aevs.length aec, .int .i64 atn, .int .i64 atm, .slice aia aop.length aic, .int .i64 ata, .string anm, .int .i64 an, .int .i64 aat] 41)).heap.size = w.heap.size + 1 := by simp
 have k1 : Kept w W1 [] := by rw [hW1]; exact ((Kept.refl w []).alloc _).alloc _
 have b1 : W1.heap[w.heap.size + 1]? = some (.cells #[.int .u8 ak, .int .i64 atx, .int .i64 anx, .int .i64 aid, .slice boa bops.length boc, .slice bea bevs.length bec, .int .i64 atn, .int .i64 btm, .slice bia bop.length bic, .int .i64 ata, .string anm, .int .i64 an, .int .i64 bat] 41 (0, 0)) := by rw [hW1, <- hz]; exact heap_alloc_new _ _
 have b2 : W1.heap[w.heap.size]? = some (.cells #[.int .u8 ak, .int .i64 atx, .int .i64 anx, .int .i64 aid, .slice aoa aops.length aoc, .slice aea aevs.length aec, .int .i64 atn, .int .i64 atm, .slice aia aop.length aic, .int .i64 ata, .string anm, .int .i64 an, .int .i64 aat] 41 (0, 0)) := by rw [hW1]; exact ((Kept.refl _ []).alloc _).heap (by simp) (heap_alloc_new w _)
 have HO : RowKit.Hid (∀ V, Kept W1 V [] -> Calls Try.prog 44 #[.slice aoa aops.length aoc, .slice boa bops.length boc] V fun e w' => EqP (aops = bops) V e w') := iH (fun V hV => xqS _ _ _ _ V (ra.ro.keep (k1.trans hV (by simp))) (rb.ro.keep (k1.trans hV (by simp))) fa.1 fb.1)
 have HP : RowKit.Hid (∀ V, Kept W1 V [] -> Calls Try.prog 45 #[.slice aea aevs.length aec, .slice bea bevs.length bec] V fun e w' => EqP (aevs = bevs) V e w') := iH (fun V hV => xqR _ _ _ _ V (ra.re.keep (k1.trans hV (by simp))) (rb.re.keep (k1.trans hV (by simp))) fa.2 fb.2)
 have HS : RowKit.Hid (∀ V, Kept W1 V [] -> Calls Try.prog 46 #[.agg #[.int .i64 atm, .slice aia aop.length aic], .agg #[.int .i64 btm, .slice bia bop.length bic]] V fun e w' => EqP (atm = btm /\ aop = bop) V e w') := iH (fun V hV => (xqJ atm btm _ _ aop bop V (ra.ri.keep (k1.trans hV (by simp))) (rb.ri.keep (k1.trans hV (by simp)))).mono (by
  rintro e w' ⟨rfl, k⟩
  exact ⟨_, rfl, by simp [sameB], k⟩))
 have CS : RowKit.Hid (∀ V, Kept W1 V [] -> ∀ j, V.cell? ⟨w.heap.size, j, none⟩ = (#[.int .u8 ak, .int .i64 atx, .int .i64 anx, .int .i64 aid, .slice aoa aops.length aoc, .slice aea aevs.length aec, .int .i64 atn, .int .i64 atm, .slice aia aop.length aic, .int .i64 ata, .string anm, .int .i64 an, .int .i64 aat] : Array Value)[j]? /\ V.cell? ⟨w.heap.size + 1, j, none⟩ = (#[.int .u8 ak, .int .i64 atx, .int .i64 anx, .int .i64 aid, .slice boa bops.length boc, .slice bea bevs.length bec, .int .i64 atn, .int .i64 btm, .slice bia bop.length bic, .int .i64 ata, .string anm, .int .i64 an, .int .i64 bat] : Array Value)[j]?) := iH (fun V hV j => ⟨cell_of_row V _ j _ _ _ (hV.heap (by simp) b2), cell_of_row V _ j _ _ _ (hV.heap (by simp) b1)⟩)
 have K1 := iH k1
 clear ra rb fa fb k1 b1 b2 hz
 have x0 : (aat == bat) = false := beq_eq_false_iff_ne.2 hd
 clear hd
 have YHO := iH hHO
 clear hHO
 have YHP := iH hHP
 clear hHP
 have YHS := iH hHS
 clear hHS
 go_enter Try.func18, Try.ntmps18
 go_wp2_with fail
 rw [<- hW1]
 clear hW1
 refine (EqP.ye (w := W1) (HO.out W1 (Kept.refl W1 [])) YHO.out).mono ?_
 rintro en w2 ⟨rfl, k1⟩
 obtain ⟨pa5, pb5⟩ := CS.out w2 ((Kept.refl W1 []).trans k1 (by simp)) 5
 simp only [List.getElem?_toArray, List.getElem?_cons_zero, List.getElem?_cons_succ] at pa5 pb5
 go_wp2_with fail
 refine (EqP.ye (w := W1) (HP.out w2 ((Kept.refl W1 []).trans k1 (by simp))) YHP.out).mono ?_
 rintro en w3 ⟨rfl, k2⟩
 clear pa5 pb5
 obtain ⟨pa6, pb6⟩ := CS.out w3 (((Kept.refl W1 []).trans k1 (by simp)).trans k2 (by simp)) 6
 obtain ⟨pa7, pb7⟩ := CS.out w3 (((Kept.refl W1 []).trans k1 (by simp)).trans k2 (by simp)) 7
 obtain ⟨pa8, pb8⟩ := CS.out w3 (((Kept.refl W1 []).trans k1 (by simp)).trans k2 (by simp)) 8
 simp only [List.getElem?_toArray, List.getElem?_cons_zero, List.getElem?_cons_succ] at pa6 pb6 pa7 pb7 pa8 pb8
 go_wp2_with fail
 refine (EqP.ye (w := W1) (HS.out w3 (((Kept.refl W1 []).trans k1 (by simp)).trans k2 (by simp))) YHS.out).mono ?_
 rintro en w4 ⟨rfl, k3⟩
 clear pa6 pb6 pa7 pb7 pa8 pb8
 obtain ⟨pa9, pb9⟩ := CS.out w4 ((((Kept.refl W1 []).trans k1 (by simp)).trans k2 (by simp)).trans k3 (by simp)) 9
 obtain ⟨pa10, pb10⟩ := CS.out w4 ((((Kept.refl W1 []).trans k1 (by simp)).trans k2 (by simp)).trans k3 (by simp)) 10
 obtain ⟨pa11, pb11⟩ := CS.out w4 ((((Kept.refl W1 []).trans k1 (by simp)).trans k2 (by simp)).trans k3 (by simp)) 11
 obtain ⟨pa12, pb12⟩ := CS.out w4 ((((Kept.refl W1 []).trans k1 (by simp)).trans k2 (by simp)).trans k3 (by simp)) 12
 simp only [List.getElem?_toArray, List.getElem?_cons_zero, List.getElem?_cons_succ] at pa9 pb9 pa10 pb10 pa11 pb11 pa12 pb12
 go_wp2
 go_ret
 exact ⟨rfl, K1.out.trans ((((Kept.refl W1 []).trans k1 (by simp)).trans k2 (by simp)).trans k3 (by simp)) (by simp)⟩
theorem es_eq (ak : Int) (atx : Int) (anx : Int) (aid : Int) (aops : List Ox) (aevs : List Px) (atn : Int) (atm : Int) (aop : List Int) (ata : Int) (anm : ByteArray) (an : Int) (aat : Int) (aoa : Option Addr) (aea : Option Addr) (aia : Option Addr) (aoc : Nat) (aec : Nat) (aic : Nat) (bops : List Ox) (bevs : List Px) (btm : Int) (bop : List Int) (boa : Option Addr) (bea : Option Addr) (bia : Option Addr) (boc : Nat) (bec : Nat) (bic : Nat) (w : World) (ra : RdN w (⟨ak, atx, anx, aid, aops, aevs, atn, atm, aop, ata, anm, an, aat⟩ : En) (.slice aoa aops.length aoc) (.slice aea aevs.length aec) (.slice aia aop.length aic)) (rb : RdN w (⟨ak, atx, anx, aid, bops, bevs, atn, btm, bop, ata, anm, an, aat⟩ : En) (.slice boa bops.length boc) (.slice bea bevs.length bec) (.slice bia bop.length bic)) (fa : aops.length <= 1000000 /\ aevs.length <= 1000000) (fb : bops.length <= 1000000 /\ bevs.length <= 1000000) (hHO : aops = bops) (hHP : aevs = bevs) (hHS : atm = btm /\ aop = bop) :
  Calls Try.prog 18 #[.agg #[.int .u8 ak, .int .i64 atx, .int .i64 anx, .int .i64 aid, .slice aoa aops.length aoc, .slice aea aevs.length aec, .int .i64 atn, .int .i64 atm, .slice aia aop.length aic, .int .i64 ata, .string anm, .int .i64 an, .int .i64 aat], .agg #[.int .u8 ak, .int .i64 atx, .int .i64 anx, .int .i64 aid, .slice boa bops.length boc, .slice bea bevs.length bec, .int .i64 atn, .int .i64 btm, .slice bia bop.length bic, .int .i64 ata, .string anm, .int .i64 an, .int .i64 aat]] w fun e w' => e = .returned (.bool true) /\ Kept w w' [] := by
 obtain ⟨W1, hW1⟩ : ∃ W1, W1 = (w.alloc (.cells #[.int .u8 ak, .int .i64 atx, .int .i64 anx, .int .i64 aid, .slice aoa aops.length aoc, .slice aea aevs.length aec, .int .i64 atn, .int .i64 atm, .slice aia aop.length aic, .int .i64 ata, .string anm, .int .i64 an, .int .i64 aat] 41)).alloc (.cells #[.int .u8 ak, .int .i64 atx, .int .i64 anx, .int .i64 aid, .slice boa bops.length boc, .slice bea bevs.length bec, .int .i64 atn, .int .i64 btm, .slice bia bop.length bic, .int .i64 ata, .string anm, .int .i64 an, .int .i64 aat] 41) := ⟨_, rfl⟩
 have hz : (w.alloc (.cells #[.int .u8 ak, .int .i64 atx, .int .i64 anx, .int .i64 aid, .slice aoa aops.length aoc, .slice aea aevs.length aec, .int .i64 atn, .int .i64 atm, .slice aia aop.length aic, .int .i64 ata, .string anm, .int .i64 an, .int .i64 aat] 41)).heap.size = w.heap.size + 1 := by simp
 have k1 : Kept w W1 [] := by rw [hW1]; exact ((Kept.refl w []).alloc _).alloc _
 have b1 : W1.heap[w.heap.size + 1]? = some (.cells #[.int .u8 ak, .int .i64 atx, .int .i64 anx, .int .i64 aid, .slice boa bops.length boc, .slice bea bevs.length bec, .int .i64 atn, .int .i64 btm, .slice bia bop.length bic, .int .i64 ata, .string anm, .int .i64 an, .int .i64 aat] 41 (0, 0)) := by rw [hW1, <- hz]; exact heap_alloc_new _ _
 have b2 : W1.heap[w.heap.size]? = some (.cells #[.int .u8 ak, .int .i64 atx, .int .i64 anx, .int .i64 aid, .slice aoa aops.length aoc, .slice aea aevs.length aec, .int .i64 atn, .int .i64 atm, .slice aia aop.length aic, .int .i64 ata, .string anm, .int .i64 an, .int .i64 aat] 41 (0, 0)) := by rw [hW1]; exact ((Kept.refl _ []).alloc _).heap (by simp) (heap_alloc_new w _)
 have HO : RowKit.Hid (∀ V, Kept W1 V [] -> Calls Try.prog 44 #[.slice aoa aops.length aoc, .slice boa bops.length boc] V fun e w' => EqP (aops = bops) V e w') := iH (fun V hV => xqS _ _ _ _ V (ra.ro.keep (k1.trans hV (by simp))) (rb.ro.keep (k1.trans hV (by simp))) fa.1 fb.1)
 have HP : RowKit.Hid (∀ V, Kept W1 V [] -> Calls Try.prog 45 #[.slice aea aevs.length aec, .slice bea bevs.length bec] V fun e w' => EqP (aevs = bevs) V e w') := iH (fun V hV => xqR _ _ _ _ V (ra.re.keep (k1.trans hV (by simp))) (rb.re.keep (k1.trans hV (by simp))) fa.2 fb.2)
 have HS : RowKit.Hid (∀ V, Kept W1 V [] -> Calls Try.prog 46 #[.agg #[.int .i64 atm, .slice aia aop.length aic], .agg #[.int .i64 btm, .slice bia bop.length bic]] V fun e w' => EqP (atm = btm /\ aop = bop) V e w') := iH (fun V hV => (xqJ atm btm _ _ aop bop V (ra.ri.keep (k1.trans hV (by simp))) (rb.ri.keep (k1.trans hV (by simp)))).mono (by
  rintro e w' ⟨rfl, k⟩
  exact ⟨_, rfl, by simp [sameB], k⟩))
 have CS : RowKit.Hid (∀ V, Kept W1 V [] -> ∀ j, V.cell? ⟨w.heap.size, j, none⟩ = (#[.int .u8 ak, .int .i64 atx, .int .i64 anx, .int .i64 aid, .slice aoa aops.length aoc, .slice aea aevs.length aec, .int .i64 atn, .int .i64 atm, .slice aia aop.length aic, .int .i64 ata, .string anm, .int .i64 an, .int .i64 aat] : Array Value)[j]? /\ V.cell? ⟨w.heap.size + 1, j, none⟩ = (#[.int .u8 ak, .int .i64 atx, .int .i64 anx, .int .i64 aid, .slice boa bops.length boc, .slice bea bevs.length bec, .int .i64 atn, .int .i64 btm, .slice bia bop.length bic, .int .i64 ata, .string anm, .int .i64 an, .int .i64 aat] : Array Value)[j]?) := iH (fun V hV j => ⟨cell_of_row V _ j _ _ _ (hV.heap (by simp) b2), cell_of_row V _ j _ _ _ (hV.heap (by simp) b1)⟩)
 have K1 := iH k1
 clear ra rb fa fb k1 b1 b2 hz
 have YHO := iH hHO
 clear hHO
 have YHP := iH hHP
 clear hHP
 have YHS := iH hHS
 clear hHS
 go_enter Try.func18, Try.ntmps18
 go_wp2_with fail
 rw [<- hW1]
 clear hW1
 refine (EqP.ye (w := W1) (HO.out W1 (Kept.refl W1 [])) YHO.out).mono ?_
 rintro en w2 ⟨rfl, k1⟩
 obtain ⟨pa5, pb5⟩ := CS.out w2 ((Kept.refl W1 []).trans k1 (by simp)) 5
 simp only [List.getElem?_toArray, List.getElem?_cons_zero, List.getElem?_cons_succ] at pa5 pb5
 go_wp2_with fail
 refine (EqP.ye (w := W1) (HP.out w2 ((Kept.refl W1 []).trans k1 (by simp))) YHP.out).mono ?_
 rintro en w3 ⟨rfl, k2⟩
 clear pa5 pb5
 obtain ⟨pa6, pb6⟩ := CS.out w3 (((Kept.refl W1 []).trans k1 (by simp)).trans k2 (by simp)) 6
 obtain ⟨pa7, pb7⟩ := CS.out w3 (((Kept.refl W1 []).trans k1 (by simp)).trans k2 (by simp)) 7
 obtain ⟨pa8, pb8⟩ := CS.out w3 (((Kept.refl W1 []).trans k1 (by simp)).trans k2 (by simp)) 8
 simp only [List.getElem?_toArray, List.getElem?_cons_zero, List.getElem?_cons_succ] at pa6 pb6 pa7 pb7 pa8 pb8
 go_wp2_with fail
 refine (EqP.ye (w := W1) (HS.out w3 (((Kept.refl W1 []).trans k1 (by simp)).trans k2 (by simp))) YHS.out).mono ?_
 rintro en w4 ⟨rfl, k3⟩
 clear pa6 pb6 pa7 pb7 pa8 pb8
 obtain ⟨pa9, pb9⟩ := CS.out w4 ((((Kept.refl W1 []).trans k1 (by simp)).trans k2 (by simp)).trans k3 (by simp)) 9
 obtain ⟨pa10, pb10⟩ := CS.out w4 ((((Kept.refl W1 []).trans k1 (by simp)).trans k2 (by simp)).trans k3 (by simp)) 10
 obtain ⟨pa11, pb11⟩ := CS.out w4 ((((Kept.refl W1 []).trans k1 (by simp)).trans k2 (by simp)).trans k3 (by simp)) 11
 obtain ⟨pa12, pb12⟩ := CS.out w4 ((((Kept.refl W1 []).trans k1 (by simp)).trans k2 (by simp)).trans k3 (by simp)) 12
 simp only [List.getElem?_toArray, List.getElem?_cons_zero, List.getElem?_cons_succ] at pa9 pb9 pa10 pb10 pa11 pb11 pa12 pb12
 go_wp2
 go_ret
 exact ⟨rfl, K1.out.trans ((((Kept.refl W1 []).trans k1 (by simp)).trans k2 (by simp)).trans k3 (by simp)) (by simp)⟩
theorem EqP.no {P : Prop} {f : Nat} {args : Array Value} {w : World} (h : Calls Try.prog f args w fun e w' => e = .returned (.bool false) /\ Kept w w' []) (hp : ¬ P) : Calls Try.prog f args w fun e w' => EqP P w e w' :=
 h.mono (by rintro e w' ⟨rfl, k⟩; exact ⟨false, rfl, by simp [hp], k⟩)
theorem EqP.yes {P : Prop} {f : Nat} {args : Array Value} {w : World} (h : Calls Try.prog f args w fun e w' => e = .returned (.bool true) /\ Kept w w' []) (hp : P) : Calls Try.prog f args w fun e w' => EqP P w e w' :=
 h.mono (by rintro e w' ⟨rfl, k⟩; exact ⟨true, rfl, by simp [hp], k⟩)
theorem EqP.iff {P Q : Prop} {f : Nat} {args : Array Value} {w : World} (h : Calls Try.prog f args w fun e w' => EqP P w e w') (hp : P ↔ Q) : Calls Try.prog f args w fun e w' => EqP Q w e w' :=
 h.mono (by rintro e w' ⟨r, rfl, hr, k⟩; exact ⟨r, rfl, hr.trans hp, k⟩)
theorem rsame_any (a b : En) (vao vae vai vbo vbe vbi : Value) (w : World) (ra : RdN w a vao vae vai) (rb : RdN w b vbo vbe vbi) (fa : a.ops.length <= 1000000 /\ a.evs.length <= 1000000) :
  Calls Try.prog 19 #[.agg (a.cs vao vae vai), .agg (b.cs vbo vbe vbi)] w fun e w' => EqP (a = b) w e w' := by
 obtain ⟨aoa, aoc, rfl⟩ := ra.ro.shape
 obtain ⟨aea, aec, rfl⟩ := ra.re.shape
 obtain ⟨aia, aic, e1, _⟩ := id ra.ri
 subst e1
 obtain ⟨boa, boc, rfl⟩ := rb.ro.shape
 obtain ⟨bea, bec, rfl⟩ := rb.re.shape
 obtain ⟨bia, bic, e2, _⟩ := id rb.ri
 subst e2
 obtain ⟨ak, atx, anx, aid, aops, aevs, atn, atm, aop, ata, anm, an, aat⟩ := a
 obtain ⟨bk, btx, bnx, bid, bops, bevs, btn, btm, bop, bta, bnm, bn, bat⟩ := b
 by_cases hk : ak = bk
 case neg => exact EqP.no (rs_ne0 (ra := ra) (rb := rb) (hd := hk)) (by simp [hk])
 subst hk
 by_cases htx : atx = btx
 case neg => exact EqP.no (rs_ne1 (ra := ra) (rb := rb) (hd := htx)) (by simp [htx])
 subst htx
 by_cases hnx : anx = bnx
 case neg => exact EqP.no (rs_ne2 (ra := ra) (rb := rb) (hd := hnx)) (by simp [hnx])
 subst hnx
 by_cases hid : aid = bid
 case neg => exact EqP.no (rs_ne3 (ra := ra) (rb := rb) (hd := hid)) (by simp [hid])
 subst hid
 by_cases hnm : anm = bnm
 case neg => exact EqP.no (rs_ne4 (ra := ra) (rb := rb) (hd := hnm)) (by simp [hnm])
 subst hnm
 by_cases hn : an = bn
 case neg => exact EqP.no (rs_ne5 (ra := ra) (rb := rb) (hd := hn)) (by simp [hn])
 subst hn
 by_cases hat : aat = bat
 case neg => exact EqP.no (rs_ne6 (ra := ra) (rb := rb) (hd := hat)) (by simp [hat])
 subst hat
 by_cases ht : atn = btn /\ ata = bta /\ atm = btm /\ aop = bop
 case neg => exact EqP.no (rs_ne7 (ra := ra) (rb := rb) (hd := ht)) (fun h => by rw [En.mk.injEq] at h; obtain ⟨_, _, _, _, _, _, q7, q8, q9, q10, _⟩ := h; exact ht ⟨q7, q10, q8, q9⟩)
 by_cases hlo : aops.length = bops.length
 case neg => exact EqP.no (rs_ne8 (ra := ra) (rb := rb) (het := ht) (hd := hlo)) (fun h => by rw [En.mk.injEq] at h; exact hlo (congrArg List.length h.2.2.2.2.1))
 by_cases hle : aevs.length = bevs.length
 case neg => exact EqP.no (rs_ne9 (ra := ra) (rb := rb) (het := ht) (hlo := hlo) (hd := hle)) (fun h => by rw [En.mk.injEq] at h; exact hle (congrArg List.length h.2.2.2.2.2.1))
 exact EqP.iff (rs_eq (ra := ra) (rb := rb) (het := ht) (hlo := hlo) (hle := hle) (hl1 := fa.1) (hl2 := fa.2)) (by obtain ⟨q1, q2, q3, q4⟩ := ht; simp [q1, q2, q3, q4])
theorem esame_any (a b : En) (vao vae vai vbo vbe vbi : Value) (w : World) (ra : RdN w a vao vae vai) (rb : RdN w b vbo vbe vbi) (fa : a.ops.length <= 1000000 /\ a.evs.length <= 1000000) (fb : b.ops.length <= 1000000 /\ b.evs.length <= 1000000) :
  Calls Try.prog 18 #[.agg (a.cs vao vae vai), .agg (b.cs vbo vbe vbi)] w fun e w' => EqP (a = b) w e w' := by
 obtain ⟨aoa, aoc, rfl⟩ := ra.ro.shape
 obtain ⟨aea, aec, rfl⟩ := ra.re.shape
 obtain ⟨aia, aic, e1, _⟩ := id ra.ri
 subst e1
 obtain ⟨boa, boc, rfl⟩ := rb.ro.shape
 obtain ⟨bea, bec, rfl⟩ := rb.re.shape
 obtain ⟨bia, bic, e2, _⟩ := id rb.ri
 subst e2
 obtain ⟨ak, atx, anx, aid, aops, aevs, atn, atm, aop, ata, anm, an, aat⟩ := a
 obtain ⟨bk, btx, bnx, bid, bops, bevs, btn, btm, bop, bta, bnm, bn, bat⟩ := b
 by_cases hk : ak = bk
 case neg => exact EqP.no (es_ne0 (ra := ra) (rb := rb) (fa := fa) (fb := fb) (hd := hk)) (by simp [hk])
 subst hk
 by_cases htx : atx = btx
 case neg => exact EqP.no (es_ne1 (ra := ra) (rb := rb) (fa := fa) (fb := fb) (hd := htx)) (by simp [htx])
 subst htx
 by_cases hnx : anx = bnx
 case neg => exact EqP.no (es_ne2 (ra := ra) (rb := rb) (fa := fa) (fb := fb) (hd := hnx)) (by simp [hnx])
 subst hnx
 by_cases hid : aid = bid
 case neg => exact EqP.no (es_ne3 (ra := ra) (rb := rb) (fa := fa) (fb := fb) (hd := hid)) (by simp [hid])
 subst hid
 by_cases hHO : aops = bops
 case neg => exact EqP.no (es_ne4 (ra := ra) (rb := rb) (fa := fa) (fb := fb) (hd := hHO)) (by simp [hHO])
 by_cases hHP : aevs = bevs
 case neg => exact EqP.no (es_ne5 (ra := ra) (rb := rb) (fa := fa) (fb := fb) (hHO := hHO) (hd := hHP)) (by simp [hHP])
 by_cases htn : atn = btn
 case neg => exact EqP.no (es_ne6 (ra := ra) (rb := rb) (fa := fa) (fb := fb) (hHO := hHO) (hHP := hHP) (hd := htn)) (by simp [htn])
 subst htn
 by_cases hHS : atm = btm /\ aop = bop
 case neg => exact EqP.no (es_ne7 (ra := ra) (rb := rb) (fa := fa) (fb := fb) (hHO := hHO) (hHP := hHP) (hd := hHS)) (fun h => by rw [En.mk.injEq] at h; obtain ⟨_, _, _, _, _, _, q7, q8, q9, q10, _⟩ := h; exact hHS ⟨q8, q9⟩)
 by_cases hta : ata = bta
 case neg => exact EqP.no (es_ne8 (ra := ra) (rb := rb) (fa := fa) (fb := fb) (hHO := hHO) (hHP := hHP) (hHS := hHS) (hd := hta)) (by simp [hta])
 subst hta
 by_cases hnm : anm = bnm
 case neg => exact EqP.no (es_ne9 (ra := ra) (rb := rb) (fa := fa) (fb := fb) (hHO := hHO) (hHP := hHP) (hHS := hHS) (hd := hnm)) (by simp [hnm])
 subst hnm
 by_cases hn : an = bn
 case neg => exact EqP.no (es_ne10 (ra := ra) (rb := rb) (fa := fa) (fb := fb) (hHO := hHO) (hHP := hHP) (hHS := hHS) (hd := hn)) (by simp [hn])
 subst hn
 by_cases hat : aat = bat
 case neg => exact EqP.no (es_ne11 (ra := ra) (rb := rb) (fa := fa) (fb := fb) (hHO := hHO) (hHP := hHP) (hHS := hHS) (hd := hat)) (by simp [hat])
 subst hat
 exact EqP.yes (es_eq (ra := ra) (rb := rb) (fa := fa) (fb := fb) (hHO := hHO) (hHP := hHP) (hHS := hHS)) (by obtain ⟨q1, q2⟩ := hHS; simp [hHO, hHP, q1, q2])
theorem wparts_any (e : En) (B p : Nat) (v vo ve vi : Value) (l : List UInt8) (w : World) (W : Wr wB w B p v l) (hB : B <= w.heap.size) (L : Lay w e vo ve vi p v) (hl' : l.length <= 1000000) :
  Calls Try.prog 27 #[.pointer (some ⟨p, 0, none⟩), .agg (e.cs vo ve vi)] w fun en w' => en = .returned (.tuple #[]) /\ ∃ v', Wr wB w' B p v' (l ++ e.body) /\ Wtp w w' [p] v v' := by
 have hk := L.r.k
 obtain ⟨k, tx, nx, id, ops, evs, tn, tm, op, ta, nm, n, at1⟩ := e
 dsimp only at hk
 by_cases h1 : k = 1
 ·subst h1; exact wp1 B p v vo ve vi tx nx id ops evs tn tm op ta nm n at1 l w W hB L hl'
 by_cases h8 : k = 8
 ·subst h8; exact wp8 B p v vo ve vi tx nx id ops evs tn tm op ta nm n at1 l w W hB L hl'
 by_cases h2 : k = 2
 ·subst h2; exact wp2 B p v vo ve vi tx nx id ops evs tn tm op ta nm n at1 l w W hB L hl'
 by_cases h3 : 3 <= k /\ k <= 6
 ·have := wp3 B p v vo ve vi k (by omega) tx nx id ops evs tn tm op ta nm n at1 l w W hB L hl'
  rw [show En.body ⟨k, tx, nx, id, ops, evs, tn, tm, op, ta, nm, n, at1⟩ = En.b3 ⟨k, tx, nx, id, ops, evs, tn, tm, op, ta, nm, n, at1⟩ from by unfold En.body; dsimp only; rw [if_neg h1, if_neg h8, if_neg h2, if_pos h3]]
  exact this
 by_cases h7 : k = 7
 ·subst h7; exact wp7 B p v vo ve vi tx nx id ops evs tn tm op ta nm n at1 l w W hB L hl'
 by_cases h9 : k = 9 ∨ k = 10
 ·have := wp9 B p v vo ve vi k h9 tx nx id ops evs tn tm op ta nm n at1 l w W hB L hl'
  rw [show En.body ⟨k, tx, nx, id, ops, evs, tn, tm, op, ta, nm, n, at1⟩ = En.b9 ⟨k, tx, nx, id, ops, evs, tn, tm, op, ta, nm, n, at1⟩ from by unfold En.body; dsimp only; rw [if_neg h1, if_neg h8, if_neg h2, if_neg h3, if_neg h7, if_pos h9]]
  exact this
 ·obtain rfl : k = 11 := by omega
  exact wp11 B p v vo ve vi tx nx id ops evs tn tm op ta nm n at1 l w W hB L hl'
theorem own_lit {w : World} {base g n : Nat} {us : Array Value} {T : TypeId} (h : w.heap[g]? = some (.cells us T (0, 0))) (hn : us.size = n) (hm : n <= 1000) (hb : base <= g) : w.ownsRow base T 1 (.slice (some ⟨g, 0, none⟩) n n) n us.toList :=
 ⟨by rw [Array.length_toList, hn, Nat.mul_one], .inr ⟨g, n, us, rfl, hb, h, Nat.le_refl _, by unfold maxLen; omega, by rw [hn, Nat.mul_one], by rw [Nat.mul_one, <- hn, <- Array.length_toList, List.take_length]⟩⟩
theorem body_len {w : World} {e : En} {vo ve vi : Value} {p : Nat} {v : Value} (L : Lay w e vo ve vi p v) : e.body.length <= 200000 := by
 obtain ⟨h1, h2, h3, h4, h5, h6, h7⟩ := L.lens
 have h8 := openL_len L.r.op L.r.nop
 have h9 := xqT L.r.at'
 have h10 := xqT L.r.ta
 have h11 := xqe L.r.tn
 have h12 := xqe L.r.tm
 unfold En.body
 repeat' split
 all_goals (try simp only [En.b1, En.b8, En.b2, En.b3, En.b7, En.b9, En.b11, List.length_append, List.length_nil])
 all_goals omega
theorem eencode_any (e : En) (vo ve vi : Value) (w : World) (hr : e.Right) (hd : RdN w e vo ve vi) (fo : ∀ b, vo.ownBlock = some b -> b < w.heap.size) (fe : ∀ b, ve.ownBlock = some b -> b < w.heap.size) (fi : ∀ b, vi.ownBlock = some b -> b < w.heap.size) :
  Calls Try.prog 12 #[.agg (e.cs vo ve vi)] w fun en w' => ∃ v', en = .returned v' /\ Own w' w.heap.size 5 v' e.encL /\ Kept w w' [] := by
 obtain ⟨i0, hi, hz0, hz1, hz2⟩ := info_parts Try.infoB
 obtain ⟨oa, oc, hvo⟩ := hd.ro.shape
 obtain ⟨ea, ec, hve⟩ := hd.re.shape
 obtain ⟨ia, ic1, hvi, _⟩ := id hd.ri
 subst hvo hve hvi
 have hk := hr.k
 have HP := fun V B p v l (W : Wr wB V B p v l) (hB : B <= V.heap.size) L hl' => wparts_any e B p v (.slice oa e.ops.length oc) (.slice ea e.evs.length ec) (.slice ia e.op.length ic1) l V W hB L hl'
 obtain ⟨BD, hBD⟩ : ∃ BD, BD = e.body := ⟨_, rfl⟩
 rw [<- hBD] at HP
 have HENC : RowKit.Hid (e.encL = UInt8.ofNat e.k.toNat :: BD) := iH (by rw [hBD]; rfl)
 obtain ⟨k, tx, nx, id, ops, evs, tn, tm, op, ta, nm, n, at1⟩ := e
 dsimp only at hk HP HENC
 have HBC : RowKit.Hid (bc (UInt8.ofNat k.toNat :: BD) = [.int .u8 k] ++ bc BD) := iH (by
  rw [show UInt8.ofNat k.toNat :: BD = [UInt8.ofNat k.toNat] ++ BD from rfl, xqU, bc_nat (by omega)]
  rw [show ((k.toNat : Nat) : Int) = k from by omega])
 obtain ⟨W1, hW1⟩ : ∃ W1, W1 = (w.alloc (.cells #[.int .u8 k, .int .i64 tx, .int .i64 nx, .int .i64 id, .slice oa ops.length oc, .slice ea evs.length ec, .int .i64 tn, .int .i64 tm, .slice ia op.length ic1, .int .i64 ta, .string nm, .int .i64 n, .int .i64 at1] 41)).alloc (.cells #[.slice none 0 0, .bool false] 83) := ⟨_, rfl⟩
 have hz : (w.alloc (.cells #[.int .u8 k, .int .i64 tx, .int .i64 nx, .int .i64 id, .slice oa ops.length oc, .slice ea evs.length ec, .int .i64 tn, .int .i64 tm, .slice ia op.length ic1, .int .i64 ta, .string nm, .int .i64 n, .int .i64 at1] 41)).heap.size = w.heap.size + 1 := by simp
 have k1 : Kept w W1 [] := by rw [hW1]; exact ((Kept.refl w []).alloc _).alloc _
 have b1 : W1.heap[w.heap.size]? = some (.cells #[.int .u8 k, .int .i64 tx, .int .i64 nx, .int .i64 id, .slice oa ops.length oc, .slice ea evs.length ec, .int .i64 tn, .int .i64 tm, .slice ia op.length ic1, .int .i64 ta, .string nm, .int .i64 n, .int .i64 at1] 41 (0, 0)) := by rw [hW1]; exact ((Kept.refl _ []).alloc _).heap (by simp) (heap_alloc_new w _)
 have b2 : W1.heap[w.heap.size + 1]? = some (.cells #[.slice none 0 0, .bool false] 83 (0, 0)) := by rw [hW1, <- hz]; exact heap_alloc_new _ _
 have g1 : Wr wB W1 (w.heap.size + 1) (w.heap.size + 1) (.slice none 0 0) [] := ⟨b2, Own.nil _ _ _⟩
 have c1 : ∀ j, W1.cell? ⟨w.heap.size, j, none⟩ = (#[.int .u8 k, .int .i64 tx, .int .i64 nx, .int .i64 id, .slice oa ops.length oc, .slice ea evs.length ec, .int .i64 tn, .int .i64 tm, .slice ia op.length ic1, .int .i64 ta, .string nm, .int .i64 n, .int .i64 at1] : Array Value)[j]? := fun j => cell_of_row _ _ j _ _ _ b1
 have L1 : Lay W1 (⟨k, tx, nx, id, ops, evs, tn, tm, op, ta, nm, n, at1⟩ : En) (.slice oa ops.length oc) (.slice ea evs.length ec) (.slice ia op.length ic1) (w.heap.size + 1) (.slice none 0 0) :=
  ⟨hr, hd.keep k1, fun b hb => ⟨⟨by have := fo b hb; omega, by simp [Value.ownBlock]⟩, by have := fo b hb; have := k1.size; omega⟩, fun b hb => ⟨⟨by have := fe b hb; omega, by simp [Value.ownBlock]⟩, by have := fe b hb; have := k1.size; omega⟩, fun b hb => ⟨⟨by have := fi b hb; omega, by simp [Value.ownBlock]⟩, by have := fi b hb; have := k1.size; omega⟩⟩
 have LB : RowKit.Hid (BD.length <= 200000) := iH (by rw [hBD]; exact body_len L1)
 have HPC := iH (HP W1 _ _ _ [] g1 (by have := k1.size; simp [hW1]) L1 (by simp))
 have fb : Far (w.heap.size + 1) (.slice none 0 0) w.heap.size := ⟨by omega, by simp [Value.ownBlock]⟩
 have C0 := c1 0; have C1 := c1 1; have C2 := c1 2; have C3 := c1 3; have C4 := c1 4; have C5 := c1 5; have C6 := c1 6; have C7 := c1 7; have C8 := c1 8; have C9 := c1 9; have C10 := c1 10; have C11 := c1 11; have C12 := c1 12
 simp only [List.getElem?_toArray, List.getElem?_cons_zero, List.getElem?_cons_succ] at C0 C1 C2 C3 C4 C5 C6 C7 C8 C9 C10 C11 C12
 have B1 := iH b1; have KW1 := iH k1; have FB := iH fb
 clear hr hd fo fe fi HP hBD k1 b1 b2 g1 c1 L1 fb hz hk
 change Calls Try.prog 12 #[.agg #[.int .u8 k, .int .i64 tx, .int .i64 nx, .int .i64 id, .slice oa ops.length oc, .slice ea evs.length ec, .int .i64 tn, .int .i64 tm, .slice ia op.length ic1, .int .i64 ta, .string nm, .int .i64 n, .int .i64 at1]] w _
 go_enter Try.func12, Try.ntmps12
 go_upto_region 2 with fail
 rw [<- hW1]
 clear hW1
 go_wp2_with fail
 refine HPC.out.mono ?_
 rintro e w2 ⟨rfl, v2, g2, s2⟩
 obtain ⟨c2, _⟩ := g2.bad
 have G2 := iH (show Wr wB w2 (w.heap.size + 1) (w.heap.size + 1) v2 BD by simpa using g2)
 have CK : RowKit.Hid (∀ V, Kept w2 V [] -> V.cell? ⟨w.heap.size, 0, none⟩ = some (.int .u8 k)) := iH (fun V hV => cell_of_row V _ 0 _ _ _ (hV.heap (by simp) (s2.heap FB.out B1.out)))
 have K2 : RowKit.Hid (Kept w w2 []) := iH (KW1.out.trans s2.1 (by intro x hx; simp [Value.ownBlock] at hx; exact .inr (by omega)))
 have HBY : RowKit.Hid (∀ V, Kept w2 V [] -> Calls Try.prog 28 #[.pointer (some ⟨w.heap.size + 1, 0, none⟩)] V fun en w' => ∃ v', en = .returned v' /\ Rd w' v' BD /\ Kept V w' []) := iH (fun V hV =>
  (bytes_any _ _ v2 _ V (G2.out.kept hV (by simp) (by simp)) (by have := LB.out; omega)).mono (fun _ _ h => by obtain ⟨v', h1, h2, h3⟩ := h; exact ⟨v', h1, h2.rd, h3⟩))
 clear g2 s2 C0 C1 C2 C3 C4 C5 C6 C7 C8 C9 C10 C11 C12
 go_upto_region 5 with fail
 clear c2
 refine wp_region_held_drew (S := fun Z => Kept w2 Z []) (by kernel_rfl) (Kept.refl w2 []).drew (fun hJ => ?_)
 refine wx 0 13 (.pointer (some ⟨w.heap.size, 0, none⟩)) rfl hJ ?_
 refine wx 1 14 (.int .u8 k) rfl hJ ?_ (hy := fun V hV => by (have c9 := CK.out V hV; clear hV; go_simp))
 refine wx 3 16 (.pointer (some ⟨w.heap.size + 1, 0, none⟩)) rfl hJ ?_
 refine wx 4 17 (.pointer (some ⟨w.heap.size + 1, 0, none⟩)) rfl hJ ?_
 refine wx 5 18 (.pointer (some ⟨w.heap.size + 1, 0, none⟩)) rfl hJ ?_
 refine wpAnyH_ready (rs := [2, 6]) (by kernel_rfl) (by simp) ?_
 refine AllReadyH.cons (o := _) rfl (fun K hK => ?_) (AllReadyH.cons (o := _) rfl (fun K hK => ?_) AllReadyH.nil)
 ·go_simp
  obtain ⟨W3, hW3⟩ : ∃ W3, W3 = (w2.alloc (.cells #[.int .u8 k] 5)).drew := ⟨_, rfl⟩
  rw [<- hW3]
  have K3 : RowKit.Hid (Kept w2 W3 []) := iH (by rw [hW3]; exact ((Kept.refl w2 []).alloc _).drew)
  have B3 : RowKit.Hid (W3.heap[w2.heap.size]? = some (.cells #[.int .u8 k] 5 (0, 0))) := iH (by rw [hW3]; exact heap_alloc_new w2 _)
  clear hW3
  refine hK.out _ _ K3.out (fun hJ => ?_)
  clear hK K
  refine wr1 6 rfl (fun K hK => ?_)
  go_simp
  go_at_call 28
  refine (HBY.out _ K3.out).mono ?_
  rintro e w5 ⟨v5, rfl, r5, k5⟩
  obtain ⟨a5, n5, c5, hv5⟩ := r5.shape3
  have R5 := iH r5; have K5 := iH k5
  clear r5 k5
  subst hv5
  have K6 := iH (K3.out.trans K5.out (by simp))
  refine hK.out _ _ K6.out (fun hJ => ?_)
  clear hK K
  refine wr1 7 rfl (fun K hK => ?_)
  refine step_append_fr _ rfl (.tmp 15) (.tmp 19) 22 22 rfl w2.heap.size 5 i0 (.int .u8 0) 1 1 Try.underlying22 hi hz0 hz1 hz2 rfl _ 1 [.int .u8 k] rfl (own_lit (K5.out.heap (by simp) B3.out) rfl (by decide) (Nat.le_refl _)) _ BD.length (bc BD) rfl (Rd.src (R5.out) Try.underlying22) (by have := LB.out; unfold maxLen; omega) (by have := LB.out; omega) K6.out.size ?_
  intro v9 w9 ho9 hf9 _
  have k9 : Kept w2 w9 [] := ((Fr.ofKept K6.out 0 []).later hf9 (Nat.le_refl _)).kept
  have K9 := iH k9
  have O9 : RowKit.Hid (Own w9 w2.heap.size 5 v9 (UInt8.ofNat k.toNat :: BD)) := iH (by unfold Own; rw [List.length_cons, Nat.add_comm, HBC.out]; exact ho9)
  clear ho9 hf9 k9
  refine hK.out _ _ K9.out (fun hJ => ?_)
  clear hK K
  refine wpAnyH_take (i := 8) (oi := _) (v := v9) rfl (by kernel_rfl) (by kernel_rfl) (by kernel_rfl) (fun _ _ _ h => h) (Or.inl ⟨by rfl, fun V hV => by go_simp⟩) hJ ?_
  refine wd ?_
  clear hJ
  go_wp2
  go_ret
  exact ⟨v9, rfl, by rw [HENC.out]; exact O9.out.mono (by have := K2.out.size; omega), K2.out.trans K9.out (by simp)⟩
 ·go_simp
  go_at_call 28
  refine (HBY.out _ (Kept.refl w2 []).drew).mono ?_
  rintro e w5 ⟨v5, rfl, r5, k5⟩
  obtain ⟨a5, n5, c5, hv5⟩ := r5.shape3
  have R5 := iH r5; have K5 := iH ((Kept.refl w2 []).drew.trans k5 (by simp))
  clear r5 k5
  subst hv5
  refine hK.out _ _ K5.out (fun hJ => ?_)
  clear hK K
  refine wr1 2 rfl (fun K hK => ?_)
  go_simp
  obtain ⟨W6, hW6⟩ : ∃ W6, W6 = w5.alloc (.cells #[.int .u8 k] 5) := ⟨_, rfl⟩
  rw [<- hW6]
  have K6 : RowKit.Hid (Kept w2 W6 []) := iH (by rw [hW6]; exact K5.out.alloc _)
  have B6 : RowKit.Hid (W6.heap[w5.heap.size]? = some (.cells #[.int .u8 k] 5 (0, 0))) := iH (by rw [hW6]; exact heap_alloc_new w5 _)
  have R6 : RowKit.Hid (Rd W6 (.slice a5 n5 c5) BD) := iH (by rw [hW6]; exact R5.out.kept ((Kept.refl w5 []).alloc _) (by simp))
  clear hW6
  refine hK.out _ _ K6.out (fun hJ => ?_)
  clear hK K
  refine wr1 7 rfl (fun K hK => ?_)
  refine step_append_fr _ rfl (.tmp 15) (.tmp 19) 22 22 rfl w2.heap.size 5 i0 (.int .u8 0) 1 1 Try.underlying22 hi hz0 hz1 hz2 rfl _ 1 [.int .u8 k] rfl (own_lit B6.out rfl (by decide) K5.out.size) _ BD.length (bc BD) rfl (Rd.src (R6.out) Try.underlying22) (by have := LB.out; unfold maxLen; omega) (by have := LB.out; omega) K6.out.size ?_
  intro v9 w9 ho9 hf9 _
  have k9 : Kept w2 w9 [] := ((Fr.ofKept K6.out 0 []).later hf9 (Nat.le_refl _)).kept
  have K9 := iH k9
  have O9 : RowKit.Hid (Own w9 w2.heap.size 5 v9 (UInt8.ofNat k.toNat :: BD)) := iH (by unfold Own; rw [List.length_cons, Nat.add_comm, HBC.out]; exact ho9)
  clear ho9 hf9 k9
  refine hK.out _ _ K9.out (fun hJ => ?_)
  clear hK K
  refine wpAnyH_take (i := 8) (oi := _) (v := v9) rfl (by kernel_rfl) (by kernel_rfl) (by kernel_rfl) (fun _ _ _ h => h) (Or.inl ⟨by rfl, fun V hV => by go_simp⟩) hJ ?_
  refine wd ?_
  clear hJ
  go_wp2
  go_ret
  exact ⟨v9, rfl, by rw [HENC.out]; exact O9.out.mono (by have := K2.out.size; omega), K2.out.trans K9.out (by simp)⟩
end Go.Proofs.Ytjdbmlifekghfaa
