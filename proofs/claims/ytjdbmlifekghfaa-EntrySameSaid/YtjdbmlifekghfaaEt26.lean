/-
  Eqh, Eqi in one text.
-/
import Derived.Test.YtjdbmlifekghfaaEt0
import Derived.Test.YtjdbmlifekghfaaEt22
set_option linter.unusedVariables false
set_option maxHeartbeats 16000000
set_option maxRecDepth 100000
namespace Go.Proofs.Ytjdbmlifekghfaa
open Go.RowKit
theorem es_ne4 (ak : Int) (atx : Int) (anx : Int) (aid : Int) (aops : List Ox) (aevs : List Px) (atn : Int) (atm : Int) (aop : List Int) (ata : Int) (anm : ByteArray) (an : Int) (aat : Int) (aoa : Option Addr) (aea : Option Addr) (aia : Option Addr) (aoc : Nat) (aec : Nat) (aic : Nat) (bops : List Ox) (bevs : List Px) (btn : Int) (btm : Int) (bop : List Int) (bta : Int) (bnm : ByteArray) (bn : Int) (bat : Int) (boa : Option Addr) (bea : Option Addr) (bia : Option Addr) (boc : Nat) (bec : Nat) (bic : Nat) (w : World) (ra : RdN w (⟨ak, atx, anx, aid, aops, aevs, atn, atm, aop, ata, anm, an, aat⟩ : En) (.slice aoa aops.length aoc) (.slice aea aevs.length aec) (.slice aia aop.length aic)) (rb : RdN w (⟨ak, atx, anx, aid, bops, bevs, btn, btm, bop, bta, bnm, bn, bat⟩ : En) (.slice boa bops.length boc) (.slice bea bevs.length bec) (.slice bia bop.length bic)) (fa : aops.length <= 1000000 /\ aevs.length <= 1000000) (fb : bops.length <= 1000000 /\ bevs.length <= 1000000) (hd : ¬ (aops = bops)) :
  Calls Try.prog 18 #[.agg #[.int .u8 ak, .int .i64 atx, .int .i64 anx, .int .i64 aid, .slice aoa aops.length aoc, .slice aea aevs.length aec, .int .i64 atn, .int .i64 atm, .slice aia aop.length aic, .int .i64 ata, .string anm, .int .i64 an, .int .i64 aat], .agg #[.int .u8 ak, .int .i64 atx, .int .i64 anx, .int .i64 aid, .slice boa bops.length boc, .slice bea bevs.length bec, .int .i64 btn, .int .i64 btm, .slice bia bop.length bic, .int .i64 bta, .string bnm, .int .i64 bn, .int .i64 bat]] w fun e w' => e = .returned (.bool false) /\ Kept w w' [] := by
 obtain ⟨W1, hW1⟩ : ∃ W1, W1 = (w.alloc (.cells #[.int .u8 ak, .int .i64 atx, .int .i64 anx, .int .i64 aid, .slice aoa aops.length aoc, .slice aea aevs.length aec, .int .i64 atn, .int .i64 atm, .slice aia aop.length aic, .int .i64 ata, .string anm, .int .i64 an, .int .i64 aat] 41)).alloc (.cells #[.int .u8 ak, .int .i64 atx, .int .i64 anx, .int .i64 aid, .slice boa bops.length boc, .slice bea bevs.length bec, .int .i64 btn, .int .i64 btm, .slice bia bop.length bic, .int .i64 bta, .string bnm, .int .i64 bn, .int .i64 bat] 41) := ⟨_, rfl⟩
 have hz : (w.alloc (.cells #[.int .u8 ak, .int .i64 atx, .int .i64 anx, .int .i64 aid, .slice aoa aops.length aoc, .slice aea aevs.length aec, .int .i64 atn, .int .i64 atm, .slice aia aop.length aic, .int .i64 ata, .string anm, .int .i64 an, .int .i64 aat] 41)).heap.size = w.heap.size + 1 := by simp
 have k1 : Kept w W1 [] := by rw [hW1]; exact ((Kept.refl w []).alloc _).alloc _
 have b1 : W1.heap[w.heap.size + 1]? = some (.cells #[.int .u8 ak, .int .i64 atx, .int .i64 anx, .int .i64 aid, .slice boa bops.length boc, .slice bea bevs.length bec, .int .i64 btn, .int .i64 btm, .slice bia bop.length bic, .int .i64 bta, .string bnm, .int .i64 bn, .int .i64 bat] 41 (0, 0)) := by rw [hW1, <- hz]; exact heap_alloc_new _ _
 have b2 : W1.heap[w.heap.size]? = some (.cells #[.int .u8 ak, .int .i64 atx, .int .i64 anx, .int .i64 aid, .slice aoa aops.length aoc, .slice aea aevs.length aec, .int .i64 atn, .int .i64 atm, .slice aia aop.length aic, .int .i64 ata, .string anm, .int .i64 an, .int .i64 aat] 41 (0, 0)) := by rw [hW1]; exact ((Kept.refl _ []).alloc _).heap (by simp) (heap_alloc_new w _)
 have HO : RowKit.Hid (∀ V, Kept W1 V [] -> Calls Try.prog 44 #[.slice aoa aops.length aoc, .slice boa bops.length boc] V fun e w' => EqP (aops = bops) V e w') := iH (fun V hV => xqS _ _ _ _ V (ra.ro.keep (k1.trans hV (by simp))) (rb.ro.keep (k1.trans hV (by simp))) fa.1 fb.1)
 have HP : RowKit.Hid (∀ V, Kept W1 V [] -> Calls Try.prog 45 #[.slice aea aevs.length aec, .slice bea bevs.length bec] V fun e w' => EqP (aevs = bevs) V e w') := iH (fun V hV => xqR _ _ _ _ V (ra.re.keep (k1.trans hV (by simp))) (rb.re.keep (k1.trans hV (by simp))) fa.2 fb.2)
 have HS : RowKit.Hid (∀ V, Kept W1 V [] -> Calls Try.prog 46 #[.agg #[.int .i64 atm, .slice aia aop.length aic], .agg #[.int .i64 btm, .slice bia bop.length bic]] V fun e w' => EqP (atm = btm /\ aop = bop) V e w') := iH (fun V hV => (xqJ atm btm _ _ aop bop V (ra.ri.keep (k1.trans hV (by simp))) (rb.ri.keep (k1.trans hV (by simp)))).mono (by
  rintro e w' ⟨rfl, k⟩
  exact ⟨_, rfl, by simp [sameB], k⟩))
 have CS : RowKit.Hid (∀ V, Kept W1 V [] -> ∀ j, V.cell? ⟨w.heap.size, j, none⟩ = (#[.int .u8 ak, .int .i64 atx, .int .i64 anx, .int .i64 aid, .slice aoa aops.length aoc, .slice aea aevs.length aec, .int .i64 atn, .int .i64 atm, .slice aia aop.length aic, .int .i64 ata, .string anm, .int .i64 an, .int .i64 aat] : Array Value)[j]? /\ V.cell? ⟨w.heap.size + 1, j, none⟩ = (#[.int .u8 ak, .int .i64 atx, .int .i64 anx, .int .i64 aid, .slice boa bops.length boc, .slice bea bevs.length bec, .int .i64 btn, .int .i64 btm, .slice bia bop.length bic, .int .i64 bta, .string bnm, .int .i64 bn, .int .i64 bat] : Array Value)[j]?) := iH (fun V hV j => ⟨cell_of_row V _ j _ _ _ (hV.heap (by simp) b2), cell_of_row V _ j _ _ _ (hV.heap (by simp) b1)⟩)
 have K1 := iH k1
 clear ra rb fa fb k1 b1 b2 hz
 have HD := iH hd
 clear hd
 go_enter Try.func18, Try.ntmps18
 go_wp2_with fail
 rw [<- hW1]
 clear hW1
 refine (EqP.na (w := W1) (HO.out W1 (Kept.refl W1 [])) HD.out).mono ?_
 rintro en w2 ⟨rfl, k1⟩
 go_wp2
 go_ret
 exact ⟨rfl, K1.out.trans ((Kept.refl W1 []).trans k1 (by simp)) (by simp)⟩
theorem es_ne5 (ak : Int) (atx : Int) (anx : Int) (aid : Int) (aops : List Ox) (aevs : List Px) (atn : Int) (atm : Int) (aop : List Int) (ata : Int) (anm : ByteArray) (an : Int) (aat : Int) (aoa : Option Addr) (aea : Option Addr) (aia : Option Addr) (aoc : Nat) (aec : Nat) (aic : Nat) (bops : List Ox) (bevs : List Px) (btn : Int) (btm : Int) (bop : List Int) (bta : Int) (bnm : ByteArray) (bn : Int) (bat : Int) (boa : Option Addr) (bea : Option Addr) (bia : Option Addr) (boc : Nat) (bec : Nat) (bic : Nat) (w : World) (ra : RdN w (⟨ak, atx, anx, aid, aops, aevs, atn, atm, aop, ata, anm, an, aat⟩ : En) (.slice aoa aops.length aoc) (.slice aea aevs.length aec) (.slice aia aop.length aic)) (rb : RdN w (⟨ak, atx, anx, aid, bops, bevs, btn, btm, bop, bta, bnm, bn, bat⟩ : En) (.slice boa bops.length boc) (.slice bea bevs.length bec) (.slice bia bop.length bic)) (fa : aops.length <= 1000000 /\ aevs.length <= 1000000) (fb : bops.length <= 1000000 /\ bevs.length <= 1000000) (hHO : aops = bops) (hd : ¬ (aevs = bevs)) :
  Calls Try.prog 18 #[.agg #[.int .u8 ak, .int .i64 atx, .int .i64 anx, .int .i64 aid, .slice aoa aops.length aoc, .slice aea aevs.length aec, .int .i64 atn, .int .i64 atm, .slice aia aop.length aic, .int .i64 ata, .string anm, .int .i64 an, .int .i64 aat], .agg #[.int .u8 ak, .int .i64 atx, .int .i64 anx, .int .i64 aid, .slice boa bops.length boc, .slice bea bevs.length bec, .int .i64 btn, .int .i64 btm, .slice bia bop.length bic, .int .i64 bta, .string bnm, .int .i64 bn, .int .i64 bat]] w fun e w' => e = .returned (.bool false) /\ Kept w w' [] := by
 obtain ⟨W1, hW1⟩ : ∃ W1, W1 = (w.alloc (.cells #[.int .u8 ak, .int .i64 atx, .int .i64 anx, .int .i64 aid, .slice aoa aops.length aoc, .slice aea aevs.length aec, .int .i64 atn, .int .i64 atm, .slice aia aop.length aic, .int .i64 ata, .string anm, .int .i64 an, .int .i64 aat] 41)).alloc (.cells #[.int .u8 ak, .int .i64 atx, .int .i64 anx, .int .i64 aid, .slice boa bops.length boc, .slice bea bevs.length bec, .int .i64 btn, .int .i64 btm, .slice bia bop.length bic, .int .i64 bta, .string bnm, .int .i64 bn, .int .i64 bat] 41) := ⟨_, rfl⟩
 have hz : (w.alloc (.cells #[.int .u8 ak, .int .i64 atx, .int .i64 anx, .int .i64 aid, .slice aoa aops.length aoc, .slice aea aevs.length aec, .int .i64 atn, .int .i64 atm, .slice aia aop.length aic, .int .i64 ata, .string anm, .int .i64 an, .int .i64 aat] 41)).heap.size = w.heap.size + 1 := by simp
 have k1 : Kept w W1 [] := by rw [hW1]; exact ((Kept.refl w []).alloc _).alloc _
 have b1 : W1.heap[w.heap.size + 1]? = some (.cells #[.int .u8 ak, .int .i64 atx, .int .i64 anx, .int .i64 aid, .slice boa bops.length boc, .slice bea bevs.length bec, .int .i64 btn, .int .i64 btm, .slice bia bop.length bic, .int .i64 bta, .string bnm, .int .i64 bn, .int .i64 bat] 41 (0, 0)) := by rw [hW1, <- hz]; exact heap_alloc_new _ _
 have b2 : W1.heap[w.heap.size]? = some (.cells #[.int .u8 ak, .int .i64 atx, .int .i64 anx, .int .i64 aid, .slice aoa aops.length aoc, .slice aea aevs.length aec, .int .i64 atn, .int .i64 atm, .slice aia aop.length aic, .int .i64 ata, .string anm, .int .i64 an, .int .i64 aat] 41 (0, 0)) := by rw [hW1]; exact ((Kept.refl _ []).alloc _).heap (by simp) (heap_alloc_new w _)
 have HO : RowKit.Hid (∀ V, Kept W1 V [] -> Calls Try.prog 44 #[.slice aoa aops.length aoc, .slice boa bops.length boc] V fun e w' => EqP (aops = bops) V e w') := iH (fun V hV => xqS _ _ _ _ V (ra.ro.keep (k1.trans hV (by simp))) (rb.ro.keep (k1.trans hV (by simp))) fa.1 fb.1)
 have HP : RowKit.Hid (∀ V, Kept W1 V [] -> Calls Try.prog 45 #[.slice aea aevs.length aec, .slice bea bevs.length bec] V fun e w' => EqP (aevs = bevs) V e w') := iH (fun V hV => xqR _ _ _ _ V (ra.re.keep (k1.trans hV (by simp))) (rb.re.keep (k1.trans hV (by simp))) fa.2 fb.2)
 have HS : RowKit.Hid (∀ V, Kept W1 V [] -> Calls Try.prog 46 #[.agg #[.int .i64 atm, .slice aia aop.length aic], .agg #[.int .i64 btm, .slice bia bop.length bic]] V fun e w' => EqP (atm = btm /\ aop = bop) V e w') := iH (fun V hV => (xqJ atm btm _ _ aop bop V (ra.ri.keep (k1.trans hV (by simp))) (rb.ri.keep (k1.trans hV (by simp)))).mono (by
  rintro e w' ⟨rfl, k⟩
  exact ⟨_, rfl, by simp [sameB], k⟩))
 have CS : RowKit.Hid (∀ V, Kept W1 V [] -> ∀ j, V.cell? ⟨w.heap.size, j, none⟩ = (#[.int .u8 ak, .int .i64 atx, .int .i64 anx, .int .i64 aid, .slice aoa aops.length aoc, .slice aea aevs.length aec, .int .i64 atn, .int .i64 atm, .slice aia aop.length aic, .int .i64 ata, .string anm, .int .i64 an, .int .i64 aat] : Array Value)[j]? /\ V.cell? ⟨w.heap.size + 1, j, none⟩ = (#[.int .u8 ak, .int .i64 atx, .int .i64 anx, .int .i64 aid, .slice boa bops.length boc, .slice bea bevs.length bec, .int .i64 btn, .int .i64 btm, .slice bia bop.length bic, .int .i64 bta, .string bnm, .int .i64 bn, .int .i64 bat] : Array Value)[j]?) := iH (fun V hV j => ⟨cell_of_row V _ j _ _ _ (hV.heap (by simp) b2), cell_of_row V _ j _ _ _ (hV.heap (by simp) b1)⟩)
 have K1 := iH k1
 clear ra rb fa fb k1 b1 b2 hz
 have HD := iH hd
 clear hd
 have YHO := iH hHO
 clear hHO
 go_enter Try.func18, Try.ntmps18
 go_wp2_with fail
 rw [<- hW1]
 clear hW1
 refine (EqP.ye (w := W1) (HO.out W1 (Kept.refl W1 [])) YHO.out).mono ?_
 rintro en w2 ⟨rfl, k1⟩
 obtain ⟨pa5, pb5⟩ := CS.out w2 ((Kept.refl W1 []).trans k1 (by simp)) 5
 simp only [List.getElem?_toArray, List.getElem?_cons_zero, List.getElem?_cons_succ] at pa5 pb5
 go_wp2_with fail
 refine (EqP.na (w := W1) (HP.out w2 ((Kept.refl W1 []).trans k1 (by simp))) HD.out).mono ?_
 rintro en w3 ⟨rfl, k2⟩
 clear pa5 pb5
 go_wp2
 go_ret
 exact ⟨rfl, K1.out.trans (((Kept.refl W1 []).trans k1 (by simp)).trans k2 (by simp)) (by simp)⟩
theorem es_ne6 (ak : Int) (atx : Int) (anx : Int) (aid : Int) (aops : List Ox) (aevs : List Px) (atn : Int) (atm : Int) (aop : List Int) (ata : Int) (anm : ByteArray) (an : Int) (aat : Int) (aoa : Option Addr) (aea : Option Addr) (aia : Option Addr) (aoc : Nat) (aec : Nat) (aic : Nat) (bops : List Ox) (bevs : List Px) (btn : Int) (btm : Int) (bop : List Int) (bta : Int) (bnm : ByteArray) (bn : Int) (bat : Int) (boa : Option Addr) (bea : Option Addr) (bia : Option Addr) (boc : Nat) (bec : Nat) (bic : Nat) (w : World) (ra : RdN w (⟨ak, atx, anx, aid, aops, aevs, atn, atm, aop, ata, anm, an, aat⟩ : En) (.slice aoa aops.length aoc) (.slice aea aevs.length aec) (.slice aia aop.length aic)) (rb : RdN w (⟨ak, atx, anx, aid, bops, bevs, btn, btm, bop, bta, bnm, bn, bat⟩ : En) (.slice boa bops.length boc) (.slice bea bevs.length bec) (.slice bia bop.length bic)) (fa : aops.length <= 1000000 /\ aevs.length <= 1000000) (fb : bops.length <= 1000000 /\ bevs.length <= 1000000) (hHO : aops = bops) (hHP : aevs = bevs) (hd : atn ≠ btn) :
  Calls Try.prog 18 #[.agg #[.int .u8 ak, .int .i64 atx, .int .i64 anx, .int .i64 aid, .slice aoa aops.length aoc, .slice aea aevs.length aec, .int .i64 atn, .int .i64 atm, .slice aia aop.length aic, .int .i64 ata, .string anm, .int .i64 an, .int .i64 aat], .agg #[.int .u8 ak, .int .i64 atx, .int .i64 anx, .int .i64 aid, .slice boa bops.length boc, .slice bea bevs.length bec, .int .i64 btn, .int .i64 btm, .slice bia bop.length bic, .int .i64 bta, .string bnm, .int .i64 bn, .int .i64 bat]] w fun e w' => e = .returned (.bool false) /\ Kept w w' [] := by
 obtain ⟨W1, hW1⟩ : ∃ W1, W1 = (w.alloc (.cells #[.int .u8 ak, .int .i64 atx, .int .i64 anx, .int .i64 aid, .slice aoa aops.length aoc, .slice aea aevs.length aec, .int .i64 atn, .int .i64 atm, .slice aia aop.length aic, .int .i64 ata, .string anm, .int .i64 an, .int .i64 aat] 41)).alloc (.cells #[.int .u8 ak, .int .i64 atx, .int .i64 anx, .int .i64 aid, .slice boa bops.length boc, .slice bea bevs.length bec, .int .i64 btn, .int .i64 btm, .slice bia bop.length bic, .int .i64 bta, .string bnm, .int .i64 bn, .int .i64 bat] 41) := ⟨_, rfl⟩
 have hz : (w.alloc (.cells #[.int .u8 ak, .int .i64 atx, .int .i64 anx, .int .i64 aid, .slice aoa aops.length aoc, .slice aea aevs.length aec, .int .i64 atn, .int .i64 atm, .slice aia aop.length aic, .int .i64 ata, .string anm, .int .i64 an, .int .i64 aat] 41)).heap.size = w.heap.size + 1 := by simp
 have k1 : Kept w W1 [] := by rw [hW1]; exact ((Kept.refl w []).alloc _).alloc _
 have b1 : W1.heap[w.heap.size + 1]? = some (.cells #[.int .u8 ak, .int .i64 atx, .int .i64 anx, .int .i64 aid, .slice boa bops.length boc, .slice bea bevs.length bec, .int .i64 btn, .int .i64 btm, .slice bia bop.length bic, .int .i64 bta, .string bnm, .int .i64 bn, .int .i64 bat] 41 (0, 0)) := by rw [hW1, <- hz]; exact heap_alloc_new _ _
 have b2 : W1.heap[w.heap.size]? = some (.cells #[.int .u8 ak, .int .i64 atx, .int .i64 anx, .int .i64 aid, .slice aoa aops.length aoc, .slice aea aevs.length aec, .int .i64 atn, .int .i64 atm, .slice aia aop.length aic, .int .i64 ata, .string anm, .int .i64 an, .int .i64 aat] 41 (0, 0)) := by rw [hW1]; exact ((Kept.refl _ []).alloc _).heap (by simp) (heap_alloc_new w _)
 have HO : RowKit.Hid (∀ V, Kept W1 V [] -> Calls Try.prog 44 #[.slice aoa aops.length aoc, .slice boa bops.length boc] V fun e w' => EqP (aops = bops) V e w') := iH (fun V hV => xqS _ _ _ _ V (ra.ro.keep (k1.trans hV (by simp))) (rb.ro.keep (k1.trans hV (by simp))) fa.1 fb.1)
 have HP : RowKit.Hid (∀ V, Kept W1 V [] -> Calls Try.prog 45 #[.slice aea aevs.length aec, .slice bea bevs.length bec] V fun e w' => EqP (aevs = bevs) V e w') := iH (fun V hV => xqR _ _ _ _ V (ra.re.keep (k1.trans hV (by simp))) (rb.re.keep (k1.trans hV (by simp))) fa.2 fb.2)
 have HS : RowKit.Hid (∀ V, Kept W1 V [] -> Calls Try.prog 46 #[.agg #[.int .i64 atm, .slice aia aop.length aic], .agg #[.int .i64 btm, .slice bia bop.length bic]] V fun e w' => EqP (atm = btm /\ aop = bop) V e w') := iH (fun V hV => (xqJ atm btm _ _ aop bop V (ra.ri.keep (k1.trans hV (by simp))) (rb.ri.keep (k1.trans hV (by simp)))).mono (by
  rintro e w' ⟨rfl, k⟩
  exact ⟨_, rfl, by simp [sameB], k⟩))
 have CS : RowKit.Hid (∀ V, Kept W1 V [] -> ∀ j, V.cell? ⟨w.heap.size, j, none⟩ = (#[.int .u8 ak, .int .i64 atx, .int .i64 anx, .int .i64 aid, .slice aoa aops.length aoc, .slice aea aevs.length aec, .int .i64 atn, .int .i64 atm, .slice aia aop.length aic, .int .i64 ata, .string anm, .int .i64 an, .int .i64 aat] : Array Value)[j]? /\ V.cell? ⟨w.heap.size + 1, j, none⟩ = (#[.int .u8 ak, .int .i64 atx, .int .i64 anx, .int .i64 aid, .slice boa bops.length boc, .slice bea bevs.length bec, .int .i64 btn, .int .i64 btm, .slice bia bop.length bic, .int .i64 bta, .string bnm, .int .i64 bn, .int .i64 bat] : Array Value)[j]?) := iH (fun V hV j => ⟨cell_of_row V _ j _ _ _ (hV.heap (by simp) b2), cell_of_row V _ j _ _ _ (hV.heap (by simp) b1)⟩)
 have K1 := iH k1
 clear ra rb fa fb k1 b1 b2 hz
 have x0 : (atn == btn) = false := beq_eq_false_iff_ne.2 hd
 clear hd
 have YHO := iH hHO
 clear hHO
 have YHP := iH hHP
 clear hHP
 go_enter Try.func18, Try.ntmps18
 go_wp2_with fail
 rw [<- hW1]
 clear hW1
 refine (EqP.ye (w := W1) (HO.out W1 (Kept.refl W1 [])) YHO.out).mono ?_
 rintro en w2 ⟨rfl, k1⟩
 obtain ⟨pa5, pb5⟩ := CS.out w2 ((Kept.refl W1 []).trans k1 (by simp)) 5
 simp only [List.getElem?_toArray, List.getElem?_cons_zero, List.getElem?_cons_succ] at pa5 pb5
 go_wp2_with fail
 refine (EqP.ye (w := W1) (HP.out w2 ((Kept.refl W1 []).trans k1 (by simp))) YHP.out).mono ?_
 rintro en w3 ⟨rfl, k2⟩
 clear pa5 pb5
 obtain ⟨pa6, pb6⟩ := CS.out w3 (((Kept.refl W1 []).trans k1 (by simp)).trans k2 (by simp)) 6
 obtain ⟨pa7, pb7⟩ := CS.out w3 (((Kept.refl W1 []).trans k1 (by simp)).trans k2 (by simp)) 7
 obtain ⟨pa8, pb8⟩ := CS.out w3 (((Kept.refl W1 []).trans k1 (by simp)).trans k2 (by simp)) 8
 simp only [List.getElem?_toArray, List.getElem?_cons_zero, List.getElem?_cons_succ] at pa6 pb6 pa7 pb7 pa8 pb8
 go_wp2
 go_ret
 exact ⟨rfl, K1.out.trans (((Kept.refl W1 []).trans k1 (by simp)).trans k2 (by simp)) (by simp)⟩
theorem es_ne7 (ak : Int) (atx : Int) (anx : Int) (aid : Int) (aops : List Ox) (aevs : List Px) (atn : Int) (atm : Int) (aop : List Int) (ata : Int) (anm : ByteArray) (an : Int) (aat : Int) (aoa : Option Addr) (aea : Option Addr) (aia : Option Addr) (aoc : Nat) (aec : Nat) (aic : Nat) (bops : List Ox) (bevs : List Px) (btm : Int) (bop : List Int) (bta : Int) (bnm : ByteArray) (bn : Int) (bat : Int) (boa : Option Addr) (bea : Option Addr) (bia : Option Addr) (boc : Nat) (bec : Nat) (bic : Nat) (w : World) (ra : RdN w (⟨ak, atx, anx, aid, aops, aevs, atn, atm, aop, ata, anm, an, aat⟩ : En) (.slice aoa aops.length aoc) (.slice aea aevs.length aec) (.slice aia aop.length aic)) (rb : RdN w (⟨ak, atx, anx, aid, bops, bevs, atn, btm, bop, bta, bnm, bn, bat⟩ : En) (.slice boa bops.length boc) (.slice bea bevs.length bec) (.slice bia bop.length bic)) (fa : aops.length <= 1000000 /\ aevs.length <= 1000000) (fb : bops.length <= 1000000 /\ bevs.length <= 1000000) (hHO : aops = bops) (hHP : aevs = bevs) (hd : ¬ (atm = btm /\ aop = bop)) :
  Calls Try.prog 18 #[.agg #[.int .u8 ak, .int .i64 atx, .int .i64 anx, .int .i64 aid, .slice aoa aops.length aoc, .slice aea aevs.length aec, .int .i64 atn, .int .i64 atm, .slice aia aop.length aic, .int .i64 ata, .string anm, .int .i64 an, .int .i64 aat], .agg #[.int .u8 ak, .int .i64 atx, .int .i64 anx, .int .i64 aid, .slice boa bops.length boc, .slice bea bevs.length bec, .int .i64 atn, .int .i64 btm, .slice bia bop.length bic, .int .i64 bta, .string bnm, .int .i64 bn, .int .i64 bat]] w fun e w' => e = .returned (.bool false) /\ Kept w w' [] := by
 obtain ⟨W1, hW1⟩ : ∃ W1, W1 = (w.alloc (.cells #[.int .u8 ak, .int .i64 atx, .int .i64 anx, .int .i64 aid, .slice aoa aops.length aoc, .slice aea aevs.length aec, .int .i64 atn, .int .i64 atm, .slice aia aop.length aic, .int .i64 ata, .string anm, .int .i64 an, .int .i64 aat] 41)).alloc (.cells #[.int .u8 ak, .int .i64 atx, .int .i64 anx, .int .i64 aid, .slice boa bops.length boc, .slice bea bevs.length bec, .int .i64 atn, .int .i64 btm, .slice bia bop.length bic, .int .i64 bta, .string bnm, .int .i64 bn, .int .i64 bat] 41) := ⟨_, rfl⟩
 have hz : (w.alloc (.cells #[.int .u8 ak, .int .i64 atx, .int .i64 anx, .int .i64 aid, .slice aoa aops.length aoc, .slice aea aevs.length aec, .int .i64 atn, .int .i64 atm, .slice aia aop.length aic, .int .i64 ata, .string anm, .int .i64 an, .int .i64 aat] 41)).heap.size = w.heap.size + 1 := by simp
 have k1 : Kept w W1 [] := by rw [hW1]; exact ((Kept.refl w []).alloc _).alloc _
 have b1 : W1.heap[w.heap.size + 1]? = some (.cells #[.int .u8 ak, .int .i64 atx, .int .i64 anx, .int .i64 aid, .slice boa bops.length boc, .slice bea bevs.length bec, .int .i64 atn, .int .i64 btm, .slice bia bop.length bic, .int .i64 bta, .string bnm, .int .i64 bn, .int .i64 bat] 41 (0, 0)) := by rw [hW1, <- hz]; exact heap_alloc_new _ _
 have b2 : W1.heap[w.heap.size]? = some (.cells #[.int .u8 ak, .int .i64 atx, .int .i64 anx, .int .i64 aid, .slice aoa aops.length aoc, .slice aea aevs.length aec, .int .i64 atn, .int .i64 atm, .slice aia aop.length aic, .int .i64 ata, .string anm, .int .i64 an, .int .i64 aat] 41 (0, 0)) := by rw [hW1]; exact ((Kept.refl _ []).alloc _).heap (by simp) (heap_alloc_new w _)
 have HO : RowKit.Hid (∀ V, Kept W1 V [] -> Calls Try.prog 44 #[.slice aoa aops.length aoc, .slice boa bops.length boc] V fun e w' => EqP (aops = bops) V e w') := iH (fun V hV => xqS _ _ _ _ V (ra.ro.keep (k1.trans hV (by simp))) (rb.ro.keep (k1.trans hV (by simp))) fa.1 fb.1)
 have HP : RowKit.Hid (∀ V, Kept W1 V [] -> Calls Try.prog 45 #[.slice aea aevs.length aec, .slice bea bevs.length bec] V fun e w' => EqP (aevs = bevs) V e w') := iH (fun V hV => xqR _ _ _ _ V (ra.re.keep (k1.trans hV (by simp))) (rb.re.keep (k1.trans hV (by simp))) fa.2 fb.2)
 have HS : RowKit.Hid (∀ V, Kept W1 V [] -> Calls Try.prog 46 #[.agg #[.int .i64 atm, .slice aia aop.length aic], .agg #[.int .i64 btm, .slice bia bop.length bic]] V fun e w' => EqP (atm = btm /\ aop = bop) V e w') := iH (fun V hV => (xqJ atm btm _ _ aop bop V (ra.ri.keep (k1.trans hV (by simp))) (rb.ri.keep (k1.trans hV (by simp)))).mono (by
  rintro e w' ⟨rfl, k⟩
  exact ⟨_, rfl, by simp [sameB], k⟩))
 have CS : RowKit.Hid (∀ V, Kept W1 V [] -> ∀ j, V.cell? ⟨w.heap.size, j, none⟩ = (#[.int .u8 ak, .int .i64 atx, .int .i64 anx, .int .i64 aid, .slice aoa aops.length aoc, .slice aea aevs.length aec, .int .i64 atn, .int .i64 atm, .slice aia aop.length aic, .int .i64 ata, .string anm, .int .i64 an, .int .i64 aat] : Array Value)[j]? /\ V.cell? ⟨w.heap.size + 1, j, none⟩ = (#[.int .u8 ak, .int .i64 atx, .int .i64 anx, .int .i64 aid, .slice boa bops.length boc, .slice bea bevs.length bec, .int .i64 atn, .int .i64 btm, .slice bia bop.length bic, .int .i64 bta, .string bnm, .int .i64 bn, .int .i64 bat] : Array Value)[j]?) := iH (fun V hV j => ⟨cell_of_row V _ j _ _ _ (hV.heap (by simp) b2), cell_of_row V _ j _ _ _ (hV.heap (by simp) b1)⟩)
 have K1 := iH k1
 clear ra rb fa fb k1 b1 b2 hz
 have HD := iH hd
 clear hd
 have YHO := iH hHO
 clear hHO
 have YHP := iH hHP
 clear hHP
 go_enter Try.func18, Try.ntmps18
 go_wp2_with fail
 rw [<- hW1]
 clear hW1
 refine (EqP.ye (w := W1) (HO.out W1 (Kept.refl W1 [])) YHO.out).mono ?_
 rintro en w2 ⟨rfl, k1⟩
 obtain ⟨pa5, pb5⟩ := CS.out w2 ((Kept.refl W1 []).trans k1 (by simp)) 5
 simp only [List.getElem?_toArray, List.getElem?_cons_zero, List.getElem?_cons_succ] at pa5 pb5
 go_wp2_with fail
 refine (EqP.ye (w := W1) (HP.out w2 ((Kept.refl W1 []).trans k1 (by simp))) YHP.out).mono ?_
 rintro en w3 ⟨rfl, k2⟩
 clear pa5 pb5
 obtain ⟨pa6, pb6⟩ := CS.out w3 (((Kept.refl W1 []).trans k1 (by simp)).trans k2 (by simp)) 6
 obtain ⟨pa7, pb7⟩ := CS.out w3 (((Kept.refl W1 []).trans k1 (by simp)).trans k2 (by simp)) 7
 obtain ⟨pa8, pb8⟩ := CS.out w3 (((Kept.refl W1 []).trans k1 (by simp)).trans k2 (by simp)) 8
 simp only [List.getElem?_toArray, List.getElem?_cons_zero, List.getElem?_cons_succ] at pa6 pb6 pa7 pb7 pa8 pb8
 go_wp2_with fail
 refine (EqP.na (w := W1) (HS.out w3 (((Kept.refl W1 []).trans k1 (by simp)).trans k2 (by simp))) HD.out).mono ?_
 rintro en w4 ⟨rfl, k3⟩
 clear pa6 pb6 pa7 pb7 pa8 pb8
 go_wp2
 go_ret
 exact ⟨rfl, K1.out.trans ((((Kept.refl W1 []).trans k1 (by simp)).trans k2 (by simp)).trans k3 (by simp)) (by simp)⟩
theorem es_ne8 (ak : Int) (atx : Int) (anx : Int) (aid : Int) (aops : List Ox) (aevs : List Px) (atn : Int) (atm : Int) (aop : List Int) (ata : Int) (anm : ByteArray) (an : Int) (aat : Int) (aoa : Option Addr) (aea : Option Addr) (aia : Option Addr) (aoc : Nat) (aec : Nat) (aic : Nat) (bops : List Ox) (bevs : List Px) (btm : Int) (bop : List Int) (bta : Int) (bnm : ByteArray) (bn : Int) (bat : Int) (boa : Option Addr) (bea : Option Addr) (bia : Option Addr) (boc : Nat) (bec : Nat) (bic : Nat) (w : World) (ra : RdN w (⟨ak, atx, anx, aid, aops, aevs, atn, atm, aop, ata, anm, an, aat⟩ : En) (.slice aoa aops.length aoc) (.slice aea aevs.length aec) (.slice aia aop.length aic)) (rb : RdN w (⟨ak, atx, anx, aid, bops, bevs, atn, btm, bop, bta, bnm, bn, bat⟩ : En) (.slice boa bops.length boc) (.slice bea bevs.length bec) (.slice bia bop.length bic)) (fa : aops.length <= 1000000 /\ aevs.length <= 1000000) (fb : bops.length <= 1000000 /\ bevs.length <= 1000000) (hHO : aops = bops) (hHP : aevs = bevs) (hHS : atm = btm /\ aop = bop) (hd : ata ≠ bta) :
  Calls Try.prog 18 #[.agg #[.int .u8 ak, .int .i64 atx, .int .i64 anx, .int .i64 aid, .slice aoa aops.length aoc, .slice aea aevs.length aec, .int .i64 atn, .int .i64 atm, .slice aia aop.length aic, .int .i64 ata, .string anm, .int .i64 an, .int .i64 aat], .agg #[.int .u8 ak, .int .i64 atx, .int .i64 anx, .int .i64 aid, .slice boa bops.length boc, .slice bea bevs.length bec, .int .i64 atn, .int .i64 btm, .slice bia bop.length bic, .int .i64 bta, .string bnm, .int .i64 bn, .int .i64 bat]] w fun e w' => e = .returned (.bool false) /\ Kept w w' [] := by
 obtain ⟨W1, hW1⟩ : ∃ W1, W1 = (w.alloc (.cells #[.int .u8 ak, .int .i64 atx, .int .i64 anx, .int .i64 aid, .slice aoa aops.length aoc, .slice aea aevs.length aec, .int .i64 atn, .int .i64 atm, .slice aia aop.length aic, .int .i64 ata, .string anm, .int .i64 an, .int .i64 aat] 41)).alloc (.cells #[.int .u8 ak, .int .i64 atx, .int .i64 anx, .int .i64 aid, .slice boa bops.length boc, .slice bea bevs.length bec, .int .i64 atn, .int .i64 btm, .slice bia bop.length bic, .int .i64 bta, .string bnm, .int .i64 bn, .int .i64 bat] 41) := ⟨_, rfl⟩
 have hz : (w.alloc (.cells #[.int .u8 ak, .int .i64 atx, .int .i64 anx, .int .i64 aid, .slice aoa aops.length aoc, .slice aea aevs.length aec, .int .i64 atn, .int .i64 atm, .slice aia aop.length aic, .int .i64 ata, .string anm, .int .i64 an, .int .i64 aat] 41)).heap.size = w.heap.size + 1 := by simp
 have k1 : Kept w W1 [] := by rw [hW1]; exact ((Kept.refl w []).alloc _).alloc _
 have b1 : W1.heap[w.heap.size + 1]? = some (.cells #[.int .u8 ak, .int .i64 atx, .int .i64 anx, .int .i64 aid, .slice boa bops.length boc, .slice bea bevs.length bec, .int .i64 atn, .int .i64 btm, .slice bia bop.length bic, .int .i64 bta, .string bnm, .int .i64 bn, .int .i64 bat] 41 (0, 0)) := by rw [hW1, <- hz]; exact heap_alloc_new _ _
 have b2 : W1.heap[w.heap.size]? = some (.cells #[.int .u8 ak, .int .i64 atx, .int .i64 anx, .int .i64 aid, .slice aoa aops.length aoc, .slice aea aevs.length aec, .int .i64 atn, .int .i64 atm, .slice aia aop.length aic, .int .i64 ata, .string anm, .int .i64 an, .int .i64 aat] 41 (0, 0)) := by rw [hW1]; exact ((Kept.refl _ []).alloc _).heap (by simp) (heap_alloc_new w _)
 have HO : RowKit.Hid (∀ V, Kept W1 V [] -> Calls Try.prog 44 #[.slice aoa aops.length aoc, .slice boa bops.length boc] V fun e w' => EqP (aops = bops) V e w') := iH (fun V hV => xqS _ _ _ _ V (ra.ro.keep (k1.trans hV (by simp))) (rb.ro.keep (k1.trans hV (by simp))) fa.1 fb.1)
 have HP : RowKit.Hid (∀ V, Kept W1 V [] -> Calls Try.prog 45 #[.slice aea aevs.length aec, .slice bea bevs.length bec] V fun e w' => EqP (aevs = bevs) V e w') := iH (fun V hV => xqR _ _ _ _ V (ra.re.keep (k1.trans hV (by simp))) (rb.re.keep (k1.trans hV (by simp))) fa.2 fb.2)
 have HS : RowKit.Hid (∀ V, Kept W1 V [] -> Calls Try.prog 46 #[.agg #[.int .i64 atm, .slice aia aop.length aic], .agg #[.int .i64 btm, .slice bia bop.length bic]] V fun e w' => EqP (atm = btm /\ aop = bop) V e w') := iH (fun V hV => (xqJ atm btm _ _ aop bop V (ra.ri.keep (k1.trans hV (by simp))) (rb.ri.keep (k1.trans hV (by simp)))).mono (by
  rintro e w' ⟨rfl, k⟩
  exact ⟨_, rfl, by simp [sameB], k⟩))
 have CS : RowKit.Hid (∀ V, Kept W1 V [] -> ∀ j, V.cell? ⟨w.heap.size, j, none⟩ = (#[.int .u8 ak, .int .i64 atx, .int .i64 anx, .int .i64 aid, .slice aoa aops.length aoc, .slice aea aevs.length aec, .int .i64 atn, .int .i64 atm, .slice aia aop.length aic, .int .i64 ata, .string anm, .int .i64 an, .int .i64 aat] : Array Value)[j]? /\ V.cell? ⟨w.heap.size + 1, j, none⟩ = (#[.int .u8 ak, .int .i64 atx, .int .i64 anx, .int .i64 aid, .slice boa bops.length boc, .slice bea bevs.length bec, .int .i64 atn, .int .i64 btm, .slice bia bop.length bic, .int .i64 bta, .string bnm, .int .i64 bn, .int .i64 bat] : Array Value)[j]?) := iH (fun V hV j => ⟨cell_of_row V _ j _ _ _ (hV.heap (by simp) b2), cell_of_row V _ j _ _ _ (hV.heap (by simp) b1)⟩)
 have K1 := iH k1
 clear ra rb fa fb k1 b1 b2 hz
 have x0 : (ata == bta) = false := beq_eq_false_iff_ne.2 hd
 clear hd
 have YHO := iH hHO
 clear hHO
 have YHP := iH hHP
 clear hHP
 have YHS := iH hHS
 clear hHS
 go_enter Try.func18, Try.ntmps18
 go_wp2_with fail
 rw [<- hW1]
 clear hW1
 refine (EqP.ye (w := W1) (HO.out W1 (Kept.refl W1 [])) YHO.out).mono ?_
 rintro en w2 ⟨rfl, k1⟩
 obtain ⟨pa5, pb5⟩ := CS.out w2 ((Kept.refl W1 []).trans k1 (by simp)) 5
 simp only [List.getElem?_toArray, List.getElem?_cons_zero, List.getElem?_cons_succ] at pa5 pb5
 go_wp2_with fail
 refine (EqP.ye (w := W1) (HP.out w2 ((Kept.refl W1 []).trans k1 (by simp))) YHP.out).mono ?_
 rintro en w3 ⟨rfl, k2⟩
 clear pa5 pb5
 obtain ⟨pa6, pb6⟩ := CS.out w3 (((Kept.refl W1 []).trans k1 (by simp)).trans k2 (by simp)) 6
 obtain ⟨pa7, pb7⟩ := CS.out w3 (((Kept.refl W1 []).trans k1 (by simp)).trans k2 (by simp)) 7
 obtain ⟨pa8, pb8⟩ := CS.out w3 (((Kept.refl W1 []).trans k1 (by simp)).trans k2 (by simp)) 8
 simp only [List.getElem?_toArray, List.getElem?_cons_zero, List.getElem?_cons_succ] at pa6 pb6 pa7 pb7 pa8 pb8
 go_wp2_with fail
 refine (EqP.ye (w := W1) (HS.out w3 (((Kept.refl W1 []).trans k1 (by simp)).trans k2 (by simp))) YHS.out).mono ?_
 rintro en w4 ⟨rfl, k3⟩
 clear pa6 pb6 pa7 pb7 pa8 pb8
 obtain ⟨pa9, pb9⟩ := CS.out w4 ((((Kept.refl W1 []).trans k1 (by simp)).trans k2 (by simp)).trans k3 (by simp)) 9
 obtain ⟨pa10, pb10⟩ := CS.out w4 ((((Kept.refl W1 []).trans k1 (by simp)).trans k2 (by simp)).trans k3 (by simp)) 10
 obtain ⟨pa11, pb11⟩ := CS.out w4 ((((Kept.refl W1 []).trans k1 (by simp)).trans k2 (by simp)).trans k3 (by simp)) 11
 obtain ⟨pa12, pb12⟩ := CS.out w4 ((((Kept.refl W1 []).trans k1 (by simp)).trans k2 (by simp)).trans k3 (by simp)) 12
 simp only [List.getElem?_toArray, List.getElem?_cons_zero, List.getElem?_cons_succ] at pa9 pb9 pa10 pb10 pa11 pb11 pa12 pb12
 go_wp2
 go_ret
 exact ⟨rfl, K1.out.trans ((((Kept.refl W1 []).trans k1 (by simp)).trans k2 (by simp)).trans k3 (by simp)) (by simp)⟩
theorem es_ne9 (ak : Int) (atx : Int) (anx : Int) (aid : Int) (aops : List Ox) (aevs : List Px) (atn : Int) (atm : Int) (aop : List Int) (ata : Int) (anm : ByteArray) (an : Int) (aat : Int) (aoa : Option Addr) (aea : Option Addr) (aia : Option Addr) (aoc : Nat) (aec : Nat) (aic : Nat) (bops : List Ox) (bevs : List Px) (btm : Int) (bop : List Int) (bnm : ByteArray) (bn : Int) (bat : Int) (boa : Option Addr) (bea : Option Addr) (bia : Option Addr) (boc : Nat) (bec : Nat) (bic : Nat) (w : World) (ra : RdN w (⟨ak, atx, anx, aid, aops, aevs, atn, atm, aop, ata, anm, an, aat⟩ : En) (.slice aoa aops.length aoc) (.slice aea aevs.length aec) (.slice aia aop.length aic)) (rb : RdN w (⟨ak, atx, anx, aid, bops, bevs, atn, btm, bop, ata, bnm, bn, bat⟩ : En) (.slice boa bops.length boc) (.slice bea bevs.length bec) (.slice bia bop.length bic)) (fa : aops.length <= 1000000 /\ aevs.length <= 1000000) (fb : bops.length <= 1000000 /\ bevs.length <= 1000000) (hHO : aops = bops) (hHP : aevs = bevs) (hHS : atm = btm /\ aop = bop) (hd : anm ≠ bnm) :
  Calls Try.prog 18 #[.agg #[.int .u8 ak, .int .i64 atx, .int .i64 anx, .int .i64 aid, .slice aoa aops.length aoc, .slice aea aevs.length aec, .int .i64 atn, .int .i64 atm, .slice aia aop.length aic, .int .i64 ata, .string anm, .int .i64 an, .int .i64 aat], .agg #[.int .u8 ak, .int .i64 atx, .int .i64 anx, .int .i64 aid, .slice boa bops.length boc, .slice bea bevs.length bec, .int .i64 atn, .int .i64 btm, .slice bia bop.length bic, .int .i64 ata, .string bnm, .int .i64 bn, .int .i64 bat]] w fun e w' => e = .returned (.bool false) /\ Kept w w' [] := by
 obtain ⟨W1, hW1⟩ : ∃ W1, W1 = (w.alloc (.cells #[.int .u8 ak, .int .i64 atx, .int .i64 anx, .int .i64 aid, .slice aoa aops.length aoc, .slice aea aevs.length aec, .int .i64 atn, .int .i64 atm, .slice aia aop.length aic, .int .i64 ata, .string anm, .int .i64 an, .int .i64 aat] 41)).alloc (.cells #[.int .u8 ak, .int .i64 atx, .int .i64 anx, .int .i64 aid, .slice boa bops.length boc, .slice bea bevs.length bec, .int .i64 atn, .int .i64 btm, .slice bia bop.length bic, .int .i64 ata, .string bnm, .int .i64 bn, .int .i64 bat] 41) := ⟨_, rfl⟩
 have hz : (w.alloc (.cells #[.int .u8 ak, .int .i64 atx, .int .i64 anx, .int .i64 aid, .slice aoa aops.length aoc, .slice aea aevs.length aec, .int .i64 atn, .int .i64 atm, .slice aia aop.length aic, .int .i64 ata, .string anm, .int .i64 an, .int .i64 aat] 41)).heap.size = w.heap.size + 1 := by simp
 have k1 : Kept w W1 [] := by rw [hW1]; exact ((Kept.refl w []).alloc _).alloc _
 have b1 : W1.heap[w.heap.size + 1]? = some (.cells #[.int .u8 ak, .int .i64 atx, .int .i64 anx, .int .i64 aid, .slice boa bops.length boc, .slice bea bevs.length bec, .int .i64 atn, .int .i64 btm, .slice bia bop.length bic, .int .i64 ata, .string bnm, .int .i64 bn, .int .i64 bat] 41 (0, 0)) := by rw [hW1, <- hz]; exact heap_alloc_new _ _
 have b2 : W1.heap[w.heap.size]? = some (.cells #[.int .u8 ak, .int .i64 atx, .int .i64 anx, .int .i64 aid, .slice aoa aops.length aoc, .slice aea aevs.length aec, .int .i64 atn, .int .i64 atm, .slice aia aop.length aic, .int .i64 ata, .string anm, .int .i64 an, .int .i64 aat] 41 (0, 0)) := by rw [hW1]; exact ((Kept.refl _ []).alloc _).heap (by simp) (heap_alloc_new w _)
 have HO : RowKit.Hid (∀ V, Kept W1 V [] -> Calls Try.prog 44 #[.slice aoa aops.length aoc, .slice boa bops.length boc] V fun e w' => EqP (aops = bops) V e w') := iH (fun V hV => xqS _ _ _ _ V (ra.ro.keep (k1.trans hV (by simp))) (rb.ro.keep (k1.trans hV (by simp))) fa.1 fb.1)
 have HP : RowKit.Hid (∀ V, Kept W1 V [] -> Calls Try.prog 45 #[.slice aea aevs.length aec, .slice bea bevs.length bec] V fun e w' => EqP (aevs = bevs) V e w') := iH (fun V hV => xqR _ _ _ _ V (ra.re.keep (k1.trans hV (by simp))) (rb.re.keep (k1.trans hV (by simp))) fa.2 fb.2)
 have HS : RowKit.Hid (∀ V, Kept W1 V [] -> Calls Try.prog 46 #[.agg #[.int .i64 atm, .slice aia aop.length aic], .agg #[.int .i64 btm, .slice bia bop.length bic]] V fun e w' => EqP (atm = btm /\ aop = bop) V e w') := iH (fun V hV => (xqJ atm btm _ _ aop bop V (ra.ri.keep (k1.trans hV (by simp))) (rb.ri.keep (k1.trans hV (by simp)))).mono (by
  rintro e w' ⟨rfl, k⟩
  exact ⟨_, rfl, by simp [sameB], k⟩))
 have CS : RowKit.Hid (∀ V, Kept W1 V [] -> ∀ j, V.cell? ⟨w.heap.size, j, none⟩ = (#[.int .u8 ak, .int .i64 atx, .int .i64 anx, .int .i64 aid, .slice aoa aops.length aoc, .slice aea aevs.length aec, .int .i64 atn, .int .i64 atm, .slice aia aop.length aic, .int .i64 ata, .string anm, .int .i64 an, .int .i64 aat] : Array Value)[j]? /\ V.cell? ⟨w.heap.size + 1, j, none⟩ = (#[.int .u8 ak, .int .i64 atx, .int .i64 anx, .int .i64 aid, .slice boa bops.length boc, .slice bea bevs.length bec, .int .i64 atn, .int .i64 btm, .slice bia bop.length bic, .int .i64 ata, .string bnm, .int .i64 bn, .int .i64 bat] : Array Value)[j]?) := iH (fun V hV j => ⟨cell_of_row V _ j _ _ _ (hV.heap (by simp) b2), cell_of_row V _ j _ _ _ (hV.heap (by simp) b1)⟩)
 have K1 := iH k1
 clear ra rb fa fb k1 b1 b2 hz
 have x1 : (anm.toList == bnm.toList) = false := by rw [beq_eq_false_iff_ne]; intro e; apply hd; rw [ByteArray.toList_eq, ByteArray.toList_eq] at e; exact ByteArray.ext (Array.toList_inj.1 e)
 have x0 : (anm == bnm) = false := by rw [beq_toListBytes]; exact x1
 clear hd
 have YHO := iH hHO
 clear hHO
 have YHP := iH hHP
 clear hHP
 have YHS := iH hHS
 clear hHS
 go_enter Try.func18, Try.ntmps18
 go_wp2_with fail
 rw [<- hW1]
 clear hW1
 refine (EqP.ye (w := W1) (HO.out W1 (Kept.refl W1 [])) YHO.out).mono ?_
 rintro en w2 ⟨rfl, k1⟩
 obtain ⟨pa5, pb5⟩ := CS.out w2 ((Kept.refl W1 []).trans k1 (by simp)) 5
 simp only [List.getElem?_toArray, List.getElem?_cons_zero, List.getElem?_cons_succ] at pa5 pb5
 go_wp2_with fail
 refine (EqP.ye (w := W1) (HP.out w2 ((Kept.refl W1 []).trans k1 (by simp))) YHP.out).mono ?_
 rintro en w3 ⟨rfl, k2⟩
 clear pa5 pb5
 obtain ⟨pa6, pb6⟩ := CS.out w3 (((Kept.refl W1 []).trans k1 (by simp)).trans k2 (by simp)) 6
 obtain ⟨pa7, pb7⟩ := CS.out w3 (((Kept.refl W1 []).trans k1 (by simp)).trans k2 (by simp)) 7
 obtain ⟨pa8, pb8⟩ := CS.out w3 (((Kept.refl W1 []).trans k1 (by simp)).trans k2 (by simp)) 8
 simp only [List.getElem?_toArray, List.getElem?_cons_zero, List.getElem?_cons_succ] at pa6 pb6 pa7 pb7 pa8 pb8
 go_wp2_with fail
 refine (EqP.ye (w := W1) (HS.out w3 (((Kept.refl W1 []).trans k1 (by simp)).trans k2 (by simp))) YHS.out).mono ?_
 rintro en w4 ⟨rfl, k3⟩
 clear pa6 pb6 pa7 pb7 pa8 pb8
 obtain ⟨pa9, pb9⟩ := CS.out w4 ((((Kept.refl W1 []).trans k1 (by simp)).trans k2 (by simp)).trans k3 (by simp)) 9
 obtain ⟨pa10, pb10⟩ := CS.out w4 ((((Kept.refl W1 []).trans k1 (by simp)).trans k2 (by simp)).trans k3 (by simp)) 10
 obtain ⟨pa11, pb11⟩ := CS.out w4 ((((Kept.refl W1 []).trans k1 (by simp)).trans k2 (by simp)).trans k3 (by simp)) 11
 obtain ⟨pa12, pb12⟩ := CS.out w4 ((((Kept.refl W1 []).trans k1 (by simp)).trans k2 (by simp)).trans k3 (by simp)) 12
 simp only [List.getElem?_toArray, List.getElem?_cons_zero, List.getElem?_cons_succ] at pa9 pb9 pa10 pb10 pa11 pb11 pa12 pb12
 go_wp2
 go_ret
 exact ⟨rfl, K1.out.trans ((((Kept.refl W1 []).trans k1 (by simp)).trans k2 (by simp)).trans k3 (by simp)) (by simp)⟩
end Go.Proofs.Ytjdbmlifekghfaa
