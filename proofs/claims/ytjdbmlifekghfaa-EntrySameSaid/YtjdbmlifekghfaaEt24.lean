/-
  Eqf, Eqk in one text.
-/
import Derived.Test.YtjdbmlifekghfaaEt0
import Derived.Test.YtjdbmlifekghfaaEt22
set_option linter.unusedVariables false
set_option maxHeartbeats 16000000
set_option maxRecDepth 100000
namespace Go.Proofs.Ytjdbmlifekghfaa
open Go.RowKit
theorem rs_ne7 (ak : Int) (atx : Int) (anx : Int) (aid : Int) (aops : List Ox) (aevs : List Px) (atn : Int) (atm : Int) (aop : List Int) (ata : Int) (anm : ByteArray) (an : Int) (aat : Int) (aoa : Option Addr) (aea : Option Addr) (aia : Option Addr) (aoc : Nat) (aec : Nat) (aic : Nat) (bops : List Ox) (bevs : List Px) (btn : Int) (btm : Int) (bop : List Int) (bta : Int) (boa : Option Addr) (bea : Option Addr) (bia : Option Addr) (boc : Nat) (bec : Nat) (bic : Nat) (w : World) (ra : RdN w (⟨ak, atx, anx, aid, aops, aevs, atn, atm, aop, ata, anm, an, aat⟩ : En) (.slice aoa aops.length aoc) (.slice aea aevs.length aec) (.slice aia aop.length aic)) (rb : RdN w (⟨ak, atx, anx, aid, bops, bevs, btn, btm, bop, bta, anm, an, aat⟩ : En) (.slice boa bops.length boc) (.slice bea bevs.length bec) (.slice bia bop.length bic)) (hd : ¬ (atn = btn /\ ata = bta /\ atm = btm /\ aop = bop)) :
  Calls Try.prog 19 #[.agg #[.int .u8 ak, .int .i64 atx, .int .i64 anx, .int .i64 aid, .slice aoa aops.length aoc, .slice aea aevs.length aec, .int .i64 atn, .int .i64 atm, .slice aia aop.length aic, .int .i64 ata, .string anm, .int .i64 an, .int .i64 aat], .agg #[.int .u8 ak, .int .i64 atx, .int .i64 anx, .int .i64 aid, .slice boa bops.length boc, .slice bea bevs.length bec, .int .i64 btn, .int .i64 btm, .slice bia bop.length bic, .int .i64 bta, .string anm, .int .i64 an, .int .i64 aat]] w fun e w' => e = .returned (.bool false) /\ Kept w w' [] := by
 obtain ⟨W1, hW1⟩ : ∃ W1, W1 = (w.alloc (.cells #[.int .u8 ak, .int .i64 atx, .int .i64 anx, .int .i64 aid, .slice aoa aops.length aoc, .slice aea aevs.length aec, .int .i64 atn, .int .i64 atm, .slice aia aop.length aic, .int .i64 ata, .string anm, .int .i64 an, .int .i64 aat] 35)).alloc (.cells #[.int .u8 ak, .int .i64 atx, .int .i64 anx, .int .i64 aid, .slice boa bops.length boc, .slice bea bevs.length bec, .int .i64 btn, .int .i64 btm, .slice bia bop.length bic, .int .i64 bta, .string anm, .int .i64 an, .int .i64 aat] 35) := ⟨_, rfl⟩
 have hz : (w.alloc (.cells #[.int .u8 ak, .int .i64 atx, .int .i64 anx, .int .i64 aid, .slice aoa aops.length aoc, .slice aea aevs.length aec, .int .i64 atn, .int .i64 atm, .slice aia aop.length aic, .int .i64 ata, .string anm, .int .i64 an, .int .i64 aat] 35)).heap.size = w.heap.size + 1 := by simp
 have k1 : Kept w W1 [] := by rw [hW1]; exact ((Kept.refl w []).alloc _).alloc _
 have b1 : W1.heap[w.heap.size + 1]? = some (.cells #[.int .u8 ak, .int .i64 atx, .int .i64 anx, .int .i64 aid, .slice boa bops.length boc, .slice bea bevs.length bec, .int .i64 btn, .int .i64 btm, .slice bia bop.length bic, .int .i64 bta, .string anm, .int .i64 an, .int .i64 aat] 35 (0, 0)) := by rw [hW1, <- hz]; exact heap_alloc_new _ _
 have b2 : W1.heap[w.heap.size]? = some (.cells #[.int .u8 ak, .int .i64 atx, .int .i64 anx, .int .i64 aid, .slice aoa aops.length aoc, .slice aea aevs.length aec, .int .i64 atn, .int .i64 atm, .slice aia aop.length aic, .int .i64 ata, .string anm, .int .i64 an, .int .i64 aat] 35 (0, 0)) := by rw [hW1]; exact ((Kept.refl _ []).alloc _).heap (by simp) (heap_alloc_new w _)
 have HT := iH (xqB atn atm ata btn btm bta aia bia aop.length aic bop.length bic aop bop W1 (ra.ri.keep k1) (rb.ri.keep k1))
 have CS : RowKit.Hid (∀ V, Kept W1 V [] -> ∀ j, V.cell? ⟨w.heap.size, j, none⟩ = (#[.int .u8 ak, .int .i64 atx, .int .i64 anx, .int .i64 aid, .slice aoa aops.length aoc, .slice aea aevs.length aec, .int .i64 atn, .int .i64 atm, .slice aia aop.length aic, .int .i64 ata, .string anm, .int .i64 an, .int .i64 aat] : Array Value)[j]? /\ V.cell? ⟨w.heap.size + 1, j, none⟩ = (#[.int .u8 ak, .int .i64 atx, .int .i64 anx, .int .i64 aid, .slice boa bops.length boc, .slice bea bevs.length bec, .int .i64 btn, .int .i64 btm, .slice bia bop.length bic, .int .i64 bta, .string anm, .int .i64 an, .int .i64 aat] : Array Value)[j]?) := iH (fun V hV j => ⟨cell_of_row V _ j _ _ _ (hV.heap (by simp) b2), cell_of_row V _ j _ _ _ (hV.heap (by simp) b1)⟩)
 have K1 := iH k1
 clear ra rb k1 b1 b2 hz
 have HD := iH hd
 clear hd
 go_enter Try.func19, Try.ntmps19
 go_wp2_with fail
 rw [<- hW1]
 clear hW1
 refine (EqP.na (w := W1) HT.out HD.out).mono ?_
 rintro en w2 ⟨rfl, k2⟩
 go_wp2
 go_ret
 exact ⟨rfl, K1.out.trans k2 (by simp)⟩
theorem rs_ne8 (ak : Int) (atx : Int) (anx : Int) (aid : Int) (aops : List Ox) (aevs : List Px) (atn : Int) (atm : Int) (aop : List Int) (ata : Int) (anm : ByteArray) (an : Int) (aat : Int) (aoa : Option Addr) (aea : Option Addr) (aia : Option Addr) (aoc : Nat) (aec : Nat) (aic : Nat) (bops : List Ox) (bevs : List Px) (btn : Int) (btm : Int) (bop : List Int) (bta : Int) (boa : Option Addr) (bea : Option Addr) (bia : Option Addr) (boc : Nat) (bec : Nat) (bic : Nat) (w : World) (ra : RdN w (⟨ak, atx, anx, aid, aops, aevs, atn, atm, aop, ata, anm, an, aat⟩ : En) (.slice aoa aops.length aoc) (.slice aea aevs.length aec) (.slice aia aop.length aic)) (rb : RdN w (⟨ak, atx, anx, aid, bops, bevs, btn, btm, bop, bta, anm, an, aat⟩ : En) (.slice boa bops.length boc) (.slice bea bevs.length bec) (.slice bia bop.length bic)) (het : atn = btn /\ ata = bta /\ atm = btm /\ aop = bop) (hd : aops.length ≠ bops.length) :
  Calls Try.prog 19 #[.agg #[.int .u8 ak, .int .i64 atx, .int .i64 anx, .int .i64 aid, .slice aoa aops.length aoc, .slice aea aevs.length aec, .int .i64 atn, .int .i64 atm, .slice aia aop.length aic, .int .i64 ata, .string anm, .int .i64 an, .int .i64 aat], .agg #[.int .u8 ak, .int .i64 atx, .int .i64 anx, .int .i64 aid, .slice boa bops.length boc, .slice bea bevs.length bec, .int .i64 btn, .int .i64 btm, .slice bia bop.length bic, .int .i64 bta, .string anm, .int .i64 an, .int .i64 aat]] w fun e w' => e = .returned (.bool false) /\ Kept w w' [] := by
 obtain ⟨W1, hW1⟩ : ∃ W1, W1 = (w.alloc (.cells #[.int .u8 ak, .int .i64 atx, .int .i64 anx, .int .i64 aid, .slice aoa aops.length aoc, .slice aea aevs.length aec, .int .i64 atn, .int .i64 atm, .slice aia aop.length aic, .int .i64 ata, .string anm, .int .i64 an, .int .i64 aat] 35)).alloc (.cells #[.int .u8 ak, .int .i64 atx, .int .i64 anx, .int .i64 aid, .slice boa bops.length boc, .slice bea bevs.length bec, .int .i64 btn, .int .i64 btm, .slice bia bop.length bic, .int .i64 bta, .string anm, .int .i64 an, .int .i64 aat] 35) := ⟨_, rfl⟩
 have hz : (w.alloc (.cells #[.int .u8 ak, .int .i64 atx, .int .i64 anx, .int .i64 aid, .slice aoa aops.length aoc, .slice aea aevs.length aec, .int .i64 atn, .int .i64 atm, .slice aia aop.length aic, .int .i64 ata, .string anm, .int .i64 an, .int .i64 aat] 35)).heap.size = w.heap.size + 1 := by simp
 have k1 : Kept w W1 [] := by rw [hW1]; exact ((Kept.refl w []).alloc _).alloc _
 have b1 : W1.heap[w.heap.size + 1]? = some (.cells #[.int .u8 ak, .int .i64 atx, .int .i64 anx, .int .i64 aid, .slice boa bops.length boc, .slice bea bevs.length bec, .int .i64 btn, .int .i64 btm, .slice bia bop.length bic, .int .i64 bta, .string anm, .int .i64 an, .int .i64 aat] 35 (0, 0)) := by rw [hW1, <- hz]; exact heap_alloc_new _ _
 have b2 : W1.heap[w.heap.size]? = some (.cells #[.int .u8 ak, .int .i64 atx, .int .i64 anx, .int .i64 aid, .slice aoa aops.length aoc, .slice aea aevs.length aec, .int .i64 atn, .int .i64 atm, .slice aia aop.length aic, .int .i64 ata, .string anm, .int .i64 an, .int .i64 aat] 35 (0, 0)) := by rw [hW1]; exact ((Kept.refl _ []).alloc _).heap (by simp) (heap_alloc_new w _)
 have HT := iH (xqB atn atm ata btn btm bta aia bia aop.length aic bop.length bic aop bop W1 (ra.ri.keep k1) (rb.ri.keep k1))
 have CS : RowKit.Hid (∀ V, Kept W1 V [] -> ∀ j, V.cell? ⟨w.heap.size, j, none⟩ = (#[.int .u8 ak, .int .i64 atx, .int .i64 anx, .int .i64 aid, .slice aoa aops.length aoc, .slice aea aevs.length aec, .int .i64 atn, .int .i64 atm, .slice aia aop.length aic, .int .i64 ata, .string anm, .int .i64 an, .int .i64 aat] : Array Value)[j]? /\ V.cell? ⟨w.heap.size + 1, j, none⟩ = (#[.int .u8 ak, .int .i64 atx, .int .i64 anx, .int .i64 aid, .slice boa bops.length boc, .slice bea bevs.length bec, .int .i64 btn, .int .i64 btm, .slice bia bop.length bic, .int .i64 bta, .string anm, .int .i64 an, .int .i64 aat] : Array Value)[j]?) := iH (fun V hV j => ⟨cell_of_row V _ j _ _ _ (hV.heap (by simp) b2), cell_of_row V _ j _ _ _ (hV.heap (by simp) b1)⟩)
 have K1 := iH k1
 clear ra rb k1 b1 b2 hz
 have x0 : ((aops.length : Int) != (bops.length : Int)) = true := by rw [bne_iff_ne]; omega
 clear hd
 have HE := iH het
 clear het
 go_enter Try.func19, Try.ntmps19
 go_wp2_with fail
 rw [<- hW1]
 clear hW1
 refine (EqP.ye (w := W1) HT.out HE.out).mono ?_
 rintro en w2 ⟨rfl, k2⟩
 obtain ⟨pa4, pb4⟩ := CS.out w2 k2 4
 obtain ⟨pa5, pb5⟩ := CS.out w2 k2 5
 simp only [List.getElem?_toArray, List.getElem?_cons_zero, List.getElem?_cons_succ] at pa4 pb4 pa5 pb5
 go_wp2
 go_ret
 exact ⟨rfl, K1.out.trans k2 (by simp)⟩
theorem rs_ne9 (ak : Int) (atx : Int) (anx : Int) (aid : Int) (aops : List Ox) (aevs : List Px) (atn : Int) (atm : Int) (aop : List Int) (ata : Int) (anm : ByteArray) (an : Int) (aat : Int) (aoa : Option Addr) (aea : Option Addr) (aia : Option Addr) (aoc : Nat) (aec : Nat) (aic : Nat) (bops : List Ox) (bevs : List Px) (btn : Int) (btm : Int) (bop : List Int) (bta : Int) (boa : Option Addr) (bea : Option Addr) (bia : Option Addr) (boc : Nat) (bec : Nat) (bic : Nat) (w : World) (ra : RdN w (⟨ak, atx, anx, aid, aops, aevs, atn, atm, aop, ata, anm, an, aat⟩ : En) (.slice aoa aops.length aoc) (.slice aea aevs.length aec) (.slice aia aop.length aic)) (rb : RdN w (⟨ak, atx, anx, aid, bops, bevs, btn, btm, bop, bta, anm, an, aat⟩ : En) (.slice boa bops.length boc) (.slice bea bevs.length bec) (.slice bia bop.length bic)) (het : atn = btn /\ ata = bta /\ atm = btm /\ aop = bop) (hlo : aops.length = bops.length) (hd : aevs.length ≠ bevs.length) :
  Calls Try.prog 19 #[.agg #[.int .u8 ak, .int .i64 atx, .int .i64 anx, .int .i64 aid, .slice aoa aops.length aoc, .slice aea aevs.length aec, .int .i64 atn, .int .i64 atm, .slice aia aop.length aic, .int .i64 ata, .string anm, .int .i64 an, .int .i64 aat], .agg #[.int .u8 ak, .int .i64 atx, .int .i64 anx, .int .i64 aid, .slice boa bops.length boc, .slice bea bevs.length bec, .int .i64 btn, .int .i64 btm, .slice bia bop.length bic, .int .i64 bta, .string anm, .int .i64 an, .int .i64 aat]] w fun e w' => e = .returned (.bool false) /\ Kept w w' [] := by
 obtain ⟨W1, hW1⟩ : ∃ W1, W1 = (w.alloc (.cells #[.int .u8 ak, .int .i64 atx, .int .i64 anx, .int .i64 aid, .slice aoa aops.length aoc, .slice aea aevs.length aec, .int .i64 atn, .int .i64 atm, .slice aia aop.length aic, .int .i64 ata, .string anm, .int .i64 an, .int .i64 aat] 35)).alloc (.cells #[.int .u8 ak, .int .i64 atx, .int .i64 anx, .int .i64 aid, .slice boa bops.length boc, .slice bea bevs.length bec, .int .i64 btn, .int .i64 btm, .slice bia bop.length bic, .int .i64 bta, .string anm, .int .i64 an, .int .i64 aat] 35) := ⟨_, rfl⟩
 have hz : (w.alloc (.cells #[.int .u8 ak, .int .i64 atx, .int .i64 anx, .int .i64 aid, .slice aoa aops.length aoc, .slice aea aevs.length aec, .int .i64 atn, .int .i64 atm, .slice aia aop.length aic, .int .i64 ata, .string anm, .int .i64 an, .int .i64 aat] 35)).heap.size = w.heap.size + 1 := by simp
 have k1 : Kept w W1 [] := by rw [hW1]; exact ((Kept.refl w []).alloc _).alloc _
 have b1 : W1.heap[w.heap.size + 1]? = some (.cells #[.int .u8 ak, .int .i64 atx, .int .i64 anx, .int .i64 aid, .slice boa bops.length boc, .slice bea bevs.length bec, .int .i64 btn, .int .i64 btm, .slice bia bop.length bic, .int .i64 bta, .string anm, .int .i64 an, .int .i64 aat] 35 (0, 0)) := by rw [hW1, <- hz]; exact heap_alloc_new _ _
 have b2 : W1.heap[w.heap.size]? = some (.cells #[.int .u8 ak, .int .i64 atx, .int .i64 anx, .int .i64 aid, .slice aoa aops.length aoc, .slice aea aevs.length aec, .int .i64 atn, .int .i64 atm, .slice aia aop.length aic, .int .i64 ata, .string anm, .int .i64 an, .int .i64 aat] 35 (0, 0)) := by rw [hW1]; exact ((Kept.refl _ []).alloc _).heap (by simp) (heap_alloc_new w _)
 have HT := iH (xqB atn atm ata btn btm bta aia bia aop.length aic bop.length bic aop bop W1 (ra.ri.keep k1) (rb.ri.keep k1))
 have CS : RowKit.Hid (∀ V, Kept W1 V [] -> ∀ j, V.cell? ⟨w.heap.size, j, none⟩ = (#[.int .u8 ak, .int .i64 atx, .int .i64 anx, .int .i64 aid, .slice aoa aops.length aoc, .slice aea aevs.length aec, .int .i64 atn, .int .i64 atm, .slice aia aop.length aic, .int .i64 ata, .string anm, .int .i64 an, .int .i64 aat] : Array Value)[j]? /\ V.cell? ⟨w.heap.size + 1, j, none⟩ = (#[.int .u8 ak, .int .i64 atx, .int .i64 anx, .int .i64 aid, .slice boa bops.length boc, .slice bea bevs.length bec, .int .i64 btn, .int .i64 btm, .slice bia bop.length bic, .int .i64 bta, .string anm, .int .i64 an, .int .i64 aat] : Array Value)[j]?) := iH (fun V hV j => ⟨cell_of_row V _ j _ _ _ (hV.heap (by simp) b2), cell_of_row V _ j _ _ _ (hV.heap (by simp) b1)⟩)
 have K1 := iH k1
 clear ra rb k1 b1 b2 hz
 have x0 : ((aevs.length : Int) != (bevs.length : Int)) = true := by rw [bne_iff_ne]; omega
 clear hd
 have HE := iH het
 clear het
 have x5 : ((aops.length : Int) != (bops.length : Int)) = false := by rw [bne_eq_false_iff_eq]; omega
 clear hlo
 go_enter Try.func19, Try.ntmps19
 go_wp2_with fail
 rw [<- hW1]
 clear hW1
 refine (EqP.ye (w := W1) HT.out HE.out).mono ?_
 rintro en w2 ⟨rfl, k2⟩
 obtain ⟨pa4, pb4⟩ := CS.out w2 k2 4
 obtain ⟨pa5, pb5⟩ := CS.out w2 k2 5
 simp only [List.getElem?_toArray, List.getElem?_cons_zero, List.getElem?_cons_succ] at pa4 pb4 pa5 pb5
 go_wp2
 go_ret
 exact ⟨rfl, K1.out.trans k2 (by simp)⟩
theorem rs_eq (ak : Int) (atx : Int) (anx : Int) (aid : Int) (aops : List Ox) (aevs : List Px) (atn : Int) (atm : Int) (aop : List Int) (ata : Int) (anm : ByteArray) (an : Int) (aat : Int) (aoa : Option Addr) (aea : Option Addr) (aia : Option Addr) (aoc : Nat) (aec : Nat) (aic : Nat) (bops : List Ox) (bevs : List Px) (btn : Int) (btm : Int) (bop : List Int) (bta : Int) (boa : Option Addr) (bea : Option Addr) (bia : Option Addr) (boc : Nat) (bec : Nat) (bic : Nat) (w : World) (ra : RdN w (⟨ak, atx, anx, aid, aops, aevs, atn, atm, aop, ata, anm, an, aat⟩ : En) (.slice aoa aops.length aoc) (.slice aea aevs.length aec) (.slice aia aop.length aic)) (rb : RdN w (⟨ak, atx, anx, aid, bops, bevs, btn, btm, bop, bta, anm, an, aat⟩ : En) (.slice boa bops.length boc) (.slice bea bevs.length bec) (.slice bia bop.length bic)) (het : atn = btn /\ ata = bta /\ atm = btm /\ aop = bop) (hlo : aops.length = bops.length) (hle : aevs.length = bevs.length) (hl1 : aops.length <= 1000000) (hl2 : aevs.length <= 1000000) :
  Calls Try.prog 19 #[.agg #[.int .u8 ak, .int .i64 atx, .int .i64 anx, .int .i64 aid, .slice aoa aops.length aoc, .slice aea aevs.length aec, .int .i64 atn, .int .i64 atm, .slice aia aop.length aic, .int .i64 ata, .string anm, .int .i64 an, .int .i64 aat], .agg #[.int .u8 ak, .int .i64 atx, .int .i64 anx, .int .i64 aid, .slice boa bops.length boc, .slice bea bevs.length bec, .int .i64 btn, .int .i64 btm, .slice bia bop.length bic, .int .i64 bta, .string anm, .int .i64 an, .int .i64 aat]] w fun e w' => EqP (aops = bops /\ aevs = bevs) w e w' := by
 obtain ⟨W1, hW1⟩ : ∃ W1, W1 = (w.alloc (.cells #[.int .u8 ak, .int .i64 atx, .int .i64 anx, .int .i64 aid, .slice aoa aops.length aoc, .slice aea aevs.length aec, .int .i64 atn, .int .i64 atm, .slice aia aop.length aic, .int .i64 ata, .string anm, .int .i64 an, .int .i64 aat] 35)).alloc (.cells #[.int .u8 ak, .int .i64 atx, .int .i64 anx, .int .i64 aid, .slice boa bops.length boc, .slice bea bevs.length bec, .int .i64 btn, .int .i64 btm, .slice bia bop.length bic, .int .i64 bta, .string anm, .int .i64 an, .int .i64 aat] 35) := ⟨_, rfl⟩
 have hz : (w.alloc (.cells #[.int .u8 ak, .int .i64 atx, .int .i64 anx, .int .i64 aid, .slice aoa aops.length aoc, .slice aea aevs.length aec, .int .i64 atn, .int .i64 atm, .slice aia aop.length aic, .int .i64 ata, .string anm, .int .i64 an, .int .i64 aat] 35)).heap.size = w.heap.size + 1 := by simp
 have k1 : Kept w W1 [] := by rw [hW1]; exact ((Kept.refl w []).alloc _).alloc _
 have b1 : W1.heap[w.heap.size + 1]? = some (.cells #[.int .u8 ak, .int .i64 atx, .int .i64 anx, .int .i64 aid, .slice boa bops.length boc, .slice bea bevs.length bec, .int .i64 btn, .int .i64 btm, .slice bia bop.length bic, .int .i64 bta, .string anm, .int .i64 an, .int .i64 aat] 35 (0, 0)) := by rw [hW1, <- hz]; exact heap_alloc_new _ _
 have b2 : W1.heap[w.heap.size]? = some (.cells #[.int .u8 ak, .int .i64 atx, .int .i64 anx, .int .i64 aid, .slice aoa aops.length aoc, .slice aea aevs.length aec, .int .i64 atn, .int .i64 atm, .slice aia aop.length aic, .int .i64 ata, .string anm, .int .i64 an, .int .i64 aat] 35 (0, 0)) := by rw [hW1]; exact ((Kept.refl _ []).alloc _).heap (by simp) (heap_alloc_new w _)
 have HT := iH (xqB atn atm ata btn btm bta aia bia aop.length aic bop.length bic aop bop W1 (ra.ri.keep k1) (rb.ri.keep k1))
 have CS : RowKit.Hid (∀ V, Kept W1 V [] -> ∀ j, V.cell? ⟨w.heap.size, j, none⟩ = (#[.int .u8 ak, .int .i64 atx, .int .i64 anx, .int .i64 aid, .slice aoa aops.length aoc, .slice aea aevs.length aec, .int .i64 atn, .int .i64 atm, .slice aia aop.length aic, .int .i64 ata, .string anm, .int .i64 an, .int .i64 aat] : Array Value)[j]? /\ V.cell? ⟨w.heap.size + 1, j, none⟩ = (#[.int .u8 ak, .int .i64 atx, .int .i64 anx, .int .i64 aid, .slice boa bops.length boc, .slice bea bevs.length bec, .int .i64 btn, .int .i64 btm, .slice bia bop.length bic, .int .i64 bta, .string anm, .int .i64 an, .int .i64 aat] : Array Value)[j]?) := iH (fun V hV j => ⟨cell_of_row V _ j _ _ _ (hV.heap (by simp) b2), cell_of_row V _ j _ _ _ (hV.heap (by simp) b1)⟩)
 have HO2 := iH (fun V (hV : Kept W1 V []) => (ra.ro.keep (k1.trans hV (by simp)))); have HO3 := iH (fun V (hV : Kept W1 V []) => (rb.ro.keep (k1.trans hV (by simp))))
 have HE1 := iH (fun V (hV : Kept W1 V []) => (ra.re.keep (k1.trans hV (by simp)))); have HE2 := iH (fun V (hV : Kept W1 V []) => (rb.re.keep (k1.trans hV (by simp))))
 have K1 := iH k1; have HET := iH het; have HLO := iH hlo; have HLE := iH hle
 clear ra rb k1 b1 b2 hz het
 have y1 : ((aops.length : Int) != (bops.length : Int)) = false := by rw [bne_eq_false_iff_eq]; omega
 have y2 : ((aevs.length : Int) != (bevs.length : Int)) = false := by rw [bne_eq_false_iff_eq]; omega
 clear hlo hle
 go_enter Try.func19, Try.ntmps19
 go_wp2_with fail
 rw [<- hW1]
 clear hW1
 refine (EqP.ye (w := W1) HT.out HET.out).mono ?_
 rintro en w2 ⟨rfl, k2⟩
 have KW2 := iH k2
 obtain ⟨pa4, pb4⟩ := CS.out w2 k2 4
 obtain ⟨pa5, pb5⟩ := CS.out w2 k2 5
 simp only [List.getElem?_toArray, List.getElem?_cons_zero, List.getElem?_cons_succ] at pa4 pb4 pa5 pb5
 clear k2
 go_wp2
 clear pa4 pb4 pa5 pb5
 go_loopw [5] (fun t wr => ∃ k : Nat, k <= aops.length /\ t = .int .i64 k /\ aops.take k = bops.take k /\ Kept W1 wr []) (fun t _ => aops.length - (intOf t).toNat)
 case atStart => exact ⟨0, Nat.zero_le _, rfl, rfl, KW2.out⟩
 case round =>
  obtain ⟨k, hk, rfl, heq, hkw⟩ := hrel
  have He := iH heq; have KW := iH hkw
  clear heq hkw
  obtain ⟨pa, pb⟩ := CS.out wr KW.out 4
  simp only [List.getElem?_toArray, List.getElem?_cons_zero, List.getElem?_cons_succ] at pa pb
  by_cases hlt : k < aops.length
  ·have hltm : k < bops.length := by have h9 := HLO.out; have h8 := HLE.out; omega
   obtain ⟨x, hx⟩ : ∃ x, aops[k]? = some x := ⟨_, List.getElem?_eq_getElem hlt⟩
   obtain ⟨y, hy⟩ : ∃ y, bops[k]? = some y := ⟨_, List.getElem?_eq_getElem hltm⟩
   obtain ⟨ab, ao, rfl, ca⟩ := (HO2.out wr KW.out).at hx
   obtain ⟨bb, bo, rfl, cb⟩ := (HO3.out wr KW.out).at hy
   obtain ⟨x0, x1, x2, x3⟩ := x
   obtain ⟨y0, y1, y2, y3⟩ := y
   have ca0 : wr.cell? ⟨ab, ao + k * 4, none⟩ = some (.int .i64 x0) := ca 0 (by decide)
   have cb0 : wr.cell? ⟨bb, bo + k * 4, none⟩ = some (.int .i64 y0) := cb 0 (by decide)
   have ca1 : wr.cell? ⟨ab, ao + k * 4 + 1, none⟩ = some (.bool x1) := ca 1 (by decide)
   have cb1 : wr.cell? ⟨bb, bo + k * 4 + 1, none⟩ = some (.bool y1) := cb 1 (by decide)
   have ca2 : wr.cell? ⟨ab, ao + k * 4 + 2, none⟩ = some (.int .i64 x2) := ca 2 (by decide)
   have cb2 : wr.cell? ⟨bb, bo + k * 4 + 2, none⟩ = some (.int .i64 y2) := cb 2 (by decide)
   have ca3 : wr.cell? ⟨ab, ao + k * 4 + 3, none⟩ = some (.string x3) := ca 3 (by decide)
   have cb3 : wr.cell? ⟨bb, bo + k * 4 + 3, none⟩ = some (.string y3) := cb 3 (by decide)
   have hn := rox_ne x0 x1 x2 x3 y0 y1 y2 y3
   obtain ⟨r, hr⟩ : ∃ r, r = oxB (⟨x0, x1, x2, x3⟩ : Ox) (⟨y0, y1, y2, y3⟩ : Ox) := ⟨_, rfl⟩
   rw [<- hr] at hn
   have HX := iH hx; have HY := iH hy
   have HR : RowKit.Hid (r = true ↔ (⟨x0, x1, x2, x3⟩ : Ox) = (⟨y0, y1, y2, y3⟩ : Ox)) := iH (by rw [hr]; exact oxB_iff _ _)
   have x1 : (k : Int) < (aops.length : Int) := by omega
   have x2 : (k : Int) < (bops.length : Int) := by omega
   clear hx hy ca cb hr
   cases r with
   | false =>
   go_wp2
   go_quiet (fail)
   go_wp2
   go_ret
   refine ⟨false, rfl, ⟨fun h => absurd h (by decide), fun h => ?_⟩, K1.out.trans (KW.out.drewN _) (by simp)⟩
   have := HX.out
   rw [h.1, HY.out] at this
   exact absurd (HR.out.2 (Option.some.inj this).symm) (by decide)
   | true =>
   go_wp2
   go_quiet (fail)
   go_wp2
   go_roundw
   case rel =>
    refine ⟨k + 1, by omega, by go_num, ?_, KW.out.drewN _⟩
    rw [List.take_add_one, List.take_add_one, He.out, HX.out, HY.out, HR.out.1 (by trivial)]
   case measure => simp [intOf]; omega
  have x1 : ¬ (k : Int) < (aops.length : Int) := by omega
  have Hf : RowKit.Hid (aops = bops) := iH (by
   have h := He.out
   rw [List.take_of_length_le (by omega), List.take_of_length_le (by have h9 := HLO.out; have h8 := HLE.out; omega)] at h
   exact h)
  have HO1 := Hf
  obtain ⟨ws, hws⟩ : ∃ ws, ws = wr := ⟨_, rfl⟩
  subst hws
  have KS := iH KW.out
  go_wp2
  clear pa pb Hf KW He x1
  go_loopw [6] (fun t wr => ∃ k : Nat, k <= aevs.length /\ t = .int .i64 k /\ aevs.take k = bevs.take k /\ Kept W1 wr []) (fun t _ => aevs.length - (intOf t).toNat)
  case atStart => exact ⟨0, Nat.zero_le _, rfl, rfl, KS.out⟩
  case round =>
  obtain ⟨k, hk, rfl, heq, hkw⟩ := hrel
  have He := iH heq; have KW := iH hkw
  clear heq hkw
  obtain ⟨pa, pb⟩ := CS.out wr KW.out 5
  simp only [List.getElem?_toArray, List.getElem?_cons_zero, List.getElem?_cons_succ] at pa pb
  by_cases hlt : k < aevs.length
  ·have hltm : k < bevs.length := by have h9 := HLO.out; have h8 := HLE.out; omega
   obtain ⟨x, hx⟩ : ∃ x, aevs[k]? = some x := ⟨_, List.getElem?_eq_getElem hlt⟩
   obtain ⟨y, hy⟩ : ∃ y, bevs[k]? = some y := ⟨_, List.getElem?_eq_getElem hltm⟩
   obtain ⟨ab, ao, rfl, ca⟩ := (HE1.out wr KW.out).at hx
   obtain ⟨bb, bo, rfl, cb⟩ := (HE2.out wr KW.out).at hy
   obtain ⟨x0, ⟨x1, x2, x3, x4, x5, x6, x7, x8⟩⟩ := x
   obtain ⟨y0, ⟨y1, y2, y3, y4, y5, y6, y7, y8⟩⟩ := y
   have ca0 : wr.cell? ⟨ab, ao + k * 9, none⟩ = some (.int .i64 x0) := ca 0 (by decide)
   have cb0 : wr.cell? ⟨bb, bo + k * 9, none⟩ = some (.int .i64 y0) := cb 0 (by decide)
   have ca1 : wr.cell? ⟨ab, ao + k * 9 + 1, none⟩ = some (.int .i64 x1) := ca 1 (by decide)
   have cb1 : wr.cell? ⟨bb, bo + k * 9 + 1, none⟩ = some (.int .i64 y1) := cb 1 (by decide)
   have ca2 : wr.cell? ⟨ab, ao + k * 9 + 2, none⟩ = some (.int .i64 x2) := ca 2 (by decide)
   have cb2 : wr.cell? ⟨bb, bo + k * 9 + 2, none⟩ = some (.int .i64 y2) := cb 2 (by decide)
   have ca3 : wr.cell? ⟨ab, ao + k * 9 + 3, none⟩ = some (.string x3) := ca 3 (by decide)
   have cb3 : wr.cell? ⟨bb, bo + k * 9 + 3, none⟩ = some (.string y3) := cb 3 (by decide)
   have ca4 : wr.cell? ⟨ab, ao + k * 9 + 4, none⟩ = some (.int .i64 x4) := ca 4 (by decide)
   have cb4 : wr.cell? ⟨bb, bo + k * 9 + 4, none⟩ = some (.int .i64 y4) := cb 4 (by decide)
   have ca5 : wr.cell? ⟨ab, ao + k * 9 + 5, none⟩ = some (.int .i64 x5) := ca 5 (by decide)
   have cb5 : wr.cell? ⟨bb, bo + k * 9 + 5, none⟩ = some (.int .i64 y5) := cb 5 (by decide)
   have ca6 : wr.cell? ⟨ab, ao + k * 9 + 6, none⟩ = some (.int .u8 x6) := ca 6 (by decide)
   have cb6 : wr.cell? ⟨bb, bo + k * 9 + 6, none⟩ = some (.int .u8 y6) := cb 6 (by decide)
   have ca7 : wr.cell? ⟨ab, ao + k * 9 + 7, none⟩ = some (.int .i64 x7) := ca 7 (by decide)
   have cb7 : wr.cell? ⟨bb, bo + k * 9 + 7, none⟩ = some (.int .i64 y7) := cb 7 (by decide)
   have ca8 : wr.cell? ⟨ab, ao + k * 9 + 8, none⟩ = some (.string x8) := ca 8 (by decide)
   have cb8 : wr.cell? ⟨bb, bo + k * 9 + 8, none⟩ = some (.string y8) := cb 8 (by decide)
   have hn := rpx_ne x0 x1 x2 x3 x4 x5 x6 x7 x8 y0 y1 y2 y3 y4 y5 y6 y7 y8
   obtain ⟨r, hr⟩ : ∃ r, r = pxB (⟨x0, ⟨x1, x2, x3, x4, x5, x6, x7, x8⟩⟩ : Px) (⟨y0, ⟨y1, y2, y3, y4, y5, y6, y7, y8⟩⟩ : Px) := ⟨_, rfl⟩
   rw [<- hr] at hn
   have HX := iH hx; have HY := iH hy
   have HR : RowKit.Hid (r = true ↔ (⟨x0, ⟨x1, x2, x3, x4, x5, x6, x7, x8⟩⟩ : Px) = (⟨y0, ⟨y1, y2, y3, y4, y5, y6, y7, y8⟩⟩ : Px)) := iH (by rw [hr]; exact pxB_iff _ _)
   have x1 : (k : Int) < (aevs.length : Int) := by omega
   have x2 : (k : Int) < (bevs.length : Int) := by omega
   clear hx hy ca cb hr
   cases r with
   | false =>
   go_wp2
   go_quiet (fail)
   go_wp2
   go_ret
   refine ⟨false, rfl, ⟨fun h => absurd h (by decide), fun h => ?_⟩, K1.out.trans (KW.out.drewN _) (by simp)⟩
   have := HX.out
   rw [h.2, HY.out] at this
   exact absurd (HR.out.2 (Option.some.inj this).symm) (by decide)
   | true =>
   go_wp2
   go_quiet (fail)
   go_wp2
   go_roundw
   case rel =>
    refine ⟨k + 1, by omega, by go_num, ?_, KW.out.drewN _⟩
    rw [List.take_add_one, List.take_add_one, He.out, HX.out, HY.out, HR.out.1 (by trivial)]
   case measure => simp [intOf]; omega
  have x1 : ¬ (k : Int) < (aevs.length : Int) := by omega
  have Hf : RowKit.Hid (aevs = bevs) := iH (by
   have h := He.out
   rw [List.take_of_length_le (by omega), List.take_of_length_le (by have h9 := HLO.out; have h8 := HLE.out; omega)] at h
   exact h)
  go_wp2
  go_ret
  exact ⟨true, rfl, ⟨fun _ => ⟨HO1.out, Hf.out⟩, fun _ => rfl⟩, K1.out.trans KW.out (by simp)⟩
end Go.Proofs.Ytjdbmlifekghfaa
