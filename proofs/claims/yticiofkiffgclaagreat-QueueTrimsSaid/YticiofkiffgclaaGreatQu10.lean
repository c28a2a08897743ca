/-
 Rqn in one text.
-/
import Derived.Test.YticiofkiffgclaaGreatQu0
import Derived.Test.YticiofkiffgclaaGreatQu9
set_option linter.unusedVariables false
set_option maxHeartbeats 16000000
set_option maxRecDepth 100000
namespace Go.Proofs.YticiofkiffgclaaGreat
open Go.RowKit
variable {T : TypeId} {w w' : World} {B h oo : Nat} {RR : List Value} {V : Value} {l : List It}
theorem radd_any (a : Lo encIt T riE w B h oo RR V l) (ok : OkI l) (e : Ev) (hb : -9223372036854775808 <= e.tr) (ow : ByteArray) (at' : Int) : Calls Tryz.prog 125 #[.pointer (some ⟨h, oo, none⟩), .agg (encEv.cs e), .string ow, .int .i64 at'] w (ChgR T w B h oo RR V (.int .i64 (adiE l e.id ow)) (adiL l e ow at')) := by
 obtain ⟨i0, hi0, hz0, hz1, hz2⟩ := info_parts Tryz.infoRi
 obtain ⟨W1, hW1⟩ : ∃ W1, W1 = w.alloc (.cells (encEv.cs e) evT) := ⟨_, rfl⟩
 have k1 : Kept w W1 [] := by rw [hW1]; exact (Kept.refl w []).alloc _
 obtain ⟨zb, hzb⟩ : ∃ zb, zb = w.heap.size := ⟨_, rfl⟩
 have g1 : W1.heap[zb]? = some (.cells (encEv.cs e) evT (0, 0)) := by rw [hW1, hzb]; exact heap_alloc_new w _
 have few := ok.few
 obtain ⟨u, c, ev⟩ := a.shape
 have hEs : adiE l e.id ow = if ow.size < 1 then 1 else if l.any (isK e.id ow) then 5 else if 16 <= l.length then 8 else 0 := rfl
 have hLs : adiL l e ow at' = if adiE l e.id ow = 0 then insG ltI (addX e ow at') l else l := rfl
 obtain ⟨t, ht⟩ : ∃ t, t = trN e.tr := ⟨_, rfl⟩
 have hXs : addX e ow at' = ⟨at', ⟨e.id, e.tx, ow, t, e.tb, e.kd, e.key, e.t⟩⟩ := by rw [ht]; rfl
 rw [hXs] at hLs
 have A := iH a; have OK := iH ok; have K1 := iH k1; have G1 := iH g1; have HW1 := iH hW1; have HZB := iH hzb; have EV := iH ev; have HT := iH ht
 have HE := iH hEs; have HL := iH hLs
 obtain ⟨EE, hEE⟩ : ∃ EE, EE = adiE l e.id ow := ⟨_, rfl⟩
 obtain ⟨LL, hLL⟩ : ∃ LL, LL = adiL l e ow at' := ⟨_, rfl⟩
 rw [<- hEE, <- hLL]
 rw [<- hEE] at HE HL
 rw [<- hLL] at HL
 obtain ⟨b0, b1, b2, b3, b4, b5, b6, b7⟩ := e
 simp only [encEv, Ev.cs] at *
 clear hEs hLs hXs k1 g1 hW1 hzb a ok ev ht hEE hLL
 by_cases hE : ow.size = 0
 ·have x1 : (ow.size : Int) = 0 := by omega
  have x2 : ((ow.size : Int) == 0) = true := by rw [beq_iff_eq]; omega
  have E0 := iH (show EE = 1 by rw [HE.out, if_pos (by omega)])
  have L0 := iH (show LL = l by rw [HL.out, if_neg (by rw [E0.out]; decide)])
  clear hE few
  go_enter Tryz.func125, Tryz.ntmps125
  go_upto_region 1 with fail
  rw [<- HW1.out, <- HZB.out]
  go_wp2
  go_ret
  rw [E0.out, L0.out]
  exact ⟨rfl, V, (A.out.keep K1.out).self, Stp.ofK K1.out⟩
 have x2 : ((ow.size : Int) == 0) = false := by rw [beq_eq_false_iff_ne]; omega
 have E1 := iH (show EE = if l.any (isK b0 ow) then 5 else if 16 <= l.length then 8 else 0 by rw [HE.out, if_neg (by omega)])
 clear hE
 go_enter Tryz.func125, Tryz.ntmps125
 go_upto_region 1 with fail
 rw [<- HW1.out, <- HZB.out]
 go_wp2
 go_loopw [9] (fun s9 wr => ∃ k : Nat, s9 = .int .i64 k /\ k <= l.length /\ Hid (∀ (j : Nat) (y : It), j < k -> l[j]? = some y -> isK b0 ow y = false) /\ Hid (Kept W1 wr [])) (fun s9 _ => l.length - (intOf s9).toNat)
 case atStart => exact ⟨0, rfl, Nat.zero_le _, iH (fun j y hj => absurd hj (Nat.not_lt_zero _)), iH (Kept.refl _ _)⟩
 case round =>
 obtain ⟨k, rfl, hk, HX, KL⟩ := hrel
 have a2 := A.out.keep (K1.out.trans KL.out (by simp))
 have c0 := a2.cell.1
 by_cases hlt : k < l.length
 ·obtain ⟨x, hx⟩ : ∃ x, l[k]? = some x := ⟨_, List.getElem?_eq_getElem hlt⟩
  obtain ⟨g, o, c', hv⟩ := a2.hit hx
  have o2 := a2.rd
  rw [hv] at o2 c0
  obtain ⟨q0, q1, q2, q3, q4, q5, q6, q7, q8⟩ := cellsR_r o2 hx
  rw [EV.out] at hv
  simp only [Value.slice.injEq] at hv
  obtain ⟨rfl, -, rfl⟩ := hv
  have x1 : (k : Int) < (l.length : Int) := by omega
  have HR := iH hx
  have e0 : wr.cell? ⟨zb, 0, none⟩ = some (.int .i64 b0) := by rw [cell_of_row _ _ _ _ _ _ (KL.out.heap (by simp) G1.out)]; rfl
  clear a2 o2 hx q0 q2 q4 q5 q6 q7 q8
  obtain ⟨d0, ⟨d1, d2, d3, d4, d5, d6, d7, d8⟩⟩ := x
  simp only at q1 q3
  by_cases hid : d1 = b0
  ·subst hid
   cases how : (d3.toList == ow.toList) with
   | true =>
   have E0 := iH (show EE = 5 by
    rw [E1.out, if_pos]
    rw [List.any_eq_true]
    exact ⟨_, List.mem_of_getElem? HR.out, by simp [isK, how]⟩)
   have L0 := iH (show LL = l by rw [HL.out, if_neg (by rw [E0.out]; decide)])
   go_wp2_with fail
   go_quiet (fail)
   have KN := iH (K1.out.trans (KL.out.drewN nq) (by simp))
   clear c0 q1 q3 e0
   generalize wr.drewN nq = wn at KN ⊢
   go_wp2
   go_ret
   rw [E0.out, L0.out]
   exact ⟨rfl, V, (A.out.keep KN.out).self, Stp.ofK KN.out⟩
   | false =>
   have HN := iH (show isK d1 ow (⟨d0, ⟨d1, d2, d3, d4, d5, d6, d7, d8⟩⟩ : It) = false by simp [isK, how])
   go_wp2_with fail
   go_quiet (fail)
   have KN := iH (KL.out.drewN nq)
   clear c0 q1 q3 e0
   generalize wr.drewN nq = wn at KN ⊢
   go_wp2
   go_roundw
   case rel =>
    refine ⟨k + 1, by go_num, by omega, iH (fun j y hj hy => ?_), KN⟩
    by_cases ej : j = k
    ·subst ej
     rw [HR.out] at hy
     cases hy
     exact HN.out
    exact HX.out j y (by omega) hy
   case measure => simp [intOf]; omega
  have hid2 : (d1 == b0) = false := beq_eq_false_iff_ne.2 hid
  have HN := iH (show isK b0 ow (⟨d0, ⟨d1, d2, d3, d4, d5, d6, d7, d8⟩⟩ : It) = false by simp [isK, hid])
  clear hid
  go_wp2_with fail
  go_quiet (fail)
  have KN := iH (KL.out.drewN nq)
  clear c0 q1 q3 e0
  generalize wr.drewN nq = wn at KN ⊢
  go_wp2
  go_roundw
  case rel =>
   refine ⟨k + 1, by go_num, by omega, iH (fun j y hj hy => ?_), KN⟩
   by_cases ej : j = k
   ·subst ej
    rw [HR.out] at hy
    cases hy
    exact HN.out
   exact HX.out j y (by omega) hy
  case measure => simp [intOf]; omega
 rw [EV.out] at c0
 have x1 : ¬ (k : Int) < (l.length : Int) := by omega
 have NA : Hid (l.any (isK b0 ow) = false) := iH (by
  rw [List.any_eq_false]
  intro x hx hc
  obtain ⟨j, hj, rfl⟩ := List.mem_iff_getElem.1 hx
  have := HX.out j _ (by omega) (List.getElem?_eq_getElem hj)
  rw [this] at hc
  cases hc)
 have KW := iH (K1.out.trans KL.out (by simp))
 by_cases hf : 16 <= l.length
 ·have hf1 : (16 : Int) <= (l.length : Int) := by omega
  have E0 := iH (show EE = 8 by rw [E1.out, NA.out, if_neg (by decide), if_pos hf])
  have L0 := iH (show LL = l by rw [HL.out, if_neg (by rw [E0.out]; decide)])
  clear a2 hf
  go_wp2
  go_ret
  rw [E0.out, L0.out]
  exact ⟨rfl, V, (A.out.keep KW.out).self, Stp.ofK KW.out⟩
 have hf1 : ¬ (16 : Int) <= (l.length : Int) := by omega
 have E0 := iH (show EE = 0 by rw [E1.out, NA.out, if_neg (by decide), if_neg hf])
 have L0 := iH (show LL = insG ltI ⟨at', ⟨b0, b1, ow, t, b4, b5, b6, b7⟩⟩ l by rw [HL.out, if_pos E0.out])
 have g2 := KL.out.heap (by simp) G1.out
 obtain ⟨ff2, ff3⟩ : wr.frozen? ⟨zb, 2, none⟩ = false /\ wr.frozen? ⟨zb, 3, none⟩ = false := ⟨frozen_of_row _ _ _ _ _ g2, frozen_of_row _ _ _ _ _ g2⟩
 obtain ⟨cc2, cc3⟩ : wr.cell? ⟨zb, 2, none⟩ = some (.string b2) /\ wr.cell? ⟨zb, 3, none⟩ = some (.int .i64 b3) := ⟨by rw [cell_of_row _ _ _ _ _ _ g2]; rfl, by rw [cell_of_row _ _ _ _ _ _ g2]; rfl⟩
 have G2 := iH g2
 have hwz : w.heap.size <= zb := by rw [HZB.out]; exact Nat.le_refl _
 clear a2 hf g2
 obtain ⟨wo, hwo⟩ : ∃ wo, wo = wr := ⟨_, rfl⟩
 subst hwo
 go_upto_if 60 with fail
 go_cut [] (fun wx => wx.heap[zb]? = some (.cells #[.int .i64 b0, .int .i64 b1, .string ow, .int .i64 t, .int .i64 b4, .int .u8 b5, .int .i64 b6, .string b7] evT (0, 0)) /\ RowKit.Hid (Kept w wx []))
 case first =>
  by_cases h0 : b3 < 2147483647
  ·have e2 : wrap64 (b3 + 1) = b3 + 1 := by unfold wrap64; omega
   have e3 : t = b3 + 1 := by rw [HT.out, trN, if_pos h0]
   subst e3
   go_wp2_with fail
   go_meet
   refine ⟨?_, iH ((KW.out.setCell (p := ⟨zb, 2, none⟩) (.inr hwz) _).setCell (p := ⟨zb, 3, none⟩) (.inr hwz) _)⟩
   have h1 := xqb (xqb G2.out 2 (.string ow)) 3 (.int .i64 (b3 + 1))
   simpa using h1
  have e3 : t = b3 := by rw [HT.out, trN, if_neg h0]
  subst e3
  go_wp2_with fail
  go_meet
  refine ⟨?_, iH (KW.out.setCell (p := ⟨zb, 2, none⟩) (.inr hwz) _)⟩
  have h1 := xqb G2.out 2 (.string ow)
  simpa using h1
 case rest =>
 obtain ⟨gx, KX⟩ := hcut
 obtain ⟨s0, s1, s2, s3, s4, s5, s6, s7⟩ : wc.cell? ⟨zb, 0, none⟩ = some (.int .i64 b0) /\ wc.cell? ⟨zb, 1, none⟩ = some (.int .i64 b1) /\ wc.cell? ⟨zb, 2, none⟩ = some (.string ow) /\ wc.cell? ⟨zb, 3, none⟩ = some (.int .i64 t) /\ wc.cell? ⟨zb, 4, none⟩ = some (.int .i64 b4) /\ wc.cell? ⟨zb, 5, none⟩ = some (.int .u8 b5) /\ wc.cell? ⟨zb, 6, none⟩ = some (.int .i64 b6) /\ wc.cell? ⟨zb, 7, none⟩ = some (.string b7) :=
  ⟨by rw [cell_of_row _ _ _ _ _ _ gx]; rfl, by rw [cell_of_row _ _ _ _ _ _ gx]; rfl, by rw [cell_of_row _ _ _ _ _ _ gx]; rfl, by rw [cell_of_row _ _ _ _ _ _ gx]; rfl, by rw [cell_of_row _ _ _ _ _ _ gx]; rfl, by rw [cell_of_row _ _ _ _ _ _ gx]; rfl, by rw [cell_of_row _ _ _ _ _ _ gx]; rfl, by rw [cell_of_row _ _ _ _ _ _ gx]; rfl⟩
 obtain ⟨x, hx⟩ : ∃ x, x = wc.heap.size := ⟨_, rfl⟩
 obtain ⟨W4, hW4⟩ : ∃ W4, W4 = wc.alloc (.cells #[.int .i64 at', .int .i64 b0, .int .i64 b1, .string ow, .int .i64 t, .int .i64 b4, .int .u8 b5, .int .i64 b6, .string b7] riE) := ⟨_, rfl⟩
 have k4 : Kept wc W4 [] := by rw [hW4]; exact (Kept.refl wc []).alloc _
 have g4 : W4.heap[x]? = some (.cells #[.int .i64 at', .int .i64 b0, .int .i64 b1, .string ow, .int .i64 t, .int .i64 b4, .int .u8 b5, .int .i64 b6, .string b7] riE (0, 0)) := by rw [hW4, hx]; exact heap_alloc_new wc _
 have K4 := iH (KX.out.trans k4 (by simp))
 have A4 := iH (A.out.keep K4.out)
 have XC := iH (fun V (hV : Kept W4 V []) => it_cells (hV.heap (by simp) g4))
 have VC := iH (fun V' (hV : Kept W4 V' []) => (show V'.cell? ⟨h, oo, none⟩ = some (.slice u l.length c) from by rw [<- EV.out]; exact (A4.out.keep hV).cell.1))
 have HW4 := iH hW4; have HXZ := iH hx
 clear gx k4 g4 hx hW4 c0 x1
 go_upto_region 14 with fail
 rw [<- HW4.out, <- HXZ.out]
 clear s0 s1 s2 s3 s4 s5 s6 s7
 have v4 := VC.out W4 (Kept.refl _ _)
 go_wp2
 clear v4
 go_loopw [11] (fun s11 wr => ∃ q : Nat, s11 = .int .i64 q /\ q <= l.length /\ Hid (∀ (j : Nat) (y : It), q <= j -> l[j]? = some y -> ltI ⟨at', ⟨b0, b1, ow, t, b4, b5, b6, b7⟩⟩ y = true) /\ Hid (Kept W4 wr [])) (fun s11 _ => (intOf s11).toNat)
 case atStart => exact ⟨l.length, rfl, Nat.le_refl _, iH (fun j y hj hy => by have := (List.getElem?_eq_some_iff.1 hy).1; omega), iH (Kept.refl _ _)⟩
 case round =>
 obtain ⟨q, rfl, hq, HA, KR⟩ := hrel
 rcases Nat.eq_zero_or_pos q with rfl | hqp
 ·have INS := iH (insG_at (x := ⟨at', ⟨b0, b1, ow, t, b4, b5, b6, b7⟩⟩) ltI_ord OK.out.rise hq HA.out (fun y h0 => absurd h0 (Nat.lt_irrefl _)))
  have y1 : ¬ (0 : Int) < ((0 : Nat) : Int) := by omega
  go_upto_region 15 with fail
  refine wp_region_held_drew (S := fun Z => Kept W4 Z []) (by kernel_rfl) KR.out.drew (fun hJ => ?_)
  refine wx 0 73 (.int .i64 0) rfl hJ ?_
  refine wx 1 74 (.bool false) rfl hJ ?_
  refine wx 2 75 (.bool false) rfl hJ ?_
  refine wn 3 76 rfl hJ ?_
  refine wn 4 77 rfl hJ ?_
  refine wn 5 78 rfl hJ ?_
  refine wn 6 79 rfl hJ ?_
  refine wn 7 80 rfl hJ ?_
  refine wn 8 81 rfl hJ ?_
  refine wn 9 82 rfl hJ ?_
  refine wn 10 83 rfl hJ ?_
  refine wn 11 84 rfl hJ ?_
  refine wn 12 85 rfl hJ ?_
  refine wx 13 86 (.bool false) rfl hJ ?_
  refine wd ?_
  clear hJ
  obtain ⟨wq, hwq⟩ : ∃ wq, wq = wr.drew := ⟨_, rfl⟩
  have kq : Kept W4 wq [] := by rw [hwq]; exact KR.out.drew
  rw [<- hwq]
  clear hwq
  have KQ := iH kq
  have aq := A4.out.keep kq
  have AQ := iH aq
  obtain ⟨z, hz⟩ : ∃ z, z = wq.heap.size := ⟨_, rfl⟩
  have HZ := iH hz
  have C0 := iH (show wq.cell? ⟨h, oo, none⟩ = some V from aq.cell.1)
  rw [EV.out] at C0
  have rq := aq.rd
  rw [EV.out] at rq
  have RQ := iH rq
  clear kq aq hz rq
  rcases id RQ.out with ⟨u', c', hv, hcV, huV, hcell⟩
  simp only [Value.slice.injEq, true_and] at hv
  obtain ⟨rfl, rfl⟩ := hv
  cases u with
  | none =>
  obtain rfl := huV rfl
  have hl0 : l.length = 0 := by omega
  have HL1 := iH (show l = [] from List.eq_nil_of_length_eq_zero hl0)
  rw [hl0] at C0 EV
  clear hcell huV hcV
  have hQ1 : (l.take (0)).length = 0 := by rw [List.length_take]; omega
  have hQ3 : (l.drop (0)).length = 0 := by have := List.length_drop (l := l) (i := 0); omega
  have SRC1 : Hid (Src Tryz.prog 9 79 (.slice none 0 0) (0) (kcs encIt (l.take (0))) wq) := iH (by
   have := RdK.src (P := Tryz.prog) (tx := 79) (show RdK encIt wq (.slice none 0 0) (l.take (0)) from RdK.nil wq) Tryz.underlying79
   rw [hQ1] at this; exact this)
  have RD3 : Hid (RdK encIt wq (.slice none 0 0) (l.drop (0))) := iH (by rw [HL1.out]; exact RdK.nil wq)
  have HQ1 := iH hQ1; have HQ3 := iH hQ3
  have cc0 := C0.out
  clear hQ1 hQ3
  go_wp2_with (at_builtin; refine xqa _ rfl (.tmp 89) (.tmp 95) 79 79 rfl z riE i0 _ 9 88 Tryz.underlying79 hi0 hz0 hz1 hz2 rfl (.slice none 0 0) (0) ([]) rfl (World.ownsRow_nil _ _ _ _) (.slice none 0 0) (0) (kcs encIt (l.take (0))) rfl SRC1.out (by unfold maxLen; omega) (by omega) (by rw [HZ.out]; exact Nat.le_refl _) ?nexta)
  case nexta =>
  intro v1 w1 hown _ hgrow _
  have o1 : OwnK encIt w1 z riE v1 (l.take (0)) := by unfold OwnK; rw [HQ1.out]; show w1.ownsRow _ _ 9 _ _ _; simpa using hown
  have k1 : Kept wq w1 [] := (Kept.refl wq []).grown hgrow (fun k hk => by simp [Value.ownBlock] at hk)
  obtain ⟨u1, c1, e1⟩ := o1.shape
  rw [HQ1.out] at e1
  subst e1
  have k2 : Kept w1 (w1.alloc (.cells #[.int .i64 at', .int .i64 b0, .int .i64 b1, .string ow, .int .i64 t, .int .i64 b4, .int .u8 b5, .int .i64 b6, .string b7] riE)) [] := (Kept.refl w1 []).alloc _
  have K2 := iH (k1.trans k2 (by simp))
  have SRC2 := xqQ (E := encIt) (P := Tryz.prog) (t := riE) w1 ⟨at', ⟨b0, b1, ow, t, b4, b5, b6, b7⟩⟩ (tx := 79) Tryz.underlying79
  simp only [encIt, It.cs] at SRC2
  have SRC2 := iH SRC2
  have HZ2 := iH (show z <= (w1.alloc (.cells #[.int .i64 at', .int .i64 b0, .int .i64 b1, .string ow, .int .i64 t, .int .i64 b4, .int .u8 b5, .int .i64 b6, .string b7] riE)).heap.size by have := (k1.trans k2 (by simp)).size; rw [HZ.out]; exact this)
  have OO : Hid ((w1.alloc (.cells #[.int .i64 at', .int .i64 b0, .int .i64 b1, .string ow, .int .i64 t, .int .i64 b4, .int .u8 b5, .int .i64 b6, .string b7] riE)).ownsRow z riE 9 (.slice u1 (0) c1) (0) (kcs encIt (l.take (0)))) := iH (by have := o1.keep k2; unfold OwnK at this; rw [HQ1.out] at this; exact this)
  obtain ⟨y0, y1, y2, y3, y4, y5, y6, y7, y8⟩ := XC.out w1 (KQ.out.trans k1 (by simp))
  clear hown hgrow o1 k1 k2 cc0
  go_wp2_with (at_builtin; refine xqa _ rfl (.tmp 97) (.tmp 99) 79 79 rfl z riE i0 _ 9 88 Tryz.underlying79 hi0 hz0 hz1 hz2 rfl (.slice u1 (0) c1) (0) (kcs encIt (l.take (0))) rfl OO.out (.slice (some ⟨w1.heap.size, 0, none⟩) 1 1) (1) (_) rfl SRC2.out (by unfold maxLen; omega) (by omega) (HZ2.out) ?nextb)
  case nextb =>
  intro v3 w3 hown _ hgrow _
  have o3 : OwnK encIt w3 z riE v3 (l.take (0) ++ [⟨at', ⟨b0, b1, ow, t, b4, b5, b6, b7⟩⟩]) := xqS (by rw [HQ1.out]; exact hown)
  have k3 : Kept wq w3 [] := K2.out.grown hgrow (fun k hk => .inr (by have := (World.ownsRow.lt OO.out k hk).1; rw [HZ.out] at this; exact this))
  have hl3 : (l.take (0) ++ [(⟨at', ⟨b0, b1, ow, t, b4, b5, b6, b7⟩⟩ : It)]).length = 0 + 1 := by rw [List.length_append, HQ1.out]; rfl
  obtain ⟨u3, c3, e3⟩ := o3.shape
  rw [hl3] at e3
  subst e3
  have OO3 : Hid (w3.ownsRow z riE 9 (.slice u3 (0 + 1) c3) (0 + 1) (kcs encIt (l.take (0) ++ [(⟨at', ⟨b0, b1, ow, t, b4, b5, b6, b7⟩⟩ : It)]))) := iH (by have := o3; unfold OwnK at this; rw [hl3] at this; exact this)
  have SRC3 : Hid (Src Tryz.prog 9 79 (.slice none 0 0) (0) (kcs encIt (l.drop (0))) w3) := iH (by
   have := (RD3.out.keep k3).src (P := Tryz.prog) (tx := 79) Tryz.underlying79
   rw [HQ3.out] at this; exact this)
  have cc := k3.cell (by simp) C0.out
  have K3 := iH k3; have HL3 := iH hl3; have HZ3 := iH (show z <= w3.heap.size by have := k3.size; rw [HZ.out]; exact this)
  clear hown hgrow o3 k3 hl3 y0 y1 y2 y3 y4 y5 y6 y7 y8
  go_wp2_with (at_builtin; refine xqa _ rfl (.tmp 102) (.tmp 108) 79 79 rfl z riE i0 _ 9 88 Tryz.underlying79 hi0 hz0 hz1 hz2 rfl (.slice u3 (1) c3) (1) (kcs encIt (l.take (0) ++ [(⟨at', ⟨b0, b1, ow, t, b4, b5, b6, b7⟩⟩ : It)])) rfl OO3.out (.slice none 0 0) (0) (kcs encIt (l.drop (0))) rfl SRC3.out (by unfold maxLen; omega) (by omega) (HZ3.out) ?nextc)
  case nextc =>
  intro v4 w4 hown _ hgrow _
  have el : l.take (0) ++ (⟨at', ⟨b0, b1, ow, t, b4, b5, b6, b7⟩⟩ : It) :: l.drop (0) = insG ltI ⟨at', ⟨b0, b1, ow, t, b4, b5, b6, b7⟩⟩ l := INS.out
  have o4 : OwnK encIt w4 z riE v4 (insG ltI ⟨at', ⟨b0, b1, ow, t, b4, b5, b6, b7⟩⟩ l) := by
   rw [<- el]
   unfold OwnK
   have e5 : l.take (0) ++ (⟨at', ⟨b0, b1, ow, t, b4, b5, b6, b7⟩⟩ : It) :: l.drop (0) = (l.take (0) ++ [(⟨at', ⟨b0, b1, ow, t, b4, b5, b6, b7⟩⟩ : It)]) ++ l.drop (0) := by simp
   rw [e5, xqi, List.length_append, HL3.out, HQ3.out]
   exact hown
  have k4 : Kept wq w4 [] := K3.out.grown hgrow (fun k hk => .inr (by have := (World.ownsRow.lt OO3.out k hk).1; rw [HZ.out] at this; exact this))
  obtain ⟨L', hL'⟩ : ∃ L', L' = (insG ltI (⟨at', ⟨b0, b1, ow, t, b4, b5, b6, b7⟩⟩ : It) l).length := ⟨_, rfl⟩
  obtain ⟨u4, c4, e4⟩ := o4.shape
  rw [<- hL'] at e4
  subst e4
  obtain ⟨⟨d4, f4⟩, a5, s5⟩ := AQ.out.layNew k4 (by rw [<- HZ.out]; exact o4)
  rw [EV.out] at d4
  have A5 := iH a5; have S5 := iH (s5.afterK (K4.out.trans KQ.out (by simp)))
  clear hown hgrow o4 k4 hL' a5 s5 el cc
  go_wp2
  go_ret
  rw [E0.out, L0.out]
  exact ⟨rfl, _, A5.out, S5.out⟩
  | some ad =>
  have CV := iH hcV
  clear hcell huV hcV
  have hQ1 : (l.take (0)).length = 0 := by rw [List.length_take]; omega
  have hQ3 : (l.drop (0)).length = l.length := by have := List.length_drop (l := l) (i := 0); omega
  have SRC1 : Hid (Src Tryz.prog 9 79 (.slice (some ad) 0 c) (0) (kcs encIt (l.take (0))) wq) := iH (by
   have := RdK.src (P := Tryz.prog) (tx := 79) (show RdK encIt wq (.slice (some ad) 0 c) (l.take (0)) from by rw [List.take_zero]; exact RdK.no _ _ _ (fun h => by cases h)) Tryz.underlying79
   rw [hQ1] at this; exact this)
  have RD3 : Hid (RdK encIt wq (.slice (some ad) l.length c) (l.drop (0))) := iH (RQ.out)
  have HQ1 := iH hQ1; have HQ3 := iH hQ3
  have cc0 := C0.out
  clear hQ1 hQ3
  go_wp2_with (at_builtin; refine xqa _ rfl (.tmp 89) (.tmp 95) 79 79 rfl z riE i0 _ 9 88 Tryz.underlying79 hi0 hz0 hz1 hz2 rfl (.slice none 0 0) (0) ([]) rfl (World.ownsRow_nil _ _ _ _) (.slice (some ad) 0 c) (0) (kcs encIt (l.take (0))) rfl SRC1.out (by unfold maxLen; omega) (by omega) (by rw [HZ.out]; exact Nat.le_refl _) ?nexta)
  case nexta =>
  intro v1 w1 hown _ hgrow _
  have o1 : OwnK encIt w1 z riE v1 (l.take (0)) := by unfold OwnK; rw [HQ1.out]; show w1.ownsRow _ _ 9 _ _ _; simpa using hown
  have k1 : Kept wq w1 [] := (Kept.refl wq []).grown hgrow (fun k hk => by simp [Value.ownBlock] at hk)
  obtain ⟨u1, c1, e1⟩ := o1.shape
  rw [HQ1.out] at e1
  subst e1
  have k2 : Kept w1 (w1.alloc (.cells #[.int .i64 at', .int .i64 b0, .int .i64 b1, .string ow, .int .i64 t, .int .i64 b4, .int .u8 b5, .int .i64 b6, .string b7] riE)) [] := (Kept.refl w1 []).alloc _
  have K2 := iH (k1.trans k2 (by simp))
  have SRC2 := xqQ (E := encIt) (P := Tryz.prog) (t := riE) w1 ⟨at', ⟨b0, b1, ow, t, b4, b5, b6, b7⟩⟩ (tx := 79) Tryz.underlying79
  simp only [encIt, It.cs] at SRC2
  have SRC2 := iH SRC2
  have HZ2 := iH (show z <= (w1.alloc (.cells #[.int .i64 at', .int .i64 b0, .int .i64 b1, .string ow, .int .i64 t, .int .i64 b4, .int .u8 b5, .int .i64 b6, .string b7] riE)).heap.size by have := (k1.trans k2 (by simp)).size; rw [HZ.out]; exact this)
  have OO : Hid ((w1.alloc (.cells #[.int .i64 at', .int .i64 b0, .int .i64 b1, .string ow, .int .i64 t, .int .i64 b4, .int .u8 b5, .int .i64 b6, .string b7] riE)).ownsRow z riE 9 (.slice u1 (0) c1) (0) (kcs encIt (l.take (0)))) := iH (by have := o1.keep k2; unfold OwnK at this; rw [HQ1.out] at this; exact this)
  obtain ⟨y0, y1, y2, y3, y4, y5, y6, y7, y8⟩ := XC.out w1 (KQ.out.trans k1 (by simp))
  clear hown hgrow o1 k1 k2 cc0
  go_wp2_with (at_builtin; refine xqa _ rfl (.tmp 97) (.tmp 99) 79 79 rfl z riE i0 _ 9 88 Tryz.underlying79 hi0 hz0 hz1 hz2 rfl (.slice u1 (0) c1) (0) (kcs encIt (l.take (0))) rfl OO.out (.slice (some ⟨w1.heap.size, 0, none⟩) 1 1) (1) (_) rfl SRC2.out (by unfold maxLen; omega) (by omega) (HZ2.out) ?nextb)
  case nextb =>
  intro v3 w3 hown _ hgrow _
  have o3 : OwnK encIt w3 z riE v3 (l.take (0) ++ [⟨at', ⟨b0, b1, ow, t, b4, b5, b6, b7⟩⟩]) := xqS (by rw [HQ1.out]; exact hown)
  have k3 : Kept wq w3 [] := K2.out.grown hgrow (fun k hk => .inr (by have := (World.ownsRow.lt OO.out k hk).1; rw [HZ.out] at this; exact this))
  have hl3 : (l.take (0) ++ [(⟨at', ⟨b0, b1, ow, t, b4, b5, b6, b7⟩⟩ : It)]).length = 0 + 1 := by rw [List.length_append, HQ1.out]; rfl
  obtain ⟨u3, c3, e3⟩ := o3.shape
  rw [hl3] at e3
  subst e3
  have OO3 : Hid (w3.ownsRow z riE 9 (.slice u3 (0 + 1) c3) (0 + 1) (kcs encIt (l.take (0) ++ [(⟨at', ⟨b0, b1, ow, t, b4, b5, b6, b7⟩⟩ : It)]))) := iH (by have := o3; unfold OwnK at this; rw [hl3] at this; exact this)
  have SRC3 : Hid (Src Tryz.prog 9 79 (.slice (some ad) l.length c) (l.length) (kcs encIt (l.drop (0))) w3) := iH (by
   have := (RD3.out.keep k3).src (P := Tryz.prog) (tx := 79) Tryz.underlying79
   rw [HQ3.out] at this; exact this)
  have cc := k3.cell (by simp) C0.out
  have K3 := iH k3; have HL3 := iH hl3; have HZ3 := iH (show z <= w3.heap.size by have := k3.size; rw [HZ.out]; exact this)
  clear hown hgrow o3 k3 hl3 y0 y1 y2 y3 y4 y5 y6 y7 y8
  go_wp2_with (at_builtin; refine xqa _ rfl (.tmp 102) (.tmp 108) 79 79 rfl z riE i0 _ 9 88 Tryz.underlying79 hi0 hz0 hz1 hz2 rfl (.slice u3 (1) c3) (1) (kcs encIt (l.take (0) ++ [(⟨at', ⟨b0, b1, ow, t, b4, b5, b6, b7⟩⟩ : It)])) rfl OO3.out (.slice (some ad) l.length c) (l.length) (kcs encIt (l.drop (0))) rfl SRC3.out (by unfold maxLen; omega) (by omega) (HZ3.out) ?nextc)
  case nextc =>
  intro v4 w4 hown _ hgrow _
  have el : l.take (0) ++ (⟨at', ⟨b0, b1, ow, t, b4, b5, b6, b7⟩⟩ : It) :: l.drop (0) = insG ltI ⟨at', ⟨b0, b1, ow, t, b4, b5, b6, b7⟩⟩ l := INS.out
  have o4 : OwnK encIt w4 z riE v4 (insG ltI ⟨at', ⟨b0, b1, ow, t, b4, b5, b6, b7⟩⟩ l) := by
   rw [<- el]
   unfold OwnK
   have e5 : l.take (0) ++ (⟨at', ⟨b0, b1, ow, t, b4, b5, b6, b7⟩⟩ : It) :: l.drop (0) = (l.take (0) ++ [(⟨at', ⟨b0, b1, ow, t, b4, b5, b6, b7⟩⟩ : It)]) ++ l.drop (0) := by simp
   rw [e5, xqi, List.length_append, HL3.out, HQ3.out]
   exact hown
  have k4 : Kept wq w4 [] := K3.out.grown hgrow (fun k hk => .inr (by have := (World.ownsRow.lt OO3.out k hk).1; rw [HZ.out] at this; exact this))
  obtain ⟨L', hL'⟩ : ∃ L', L' = (insG ltI (⟨at', ⟨b0, b1, ow, t, b4, b5, b6, b7⟩⟩ : It) l).length := ⟨_, rfl⟩
  obtain ⟨u4, c4, e4⟩ := o4.shape
  rw [<- hL'] at e4
  subst e4
  obtain ⟨⟨d4, f4⟩, a5, s5⟩ := AQ.out.layNew k4 (by rw [<- HZ.out]; exact o4)
  rw [EV.out] at d4
  have A5 := iH a5; have S5 := iH (s5.afterK (K4.out.trans KQ.out (by simp)))
  clear hown hgrow o4 k4 hL' a5 s5 el cc
  go_wp2
  go_ret
  rw [E0.out, L0.out]
  exact ⟨rfl, _, A5.out, S5.out⟩
 obtain ⟨p, rfl⟩ : ∃ p, q = p + 1 := ⟨q - 1, by omega⟩
 obtain ⟨xp, hxp⟩ : ∃ x, l[p]? = some x := ⟨_, List.getElem?_eq_getElem (by omega)⟩
 obtain ⟨g, o, c', hv⟩ := A4.out.hit hxp
 rw [EV.out] at hv
 simp only [Value.slice.injEq] at hv
 obtain ⟨rfl, -, rfl⟩ := hv
 have CX := iH (fun V' (hV : Kept W4 V' []) => cellsR_r (show RdK encIt V' (.slice (some ⟨g, o, none⟩) l.length c) l by have := (A4.out.keep hV).rd; rw [EV.out] at this; exact this) hxp)
 have y1 : (p : Int) < (l.length : Int) := by omega
 have y2 : (0 : Int) < (p : Int) + 1 := by omega
 have mj : IntKind.i64.wrap (((p : Int) + 1) - 1) = (p : Int) := by rw [IntKind.wrap_i64]; omega
 have mj2 : (p : Int) + 1 - 1 = (p : Int) := by omega
 have mj4 : ¬ (p : Int) < 0 := by omega
 have mj5 : IntKind.i64.wrap (p : Int) = (p : Int) := by rw [IntKind.wrap_i64]; omega
 have HXP := iH hxp
 have AH0 := fun W => ahead_any ⟨at', ⟨b0, b1, ow, t, b4, b5, b6, b7⟩⟩ xp W
 obtain ⟨bt, hbt⟩ : ∃ bt, bt = ltI ⟨at', ⟨b0, b1, ow, t, b4, b5, b6, b7⟩⟩ xp := ⟨_, rfl⟩
 rw [<- hbt] at AH0
 obtain ⟨d0, ⟨d1, d2, d3, d4, d5, d6, d7, d8⟩⟩ := xp
 simp only [encIt, It.cs] at CX AH0
 have AH := iH AH0; have HBT := iH hbt
 clear hxp AH0 hbt
 cases bt with
 | true =>
 go_upto_region 15 with fail
 refine wp_region_held_drew (S := fun Z => Kept W4 Z []) (by kernel_rfl) KR.out.drew (fun hJ => ?_)
 refine wx 0 73 (.int .i64 ((p : Int) + 1)) rfl hJ ?_
 refine wx 1 74 (.bool true) rfl hJ ?_
 refine wx 2 75 (.bool true) rfl hJ ?_
 refine wx 3 76 (.agg #[.int .i64 at', .int .i64 b0, .int .i64 b1, .string ow, .int .i64 t, .int .i64 b4, .int .u8 b5, .int .i64 b6, .string b7]) rfl hJ ?_ (hy := fun V hV => by (obtain ⟨y0, y1, y2, y3, y4, y5, y6, y7, y8⟩ := XC.out V hV; clear hV; go_simp))
 refine wx 4 77 (.pointer (some ⟨h, oo, none⟩)) rfl hJ ?_
 refine wx 5 78 (.pointer (some ⟨h, oo, none⟩)) rfl hJ ?_
 refine wx 6 79 (.pointer (some ⟨h, oo, none⟩)) rfl hJ ?_
 refine wx 7 80 (.slice (some ⟨g, o, none⟩) l.length c) rfl hJ ?_ (hy := fun V hV => by (have c0 := VC.out V hV; clear hV; go_simp))
 refine wx 8 81 (.int .i64 ((p : Int) + 1)) rfl hJ ?_
 refine wx 9 82 (.int .i64 p) rfl hJ ?_
 refine wx 10 83 (.pointer (some ⟨g, o + p * 9, none⟩)) rfl hJ ?_
 refine wx 11 84 (.agg #[.int .i64 d0, .int .i64 d1, .int .i64 d2, .string d3, .int .i64 d4, .int .i64 d5, .int .u8 d6, .int .i64 d7, .string d8]) rfl hJ ?_ (hy := fun V hV => by (obtain ⟨p0, p1, p2, p3, p4, p5, p6, p7, p8⟩ := CX.out V hV; clear hV; go_simp))
 refine wr1 12 rfl (fun K hK => ?_)
 go_simp
 go_at_call 170
 refine (AH.out _).mono ?_
 rintro r wq ⟨rfl, kq⟩
 have kq := KR.out.drew.trans kq (by simp)
 go_wp2_with fail
 refine hK.out _ _ kq (fun hJ => ?_)
 clear hK K
 refine wx 13 86 (.bool true) rfl hJ ?_
 refine wd ?_
 clear hJ
 have KQ := iH kq
 clear kq
 go_wp2
 go_roundw
 case rel =>
  refine ⟨p, by go_num, by omega, iH (fun j y hj hy => ?_), KQ⟩
  by_cases ej : j = p
  ·subst ej
   rw [HXP.out] at hy
   cases hy
   exact HBT.out.symm
  exact HA.out j y (by omega) hy
 case measure => simp [intOf]
 | false =>
 have INS := iH (insG_at (x := ⟨at', ⟨b0, b1, ow, t, b4, b5, b6, b7⟩⟩) ltI_ord OK.out.rise hq HA.out (fun y h0 hy => by
  rw [Nat.add_sub_cancel, HXP.out] at hy
  cases hy
  exact HBT.out.symm))
 go_upto_region 15 with fail
 refine wp_region_held_drew (S := fun Z => Kept W4 Z []) (by kernel_rfl) KR.out.drew (fun hJ => ?_)
 refine wx 0 73 (.int .i64 ((p : Int) + 1)) rfl hJ ?_
 refine wx 1 74 (.bool true) rfl hJ ?_
 refine wx 2 75 (.bool true) rfl hJ ?_
 refine wx 3 76 (.agg #[.int .i64 at', .int .i64 b0, .int .i64 b1, .string ow, .int .i64 t, .int .i64 b4, .int .u8 b5, .int .i64 b6, .string b7]) rfl hJ ?_ (hy := fun V hV => by (obtain ⟨y0, y1, y2, y3, y4, y5, y6, y7, y8⟩ := XC.out V hV; clear hV; go_simp))
 refine wx 4 77 (.pointer (some ⟨h, oo, none⟩)) rfl hJ ?_
 refine wx 5 78 (.pointer (some ⟨h, oo, none⟩)) rfl hJ ?_
 refine wx 6 79 (.pointer (some ⟨h, oo, none⟩)) rfl hJ ?_
 refine wx 7 80 (.slice (some ⟨g, o, none⟩) l.length c) rfl hJ ?_ (hy := fun V hV => by (have c0 := VC.out V hV; clear hV; go_simp))
 refine wx 8 81 (.int .i64 ((p : Int) + 1)) rfl hJ ?_
 refine wx 9 82 (.int .i64 p) rfl hJ ?_
 refine wx 10 83 (.pointer (some ⟨g, o + p * 9, none⟩)) rfl hJ ?_
 refine wx 11 84 (.agg #[.int .i64 d0, .int .i64 d1, .int .i64 d2, .string d3, .int .i64 d4, .int .i64 d5, .int .u8 d6, .int .i64 d7, .string d8]) rfl hJ ?_ (hy := fun V hV => by (obtain ⟨p0, p1, p2, p3, p4, p5, p6, p7, p8⟩ := CX.out V hV; clear hV; go_simp))
 refine wr1 12 rfl (fun K hK => ?_)
 go_simp
 go_at_call 170
 refine (AH.out _).mono ?_
 rintro r wq ⟨rfl, kq⟩
 have kq := KR.out.drew.trans kq (by simp)
 go_wp2_with fail
 refine hK.out _ _ kq (fun hJ => ?_)
 clear hK K
 refine wx 13 86 (.bool false) rfl hJ ?_
 refine wd ?_
 clear hJ
 have KQ := iH kq
 have aq := A4.out.keep kq
 have AQ := iH aq
 obtain ⟨z, hz⟩ : ∃ z, z = wq.heap.size := ⟨_, rfl⟩
 have HZ := iH hz
 have C0 := iH (show wq.cell? ⟨h, oo, none⟩ = some V from aq.cell.1)
 rw [EV.out] at C0
 have rq := aq.rd
 rw [EV.out] at rq
 have RQ := iH rq
 clear kq aq hz rq
 have hlc := RQ.out.cap.2
 have z1 : (p : Int) + 1 <= (l.length : Int) := by omega
 have z2 : (p : Int) + 1 <= (c : Int) := by omega
 have z3 : (0 : Int) <= (p : Int) + 1 := by omega
 have z4 : ((p : Int) + 1).toNat = p + 1 := by omega
 have z5 : p + 1 <= l.length := hq
 have z6 : p + 1 <= c := by omega
 clear mj mj2 mj4 mj5
 by_cases hc : c = p + 1
 ·have hlp : l.length = p + 1 := by omega
  have HLP := iH hlp
  subst hc
  have hQ1 : (l.take (p + 1)).length = p + 1 := by rw [List.length_take]; omega
  have hQ3 : (l.drop (p + 1)).length = 0 := by have := List.length_drop (l := l) (i := p + 1); omega
  have SRC1 : Hid (Src Tryz.prog 9 79 (.slice (some ⟨g, o, none⟩) (p + 1) (p + 1)) (p + 1) (kcs encIt (l.take (p + 1))) wq) := iH (by
   have := RdK.src (P := Tryz.prog) (tx := 79) (show RdK encIt wq (.slice (some ⟨g, o, none⟩) (p + 1) (p + 1)) (l.take (p + 1)) from RQ.out.take (q := p + 1) hq) Tryz.underlying79
   rw [hQ1] at this; exact this)
  have RD3 : Hid (RdK encIt wq (.slice (some ⟨g, o, none⟩) 0 0) (l.drop (p + 1))) := iH (by rw [List.drop_eq_nil_of_le (by omega)]; exact RdK.no wq _ 0 (fun _ => rfl))
  have HQ1 := iH hQ1; have HQ3 := iH hQ3
  have cc0 := C0.out
  clear hQ1 hQ3
  go_wp2_with (at_builtin; refine xqa _ rfl (.tmp 89) (.tmp 95) 79 79 rfl z riE i0 _ 9 88 Tryz.underlying79 hi0 hz0 hz1 hz2 rfl (.slice none 0 0) (0) ([]) rfl (World.ownsRow_nil _ _ _ _) (.slice (some ⟨g, o, none⟩) (p + 1) (p + 1)) (p + 1) (kcs encIt (l.take (p + 1))) rfl SRC1.out (by unfold maxLen; omega) (by omega) (by rw [HZ.out]; exact Nat.le_refl _) ?nexta)
  case nexta =>
  intro v1 w1 hown _ hgrow _
  have o1 : OwnK encIt w1 z riE v1 (l.take (p + 1)) := by unfold OwnK; rw [HQ1.out]; show w1.ownsRow _ _ 9 _ _ _; simpa using hown
  have k1 : Kept wq w1 [] := (Kept.refl wq []).grown hgrow (fun k hk => by simp [Value.ownBlock] at hk)
  obtain ⟨u1, c1, e1⟩ := o1.shape
  rw [HQ1.out] at e1
  subst e1
  have k2 : Kept w1 (w1.alloc (.cells #[.int .i64 at', .int .i64 b0, .int .i64 b1, .string ow, .int .i64 t, .int .i64 b4, .int .u8 b5, .int .i64 b6, .string b7] riE)) [] := (Kept.refl w1 []).alloc _
  have K2 := iH (k1.trans k2 (by simp))
  have SRC2 := xqQ (E := encIt) (P := Tryz.prog) (t := riE) w1 ⟨at', ⟨b0, b1, ow, t, b4, b5, b6, b7⟩⟩ (tx := 79) Tryz.underlying79
  simp only [encIt, It.cs] at SRC2
  have SRC2 := iH SRC2
  have HZ2 := iH (show z <= (w1.alloc (.cells #[.int .i64 at', .int .i64 b0, .int .i64 b1, .string ow, .int .i64 t, .int .i64 b4, .int .u8 b5, .int .i64 b6, .string b7] riE)).heap.size by have := (k1.trans k2 (by simp)).size; rw [HZ.out]; exact this)
  have OO : Hid ((w1.alloc (.cells #[.int .i64 at', .int .i64 b0, .int .i64 b1, .string ow, .int .i64 t, .int .i64 b4, .int .u8 b5, .int .i64 b6, .string b7] riE)).ownsRow z riE 9 (.slice u1 (p + 1) c1) (p + 1) (kcs encIt (l.take (p + 1)))) := iH (by have := o1.keep k2; unfold OwnK at this; rw [HQ1.out] at this; exact this)
  obtain ⟨y0, y1, y2, y3, y4, y5, y6, y7, y8⟩ := XC.out w1 (KQ.out.trans k1 (by simp))
  clear hown hgrow o1 k1 k2 cc0
  go_wp2_with (at_builtin; refine xqa _ rfl (.tmp 97) (.tmp 99) 79 79 rfl z riE i0 _ 9 88 Tryz.underlying79 hi0 hz0 hz1 hz2 rfl (.slice u1 (p + 1) c1) (p + 1) (kcs encIt (l.take (p + 1))) rfl OO.out (.slice (some ⟨w1.heap.size, 0, none⟩) 1 1) (1) (_) rfl SRC2.out (by unfold maxLen; omega) (by omega) (HZ2.out) ?nextb)
  case nextb =>
  intro v3 w3 hown _ hgrow _
  have o3 : OwnK encIt w3 z riE v3 (l.take (p + 1) ++ [⟨at', ⟨b0, b1, ow, t, b4, b5, b6, b7⟩⟩]) := xqS (by rw [HQ1.out]; exact hown)
  have k3 : Kept wq w3 [] := K2.out.grown hgrow (fun k hk => .inr (by have := (World.ownsRow.lt OO.out k hk).1; rw [HZ.out] at this; exact this))
  have hl3 : (l.take (p + 1) ++ [(⟨at', ⟨b0, b1, ow, t, b4, b5, b6, b7⟩⟩ : It)]).length = p + 1 + 1 := by rw [List.length_append, HQ1.out]; rfl
  obtain ⟨u3, c3, e3⟩ := o3.shape
  rw [hl3] at e3
  subst e3
  have OO3 : Hid (w3.ownsRow z riE 9 (.slice u3 (p + 1 + 1) c3) (p + 1 + 1) (kcs encIt (l.take (p + 1) ++ [(⟨at', ⟨b0, b1, ow, t, b4, b5, b6, b7⟩⟩ : It)]))) := iH (by have := o3; unfold OwnK at this; rw [hl3] at this; exact this)
  have SRC3 : Hid (Src Tryz.prog 9 79 (.slice (some ⟨g, o, none⟩) 0 0) (0) (kcs encIt (l.drop (p + 1))) w3) := iH (by
   have := (RD3.out.keep k3).src (P := Tryz.prog) (tx := 79) Tryz.underlying79
   rw [HQ3.out] at this; exact this)
  have cc := k3.cell (by simp) C0.out
  have K3 := iH k3; have HL3 := iH hl3; have HZ3 := iH (show z <= w3.heap.size by have := k3.size; rw [HZ.out]; exact this)
  clear hown hgrow o3 k3 hl3 y0 y1 y2 y3 y4 y5 y6 y7 y8
  go_wp2_with (at_builtin; refine xqa _ rfl (.tmp 102) (.tmp 108) 79 79 rfl z riE i0 _ 9 88 Tryz.underlying79 hi0 hz0 hz1 hz2 rfl (.slice u3 (p + 1 + 1) c3) (p + 1 + 1) (kcs encIt (l.take (p + 1) ++ [(⟨at', ⟨b0, b1, ow, t, b4, b5, b6, b7⟩⟩ : It)])) rfl OO3.out (.slice (some ⟨g, o, none⟩) 0 0) (0) (kcs encIt (l.drop (p + 1))) rfl SRC3.out (by unfold maxLen; omega) (by omega) (HZ3.out) ?nextc)
  case nextc =>
  intro v4 w4 hown _ hgrow _
  have el : l.take (p + 1) ++ (⟨at', ⟨b0, b1, ow, t, b4, b5, b6, b7⟩⟩ : It) :: l.drop (p + 1) = insG ltI ⟨at', ⟨b0, b1, ow, t, b4, b5, b6, b7⟩⟩ l := INS.out
  have o4 : OwnK encIt w4 z riE v4 (insG ltI ⟨at', ⟨b0, b1, ow, t, b4, b5, b6, b7⟩⟩ l) := by
   rw [<- el]
   unfold OwnK
   have e5 : l.take (p + 1) ++ (⟨at', ⟨b0, b1, ow, t, b4, b5, b6, b7⟩⟩ : It) :: l.drop (p + 1) = (l.take (p + 1) ++ [(⟨at', ⟨b0, b1, ow, t, b4, b5, b6, b7⟩⟩ : It)]) ++ l.drop (p + 1) := by simp
   rw [e5, xqi, List.length_append, HL3.out, HQ3.out]
   exact hown
  have k4 : Kept wq w4 [] := K3.out.grown hgrow (fun k hk => .inr (by have := (World.ownsRow.lt OO3.out k hk).1; rw [HZ.out] at this; exact this))
  obtain ⟨L', hL'⟩ : ∃ L', L' = (insG ltI (⟨at', ⟨b0, b1, ow, t, b4, b5, b6, b7⟩⟩ : It) l).length := ⟨_, rfl⟩
  obtain ⟨u4, c4, e4⟩ := o4.shape
  rw [<- hL'] at e4
  subst e4
  obtain ⟨⟨d4, f4⟩, a5, s5⟩ := AQ.out.layNew k4 (by rw [<- HZ.out]; exact o4)
  rw [EV.out] at d4
  have A5 := iH a5; have S5 := iH (s5.afterK (K4.out.trans KQ.out (by simp)))
  clear hown hgrow o4 k4 hL' a5 s5 el cc
  go_wp2
  go_ret
  rw [E0.out, L0.out]
  exact ⟨rfl, _, A5.out, S5.out⟩
 have hc2 : ¬ (c = p + 1) := hc
 have hQ1 : (l.take (p + 1)).length = p + 1 := by rw [List.length_take]; omega
 have hQ3 : (l.drop (p + 1)).length = l.length - (p + 1) := by have := List.length_drop (l := l) (i := p + 1); omega
 have SRC1 : Hid (Src Tryz.prog 9 79 (.slice (some ⟨g, o, none⟩) (p + 1) c) (p + 1) (kcs encIt (l.take (p + 1))) wq) := iH (by
  have := RdK.src (P := Tryz.prog) (tx := 79) (show RdK encIt wq (.slice (some ⟨g, o, none⟩) (p + 1) c) (l.take (p + 1)) from RQ.out.take (q := p + 1) hq) Tryz.underlying79
  rw [hQ1] at this; exact this)
 have RD3 : Hid (RdK encIt wq (.slice (some ⟨g, o + (p + 1) * 9, none⟩) (l.length - (p + 1)) (c - (p + 1))) (l.drop (p + 1))) := iH (RQ.out.drop (q := p + 1) hq)
 have HQ1 := iH hQ1; have HQ3 := iH hQ3
 have cc0 := C0.out
 clear hQ1 hQ3
 go_wp2_with (at_builtin; refine xqa _ rfl (.tmp 89) (.tmp 95) 79 79 rfl z riE i0 _ 9 88 Tryz.underlying79 hi0 hz0 hz1 hz2 rfl (.slice none 0 0) (0) ([]) rfl (World.ownsRow_nil _ _ _ _) (.slice (some ⟨g, o, none⟩) (p + 1) c) (p + 1) (kcs encIt (l.take (p + 1))) rfl SRC1.out (by unfold maxLen; omega) (by omega) (by rw [HZ.out]; exact Nat.le_refl _) ?nexta)
 case nexta =>
 intro v1 w1 hown _ hgrow _
 have o1 : OwnK encIt w1 z riE v1 (l.take (p + 1)) := by unfold OwnK; rw [HQ1.out]; show w1.ownsRow _ _ 9 _ _ _; simpa using hown
 have k1 : Kept wq w1 [] := (Kept.refl wq []).grown hgrow (fun k hk => by simp [Value.ownBlock] at hk)
 obtain ⟨u1, c1, e1⟩ := o1.shape
 rw [HQ1.out] at e1
 subst e1
 have k2 : Kept w1 (w1.alloc (.cells #[.int .i64 at', .int .i64 b0, .int .i64 b1, .string ow, .int .i64 t, .int .i64 b4, .int .u8 b5, .int .i64 b6, .string b7] riE)) [] := (Kept.refl w1 []).alloc _
 have K2 := iH (k1.trans k2 (by simp))
 have SRC2 := xqQ (E := encIt) (P := Tryz.prog) (t := riE) w1 ⟨at', ⟨b0, b1, ow, t, b4, b5, b6, b7⟩⟩ (tx := 79) Tryz.underlying79
 simp only [encIt, It.cs] at SRC2
 have SRC2 := iH SRC2
 have HZ2 := iH (show z <= (w1.alloc (.cells #[.int .i64 at', .int .i64 b0, .int .i64 b1, .string ow, .int .i64 t, .int .i64 b4, .int .u8 b5, .int .i64 b6, .string b7] riE)).heap.size by have := (k1.trans k2 (by simp)).size; rw [HZ.out]; exact this)
 have OO : Hid ((w1.alloc (.cells #[.int .i64 at', .int .i64 b0, .int .i64 b1, .string ow, .int .i64 t, .int .i64 b4, .int .u8 b5, .int .i64 b6, .string b7] riE)).ownsRow z riE 9 (.slice u1 (p + 1) c1) (p + 1) (kcs encIt (l.take (p + 1)))) := iH (by have := o1.keep k2; unfold OwnK at this; rw [HQ1.out] at this; exact this)
 obtain ⟨y0, y1, y2, y3, y4, y5, y6, y7, y8⟩ := XC.out w1 (KQ.out.trans k1 (by simp))
 clear hown hgrow o1 k1 k2 cc0
 go_wp2_with (at_builtin; refine xqa _ rfl (.tmp 97) (.tmp 99) 79 79 rfl z riE i0 _ 9 88 Tryz.underlying79 hi0 hz0 hz1 hz2 rfl (.slice u1 (p + 1) c1) (p + 1) (kcs encIt (l.take (p + 1))) rfl OO.out (.slice (some ⟨w1.heap.size, 0, none⟩) 1 1) (1) (_) rfl SRC2.out (by unfold maxLen; omega) (by omega) (HZ2.out) ?nextb)
 case nextb =>
 intro v3 w3 hown _ hgrow _
 have o3 : OwnK encIt w3 z riE v3 (l.take (p + 1) ++ [⟨at', ⟨b0, b1, ow, t, b4, b5, b6, b7⟩⟩]) := xqS (by rw [HQ1.out]; exact hown)
 have k3 : Kept wq w3 [] := K2.out.grown hgrow (fun k hk => .inr (by have := (World.ownsRow.lt OO.out k hk).1; rw [HZ.out] at this; exact this))
 have hl3 : (l.take (p + 1) ++ [(⟨at', ⟨b0, b1, ow, t, b4, b5, b6, b7⟩⟩ : It)]).length = p + 1 + 1 := by rw [List.length_append, HQ1.out]; rfl
 obtain ⟨u3, c3, e3⟩ := o3.shape
 rw [hl3] at e3
 subst e3
 have OO3 : Hid (w3.ownsRow z riE 9 (.slice u3 (p + 1 + 1) c3) (p + 1 + 1) (kcs encIt (l.take (p + 1) ++ [(⟨at', ⟨b0, b1, ow, t, b4, b5, b6, b7⟩⟩ : It)]))) := iH (by have := o3; unfold OwnK at this; rw [hl3] at this; exact this)
 have SRC3 : Hid (Src Tryz.prog 9 79 (.slice (some ⟨g, o + (p + 1) * 9, none⟩) (l.length - (p + 1)) (c - (p + 1))) (l.length - (p + 1)) (kcs encIt (l.drop (p + 1))) w3) := iH (by
  have := (RD3.out.keep k3).src (P := Tryz.prog) (tx := 79) Tryz.underlying79
  rw [HQ3.out] at this; exact this)
 have cc := k3.cell (by simp) C0.out
 have K3 := iH k3; have HL3 := iH hl3; have HZ3 := iH (show z <= w3.heap.size by have := k3.size; rw [HZ.out]; exact this)
 clear hown hgrow o3 k3 hl3 y0 y1 y2 y3 y4 y5 y6 y7 y8
 go_wp2_with (at_builtin; refine xqa _ rfl (.tmp 102) (.tmp 108) 79 79 rfl z riE i0 _ 9 88 Tryz.underlying79 hi0 hz0 hz1 hz2 rfl (.slice u3 (p + 1 + 1) c3) (p + 1 + 1) (kcs encIt (l.take (p + 1) ++ [(⟨at', ⟨b0, b1, ow, t, b4, b5, b6, b7⟩⟩ : It)])) rfl OO3.out (.slice (some ⟨g, o + (p + 1) * 9, none⟩) (l.length - (p + 1)) (c - (p + 1))) (l.length - (p + 1)) (kcs encIt (l.drop (p + 1))) rfl SRC3.out (by unfold maxLen; omega) (by omega) (HZ3.out) ?nextc)
 case nextc =>
 intro v4 w4 hown _ hgrow _
 have el : l.take (p + 1) ++ (⟨at', ⟨b0, b1, ow, t, b4, b5, b6, b7⟩⟩ : It) :: l.drop (p + 1) = insG ltI ⟨at', ⟨b0, b1, ow, t, b4, b5, b6, b7⟩⟩ l := INS.out
 have o4 : OwnK encIt w4 z riE v4 (insG ltI ⟨at', ⟨b0, b1, ow, t, b4, b5, b6, b7⟩⟩ l) := by
  rw [<- el]
  unfold OwnK
  have e5 : l.take (p + 1) ++ (⟨at', ⟨b0, b1, ow, t, b4, b5, b6, b7⟩⟩ : It) :: l.drop (p + 1) = (l.take (p + 1) ++ [(⟨at', ⟨b0, b1, ow, t, b4, b5, b6, b7⟩⟩ : It)]) ++ l.drop (p + 1) := by simp
  rw [e5, xqi, List.length_append, HL3.out, HQ3.out]
  exact hown
 have k4 : Kept wq w4 [] := K3.out.grown hgrow (fun k hk => .inr (by have := (World.ownsRow.lt OO3.out k hk).1; rw [HZ.out] at this; exact this))
 obtain ⟨L', hL'⟩ : ∃ L', L' = (insG ltI (⟨at', ⟨b0, b1, ow, t, b4, b5, b6, b7⟩⟩ : It) l).length := ⟨_, rfl⟩
 obtain ⟨u4, c4, e4⟩ := o4.shape
 rw [<- hL'] at e4
 subst e4
 obtain ⟨⟨d4, f4⟩, a5, s5⟩ := AQ.out.layNew k4 (by rw [<- HZ.out]; exact o4)
 rw [EV.out] at d4
 have A5 := iH a5; have S5 := iH (s5.afterK (K4.out.trans KQ.out (by simp)))
 clear hown hgrow o4 k4 hL' a5 s5 el cc
 go_wp2
 go_ret
 rw [E0.out, L0.out]
 exact ⟨rfl, _, A5.out, S5.out⟩
end Go.Proofs.YticiofkiffgclaaGreat
