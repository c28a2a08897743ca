/-
  Ert, Eqc in one text.
-/
import Derived.Test.YtjdbmlifekghfaaEt0
import Derived.Test.YtjdbmlifekghfaaEt16
import Derived.Test.YtjdbmlifekghfaaEt13
import Derived.Test.YtjdbmlifekghfaaEt10
set_option linter.unusedVariables false
set_option maxHeartbeats 16000000
set_option maxRecDepth 100000
namespace Go.Proofs.Ytjdbmlifekghfaa
open Go.RowKit
theorem turned_ops (kd tx nx id1 : Int) (ops : List Ox) (evs : List Px) (tn tm : Int) (op : List Int) (ta : Int) (nm : ByteArray) (n at1 : Int) (oa : Option Addr) (oc : Nat) (ea : Option Addr) (ec : Nat) (ia : Option Addr) (ic1 : Nat) (w : World) (rd : RdN w (⟨kd, tx, nx, id1, ops, evs, tn, tm, op, ta, nm, n, at1⟩ : En) (.slice oa ops.length oc) (.slice ea evs.length ec) (.slice ia op.length ic1)) (hl : ops.length <= 100000) (hle : evs.length <= 100000) :
  Calls Try.prog 13 #[.agg #[.int .u8 kd, .int .i64 tx, .int .i64 nx, .int .i64 id1, .slice oa ops.length oc, .slice ea evs.length ec, .int .i64 tn, .int .i64 tm, .slice ia op.length ic1, .int .i64 ta, .string nm, .int .i64 n, .int .i64 at1]] w fun en w' => ∃ vo ve, en = .returned (.agg (#[.int .u8 kd, .int .i64 tx, .int .i64 nx, .int .i64 id1, vo, ve, .int .i64 tn, .int .i64 tm, .slice ia op.length ic1, .int .i64 ta, .string nm, .int .i64 n, .int .i64 at1])) /\ OwnK encO w' w.heap.size 67 vo ops /\ OwnK encP w' w.heap.size 71 ve evs /\ Kept w w' [] := by
 obtain ⟨i0, hi0, hz0, hz1, hz2⟩ := info_parts Try.infoOx
 obtain ⟨j0, hj0, hy0, hy1, hy2⟩ := info_parts Try.infoPx
 obtain ⟨s0, hs0⟩ : ∃ s0, s0 = w.heap.size := ⟨_, rfl⟩
 obtain ⟨W0, hW0⟩ : ∃ W0, W0 = w.alloc (.cells #[.int .u8 kd, .int .i64 tx, .int .i64 nx, .int .i64 id1, .slice oa ops.length oc, .slice ea evs.length ec, .int .i64 tn, .int .i64 tm, .slice ia op.length ic1, .int .i64 ta, .string nm, .int .i64 n, .int .i64 at1] 35) := ⟨_, rfl⟩
 obtain ⟨V0, hV0⟩ : ∃ V0, V0 = W0.alloc (.cells #[.int .u8 0, .int .i64 0, .int .i64 0, .int .i64 0, .slice none 0 0, .slice none 0 0, .int .i64 0, .int .i64 0, .slice none 0 0, .int .i64 0, .string ⟨#[]⟩, .int .i64 0, .int .i64 0] 41) := ⟨_, rfl⟩
 obtain ⟨W1, hW1⟩ : ∃ W1, W1 = V0.alloc (.cells #[.int .u8 kd, .int .i64 tx, .int .i64 nx, .int .i64 id1, .slice none 0 0, .slice none 0 0, .int .i64 tn, .int .i64 tm, .slice ia op.length ic1, .int .i64 ta, .string nm, .int .i64 n, .int .i64 at1] 41) := ⟨_, rfl⟩
 have z0 : W0.heap.size = s0 + 1 := by rw [hW0, hs0]; simp
 have z1 : V0.heap.size = s0 + 2 := by rw [hV0]; simp [z0]
 have z2 : W1.heap.size = s0 + 3 := by rw [hW1]; simp [z1]
 have kA : Kept w W0 [] := by rw [hW0]; exact (Kept.refl w []).alloc _
 have kB : Kept W0 V0 [] := by rw [hV0]; exact (Kept.refl W0 []).alloc _
 have kC : Kept V0 W1 [] := by rw [hW1]; exact (Kept.refl V0 []).alloc _
 have k1 : Kept w W1 [] := (kA.trans kB (by simp)).trans kC (by simp)
 have b0 : W1.heap[s0]? = some (.cells #[.int .u8 kd, .int .i64 tx, .int .i64 nx, .int .i64 id1, .slice oa ops.length oc, .slice ea evs.length ec, .int .i64 tn, .int .i64 tm, .slice ia op.length ic1, .int .i64 ta, .string nm, .int .i64 n, .int .i64 at1] 35 (0, 0)) := (kB.trans kC (by simp)).heap (by simp) (by rw [hW0, hs0]; exact heap_alloc_new w _)
 have b1 : W1.heap[s0 + 1]? = some (.cells #[.int .u8 0, .int .i64 0, .int .i64 0, .int .i64 0, .slice none 0 0, .slice none 0 0, .int .i64 0, .int .i64 0, .slice none 0 0, .int .i64 0, .string ⟨#[]⟩, .int .i64 0, .int .i64 0] 41 (0, 0)) := kC.heap (by simp) (by rw [hV0, <- z0]; exact heap_alloc_new W0 _)
 have b2 : W1.heap[s0 + 2]? = some (.cells #[.int .u8 kd, .int .i64 tx, .int .i64 nx, .int .i64 id1, .slice none 0 0, .slice none 0 0, .int .i64 tn, .int .i64 tm, .slice ia op.length ic1, .int .i64 ta, .string nm, .int .i64 n, .int .i64 at1] 41 (0, 0)) := by rw [hW1, <- z1]; exact heap_alloc_new V0 _
 have RO := iH (fun V (hV : Kept W1 V [s0 + 2]) => (rd.ro.keep k1).kept2b hV (fun hne b hb => by have := rd.ro.keep k1; have := RdK.blk_lt rd.ro (List.length_pos_iff.2 hne) b hb; simp; omega))
 have RE := iH (fun V (hV : Kept W1 V [s0 + 2]) => (rd.re.keep k1).kept2b hV (fun hne b hb => by have := RdK.blk_lt rd.re (List.length_pos_iff.2 hne) b hb; simp; omega))
 have SC : RowKit.Hid (∀ V, Kept W1 V [s0 + 2] -> ∀ j, V.cell? ⟨s0, j, none⟩ = (#[.int .u8 kd, .int .i64 tx, .int .i64 nx, .int .i64 id1, .slice oa ops.length oc, .slice ea evs.length ec, .int .i64 tn, .int .i64 tm, .slice ia op.length ic1, .int .i64 ta, .string nm, .int .i64 n, .int .i64 at1] : Array Value)[j]?) := iH (fun V hV j => cell_of_row V s0 j _ _ _ (hV.heap (by simp) b0))
 have HZ1 := iH z2; have B1 := iH b1; have B2 := iH b2; have K1 := iH k1
 have HS0 := iH hs0
 subst hV0 hW0
 clear z0 z1 z2 kA kB kC k1 b0 b1 b2 rd hs0
 go_enter Try.func13, Try.ntmps13
 go_upto_region 2 with fail
 rw [<- hW1, <- HS0.out]
 clear hW1
 go_wp2
 go_loopw [4] (fun t wr => ∃ (k : Nat) (ua : Option Addr) (uc : Nat), t = .int .i64 k /\ k <= ops.length /\ wr.heap[s0 + 2]? = some (.cells #[.int .u8 kd, .int .i64 tx, .int .i64 nx, .int .i64 id1, .slice ua k uc, .slice none 0 0, .int .i64 tn, .int .i64 tm, .slice ia op.length ic1, .int .i64 ta, .string nm, .int .i64 n, .int .i64 at1] 41 (0, 0)) /\ OwnK encO wr (s0 + 3) 67 (.slice ua k uc) (ops.take k) /\ Kept W1 wr [s0 + 2]) (fun t _ => ops.length - (intOf t).toNat)
 case atStart => exact ⟨0, none, 0, rfl, Nat.zero_le _, B2.out, OwnK.nil _ _ _, Kept.refl _ _⟩
 case round =>
  obtain ⟨k, ua, uc, rfl, hk, hbx, how, hkw⟩ := hrel
  have BX := iH hbx; have OW := iH how; have KW := iH hkw
  have SZ : RowKit.Hid (s0 + 3 <= wr.heap.size) := iH (by have := HZ1.out; have := hkw.size; omega)
  have LT : RowKit.Hid ((ops.take k).length <= 100000) := iH (by rw [List.length_take]; omega)
  have pe : wr.cell? ⟨s0, 4, none⟩ = some (.slice oa ops.length oc) := SC.out wr hkw 4
  clear hbx how hkw
  by_cases hlt : k < ops.length
  ·obtain ⟨x, hx⟩ : ∃ x, ops[k]? = some x := ⟨_, List.getElem?_eq_getElem hlt⟩
   obtain ⟨ob, oo, rfl, _⟩ := (RO.out wr KW.out).at hx
   have CE : RowKit.Hid (∀ V, Kept W1 V [s0 + 2] -> V.cell? ⟨s0, 4, none⟩ = some (.slice (some ⟨ob, oo, none⟩) ops.length oc) /\ ∀ j, j < 4 -> V.cell? ⟨ob, oo + k * 4 + j, none⟩ = (x.cs)[j]?) := iH (fun V hV => ⟨SC.out V hV 4, fun j hj => (RO.out V hV).here hx j hj⟩)
   have HX := iH hx
   have HL := iH hlt
   obtain ⟨b0, b1, b2, b3⟩ := x
   simp only [Ox.cs] at CE
   have x1 : (k : Int) < (ops.length : Int) := by omega
   clear hx pe
   obtain ⟨pe, qq⟩ := CE.out wr KW.out
   have q0 := qq 0 (by decide)
   simp only [List.getElem?_toArray, List.getElem?_cons_zero, Nat.add_zero] at q0
   clear qq
   obtain ⟨z, hz⟩ : ∃ z, z = wr.heap.size := ⟨_, rfl⟩
   obtain ⟨WA, hWA⟩ : ∃ WA, WA = wr.alloc (.cells #[.int .i64 b0, .bool false, .int .i64 0, .string ⟨#[]⟩] 67) := ⟨_, rfl⟩
   have kA : Kept wr WA [] := by rw [hWA]; exact (Kept.refl wr []).alloc _
   have bA : WA.heap[z]? = some (.cells #[.int .i64 b0, .bool false, .int .i64 0, .string ⟨#[]⟩] 67 (0, 0)) := by rw [hWA, hz]; exact heap_alloc_new wr _
   have HZ := iH hz
   have HZS : RowKit.Hid (s0 + 3 <= z) := iH (by have := SZ.out; omega)
   go_upto_region 6 with fail
   clear pe q0
   rw [<- hWA, <- HZ.out]
   clear hWA hz
   have KA := iH kA; have BA := iH bA
   clear kA bA
   refine wp_region_held_drew (S := fun Z => Kept W1 Z [s0 + 2]) (by kernel_rfl) (KW.out.trans KA.out (by simp)).drew (fun hJ => ?_)
   obtain ⟨WD, hWD⟩ : ∃ WD, WD = WA.drew := ⟨_, rfl⟩
   have KD : RowKit.Hid (Kept wr WD []) := iH (by rw [hWD]; exact KA.out.drew)
   have BD : RowKit.Hid (WD.heap[z]? = some (.cells #[.int .i64 b0, .bool false, .int .i64 0, .string ⟨#[]⟩] 67 (0, 0))) := iH (by rw [hWD]; exact BA.out)
   revert hJ
   rw [<- hWD]
   intro hJ
   clear hWD KA BA
   refine wx 0 38 (.pointer (some ⟨s0, 4, none⟩)) rfl hJ ?_
   refine wx 1 39 (.slice (some ⟨ob, oo, none⟩) ops.length oc) rfl hJ ?_ (hy := fun V hV => by (obtain ⟨pe, qq⟩ := CE.out V hV; have q0 := qq 0 (by decide); have q1 := qq 1 (by decide); have q2 := qq 2 (by decide); have q3 := qq 3 (by decide); clear hV qq; simp only [List.getElem?_toArray, List.getElem?_cons_zero, List.getElem?_cons_succ, Nat.add_zero] at q0 q1 q2 q3; go_simp))
   refine wx 2 40 (.int .i64 k) rfl hJ ?_
   refine wx 3 41 (.pointer (some ⟨ob, oo + k * 4, none⟩)) rfl hJ ?_
   refine wx 4 42 (.pointer (some ⟨ob, oo + k * 4 + 1, none⟩)) rfl hJ ?_
   refine wx 5 43 (.pointer (some ⟨ob, oo + k * 4 + 1, none⟩)) rfl hJ ?_
   refine wx 6 44 (.bool b1) rfl hJ ?_ (hy := fun V hV => by (obtain ⟨pe, qq⟩ := CE.out V hV; have q0 := qq 0 (by decide); have q1 := qq 1 (by decide); have q2 := qq 2 (by decide); have q3 := qq 3 (by decide); clear hV qq; simp only [List.getElem?_toArray, List.getElem?_cons_zero, List.getElem?_cons_succ, Nat.add_zero] at q0 q1 q2 q3; go_simp))
   refine wx 7 45 (.pointer (some ⟨s0, 4, none⟩)) rfl hJ ?_
   refine wx 8 46 (.slice (some ⟨ob, oo, none⟩) ops.length oc) rfl hJ ?_ (hy := fun V hV => by (obtain ⟨pe, qq⟩ := CE.out V hV; have q0 := qq 0 (by decide); have q1 := qq 1 (by decide); have q2 := qq 2 (by decide); have q3 := qq 3 (by decide); clear hV qq; simp only [List.getElem?_toArray, List.getElem?_cons_zero, List.getElem?_cons_succ, Nat.add_zero] at q0 q1 q2 q3; go_simp))
   refine wx 9 47 (.int .i64 k) rfl hJ ?_
   refine wx 10 48 (.pointer (some ⟨ob, oo + k * 4, none⟩)) rfl hJ ?_
   refine wx 11 49 (.pointer (some ⟨ob, oo + k * 4 + 1, none⟩)) rfl hJ ?_
   refine wx 12 50 (.pointer (some ⟨ob, oo + k * 4 + 2, none⟩)) rfl hJ ?_
   refine wx 13 51 (.agg #[.int .i64 b2, .string b3]) rfl hJ ?_ (hy := fun V hV => by (obtain ⟨pe, qq⟩ := CE.out V hV; have q0 := qq 0 (by decide); have q1 := qq 1 (by decide); have q2 := qq 2 (by decide); have q3 := qq 3 (by decide); clear hV qq; simp only [List.getElem?_toArray, List.getElem?_cons_zero, List.getElem?_cons_succ, Nat.add_zero] at q0 q1 q2 q3; go_simp))
   refine wx 14 52 (.pointer (some ⟨z, 1, none⟩)) rfl hJ ?_
   refine wx 15 53 (.pointer (some ⟨z, 1, none⟩)) rfl hJ ?_
   have d1 := cell_of_row WD z 1 _ _ _ BD.out; have f1 := frozen_of_row WD z 1 _ _ BD.out
   simp at d1
   refine wr1 16 rfl (fun K hK => ?_)
   go_simp
   obtain ⟨WE, hWE⟩ : ∃ WE, WE = WD.setCell ⟨z, 1, none⟩ (.bool b1) := ⟨_, rfl⟩
   rw [<- hWE]
   have KE0 : RowKit.Hid (Kept wr WE []) := iH (by rw [hWE]; exact KD.out.setCell (.inr (by simp [HZ.out])) _)
   have BE : RowKit.Hid (WE.heap[z]? = some (.cells #[.int .i64 b0, .bool b1, .int .i64 0, .string ⟨#[]⟩] 67 (0, 0))) := iH (by rw [hWE]; have := xqa BD.out 1 (.bool b1); simpa using this)
   clear hWE d1 f1 KD BD
   refine hK.out _ _ (KW.out.trans KE0.out (by simp)) (fun hJ => ?_)
   clear hK K
   have d2 := cell_of_row WE z 2 _ _ _ BE.out; have d3 := cell_of_row WE z 3 _ _ _ BE.out; have f2 := frozen_of_row WE z 2 _ _ BE.out; have f3 := frozen_of_row WE z 3 _ _ BE.out
   simp at d2 d3
   refine wx 17 54 (.pointer (some ⟨z, 1, none⟩)) rfl hJ ?_
   refine wx 18 55 (.pointer (some ⟨z, 2, none⟩)) rfl hJ ?_
   refine wr1 19 rfl (fun K hK => ?_)
   go_simp
   obtain ⟨WF, hWF⟩ : ∃ WF, WF = (WE.setCell ⟨z, 2, none⟩ (.int .i64 b2)).setCell ⟨z, 3, none⟩ (.string b3) := ⟨_, rfl⟩
   rw [<- hWF]
   have KF : RowKit.Hid (Kept wr WF []) := iH (by rw [hWF]; exact (KE0.out.setCell (.inr (by simp [HZ.out])) _).setCell (.inr (by simp [HZ.out])) _)
   have BF : RowKit.Hid (WF.heap[z]? = some (.cells #[.int .i64 b0, .bool b1, .int .i64 b2, .string b3] 67 (0, 0))) := iH (by rw [hWF]; have := xqa (xqa BE.out 2 (.int .i64 b2)) 3 (.string b3); simpa using this)
   clear hWF d2 d3 f2 f3 KE0 BE
   refine hK.out _ _ (KW.out.trans KF.out (by simp)) (fun hJ => ?_)
   clear hK K
   refine wd ?_
   clear hJ
   have KWF : RowKit.Hid (Kept W1 WF [s0 + 2]) := iH (KW.out.trans KF.out (by simp))
   have BXF : RowKit.Hid (WF.heap[s0 + 2]? = some (.cells #[.int .u8 kd, .int .i64 tx, .int .i64 nx, .int .i64 id1, .slice ua k uc, .slice none 0 0, .int .i64 tn, .int .i64 tm, .slice ia op.length ic1, .int .i64 ta, .string nm, .int .i64 n, .int .i64 at1] 41 (0, 0))) := iH (KF.out.heap (by simp) BX.out)
   have OA := iH (OW.out.keep KF.out)
   have SRC := xqI (E := encO) (P := Try.prog) (t := 67) WF (⟨b0, b1, b2, b3⟩ : Ox) (tx := 38) Try.underlying38
   simp only [encO, Ox.cs] at SRC
   have SRC := iH SRC
   have OO := iH (OA.out.keep ((Kept.refl WF []).alloc (.cells #[.int .i64 b0, .bool b1, .int .i64 b2, .string b3] 67)))
   have HS : RowKit.Hid (s0 + 3 <= (WF.alloc (.cells #[.int .i64 b0, .bool b1, .int .i64 b2, .string b3] 67)).heap.size) := iH (by have := SZ.out; have := KF.out.size; simp; omega)
   have c0 := cell_of_row WF z 0 _ _ _ BF.out
   have c1 := cell_of_row WF z 1 _ _ _ BF.out
   have c2 := cell_of_row WF z 2 _ _ _ BF.out
   have c3 := cell_of_row WF z 3 _ _ _ BF.out
   simp only [List.getElem?_toArray, List.getElem?_cons_zero, List.getElem?_cons_succ] at c0 c1 c2 c3
   have d4 := cell_of_row WF (s0 + 2) 4 _ _ _ BXF.out
   simp at d4
   go_wp2_with (at_builtin; refine xqp _ rfl (.tmp 57) (.tmp 59) 38 38 rfl (s0 + 3) 67 i0 _ 4 40 Try.underlying38 hi0 hz0 hz1 hz2 rfl (.slice ua k uc) (ops.take k).length (kcs encO (ops.take k)) rfl OO.out (.slice (some ⟨WF.heap.size, 0, none⟩) 1 1) 1 _ rfl SRC.out (by have := LT.out; unfold maxLen; omega) (by have := LT.out; omega) HS.out ?nexta)
   case nexta =>
   intro v9 w9 hown _ hgrow _
   have o9 : OwnK encO w9 (s0 + 3) 67 v9 (ops.take (k + 1)) := by
    rw [List.take_add_one, HX.out]
    unfold OwnK
    rw [Option.toList_some, xqv, xqu, List.length_append, show (ops.take k).length = k from by rw [List.length_take]; have := HL.out; omega]
    exact hown
   have kb : Kept W1 w9 [s0 + 2] := (KWF.out.alloc _).grown hgrow (fun b hb => .inr (by have := (OO.out.lt b hb).1; have := HZ1.out; omega))
   have bx9 : w9.heap[s0 + 2]? = some (.cells #[.int .u8 kd, .int .i64 tx, .int .i64 nx, .int .i64 id1, .slice ua k uc, .slice none 0 0, .int .i64 tn, .int .i64 tm, .slice ia op.length ic1, .int .i64 ta, .string nm, .int .i64 n, .int .i64 at1] 41 (0, 0)) := by
    have h1 := ((Kept.refl WF []).alloc (.cells #[.int .i64 b0, .bool b1, .int .i64 b2, .string b3] 67)).heap (by simp) BXF.out
    rw [hgrow.block _ (Array.getElem?_eq_some_iff.1 h1).1 (fun hm => by have := (OO.out.lt _ hm.symm).1; omega)]
    exact h1
   have d9 := cell_of_row w9 (s0 + 2) 4 _ _ _ bx9; have f9 := frozen_of_row w9 (s0 + 2) 4 _ _ bx9
   simp at d9
   obtain ⟨u9, c9, e9⟩ := o9.shape
   have l9 : (ops.take (k + 1)).length = k + 1 := by rw [List.length_take]; have := HL.out; omega
   rw [l9] at e9
   subst e9
   clear l9
   have bs := xqa bx9 4 (.slice u9 (k + 1 : Nat) c9)
   simp only [List.setIfInBounds_toArray, List.set_cons_zero, List.set_cons_succ] at bs
   have ks : Kept w9 (w9.setCell ⟨s0 + 2, 4, none⟩ (.slice u9 (k + 1 : Nat) c9)) [s0 + 2] := (Kept.refl w9 _).setCell (.inl (by simp)) _
   have o10 := o9.kept ks (fun b hb => by have := (o9.lt b hb).1; simp; omega)
   have BS := iH bs; have O10 := iH o10; have KE := iH (kb.trans ks (fun x hx => .inl hx))
   clear hown hgrow o9 kb bx9 bs ks o10 c0 c1 c2 c3 d4
   go_wp2
   clear d9 f9
   go_roundw
   case rel => exact ⟨k + 1, u9, c9, by go_num, by omega, BS.out, O10.out, KE.out⟩
   case measure => simp [intOf]; omega
  have hke : k = ops.length := by omega
  subst hke
  obtain ⟨oa1, h1⟩ : ∃ x, x = ua := ⟨_, rfl⟩
  subst h1
  obtain ⟨oc1, h1⟩ : ∃ x, x = uc := ⟨_, rfl⟩
  subst h1
  have OT0 : RowKit.Hid (OwnK encO wr (s0 + 3) 67 (.slice oa1 ops.length oc1) ops) := iH (by have h2 := OW.out; rw [List.take_of_length_le (Nat.le_refl _)] at h2; exact h2)
  have BX0 := BX
  have KW0 := KW
  have x1 : ¬ ((ops.length : Int) < (ops.length : Int)) := by omega
  clear BX OW KW LT SZ hk hlt
  obtain ⟨wo, hwo⟩ : ∃ wo, wo = wr := ⟨_, rfl⟩
  subst hwo
  go_wp2
  go_loopw [6] (fun t wr => ∃ (k : Nat) (ua : Option Addr) (uc : Nat), t = .int .i64 k /\ k <= evs.length /\ wr.heap[s0 + 2]? = some (.cells #[.int .u8 kd, .int .i64 tx, .int .i64 nx, .int .i64 id1, .slice oa1 ops.length oc1, .slice ua k uc, .int .i64 tn, .int .i64 tm, .slice ia op.length ic1, .int .i64 ta, .string nm, .int .i64 n, .int .i64 at1] 41 (0, 0)) /\ OwnK encP wr (s0 + 3) 71 (.slice ua k uc) (evs.take k) /\ OwnK encO wr (s0 + 3) 67 (.slice oa1 ops.length oc1) ops /\ (∀ b, (Value.slice oa1 ops.length oc1).ownBlock = some b -> (Value.slice ua k uc).ownBlock ≠ some b) /\ Kept W1 wr [s0 + 2]) (fun t _ => evs.length - (intOf t).toNat)
  case atStart => exact ⟨0, none, 0, rfl, Nat.zero_le _, BX0.out, OwnK.nil _ _ _, OT0.out, fun b _ h => by simp [Value.ownBlock] at h, KW0.out⟩
  case round =>
  obtain ⟨k, ua, uc, rfl, hk, hbx, how, hot, hdj, hkw⟩ := hrel
  have BX := iH hbx; have OW := iH how; have KW := iH hkw; have OT := iH hot; have DISJ := iH hdj
  have SZ : RowKit.Hid (s0 + 3 <= wr.heap.size) := iH (by have := HZ1.out; have := hkw.size; omega)
  have LT : RowKit.Hid ((evs.take k).length <= 100000) := iH (by rw [List.length_take]; omega)
  have pe : wr.cell? ⟨s0, 5, none⟩ = some (.slice ea evs.length ec) := SC.out wr hkw 5
  clear hbx how hkw hot hdj BX0 KW0 OT0 x1
  by_cases hlt : k < evs.length
  ·obtain ⟨x, hx⟩ : ∃ x, evs[k]? = some x := ⟨_, List.getElem?_eq_getElem hlt⟩
   obtain ⟨ob, oo, rfl, _⟩ := (RE.out wr KW.out).at hx
   have CE : RowKit.Hid (∀ V, Kept W1 V [s0 + 2] -> V.cell? ⟨s0, 5, none⟩ = some (.slice (some ⟨ob, oo, none⟩) evs.length ec) /\ ∀ j, j < 9 -> V.cell? ⟨ob, oo + k * 9 + j, none⟩ = (x.cs)[j]?) := iH (fun V hV => ⟨SC.out V hV 5, fun j hj => (RE.out V hV).here hx j hj⟩)
   have HX := iH hx
   have HL := iH hlt
   obtain ⟨b0, ⟨b1, b2, b3, b4, b5, b6, b7, b8⟩⟩ := x
   simp only [Px.cs] at CE
   have x1 : (k : Int) < (evs.length : Int) := by omega
   have d0 := cell_of_row wr.drew (s0 + 2) 5 _ _ _ BX.out
   simp at d0
   clear hx
   go_upto_region 11 with fail
   clear pe
   refine wp_region_held_drew (S := fun Z => Kept W1 Z [s0 + 2]) (by kernel_rfl) KW.out.drew (fun hJ => ?_)
   refine wx 0 69 (.pointer (some ⟨s0 + 2, 5, none⟩)) rfl hJ ?_
   refine wx 2 71 (.pointer (some ⟨s0, 5, none⟩)) rfl hJ ?_
   refine wx 3 72 (.slice (some ⟨ob, oo, none⟩) evs.length ec) rfl hJ ?_ (hy := fun V hV => by (obtain ⟨pe, qq⟩ := CE.out V hV; have q0 := qq 0 (by decide); have q1 := qq 1 (by decide); have q2 := qq 2 (by decide); have q3 := qq 3 (by decide); have q4 := qq 4 (by decide); have q5 := qq 5 (by decide); have q6 := qq 6 (by decide); have q7 := qq 7 (by decide); have q8 := qq 8 (by decide); clear hV qq; simp only [List.getElem?_toArray, List.getElem?_cons_zero, List.getElem?_cons_succ, Nat.add_zero] at q0 q1 q2 q3 q4 q5 q6 q7 q8; go_simp))
   refine wx 4 73 (.int .i64 k) rfl hJ ?_
   refine wx 5 74 (.pointer (some ⟨ob, oo + k * 9, none⟩)) rfl hJ ?_
   refine wx 6 75 (.pointer (some ⟨ob, oo + k * 9, none⟩)) rfl hJ ?_
   refine wx 7 76 (.int .i64 b0) rfl hJ ?_ (hy := fun V hV => by (obtain ⟨pe, qq⟩ := CE.out V hV; have q0 := qq 0 (by decide); have q1 := qq 1 (by decide); have q2 := qq 2 (by decide); have q3 := qq 3 (by decide); have q4 := qq 4 (by decide); have q5 := qq 5 (by decide); have q6 := qq 6 (by decide); have q7 := qq 7 (by decide); have q8 := qq 8 (by decide); clear hV qq; simp only [List.getElem?_toArray, List.getElem?_cons_zero, List.getElem?_cons_succ, Nat.add_zero] at q0 q1 q2 q3 q4 q5 q6 q7 q8; go_simp))
   refine wx 8 77 (.pointer (some ⟨s0, 5, none⟩)) rfl hJ ?_
   refine wx 9 78 (.slice (some ⟨ob, oo, none⟩) evs.length ec) rfl hJ ?_ (hy := fun V hV => by (obtain ⟨pe, qq⟩ := CE.out V hV; have q0 := qq 0 (by decide); have q1 := qq 1 (by decide); have q2 := qq 2 (by decide); have q3 := qq 3 (by decide); have q4 := qq 4 (by decide); have q5 := qq 5 (by decide); have q6 := qq 6 (by decide); have q7 := qq 7 (by decide); have q8 := qq 8 (by decide); clear hV qq; simp only [List.getElem?_toArray, List.getElem?_cons_zero, List.getElem?_cons_succ, Nat.add_zero] at q0 q1 q2 q3 q4 q5 q6 q7 q8; go_simp))
   refine wx 10 79 (.int .i64 k) rfl hJ ?_
   refine wx 11 80 (.pointer (some ⟨ob, oo + k * 9, none⟩)) rfl hJ ?_
   refine wx 12 81 (.pointer (some ⟨ob, oo + k * 9 + 1, none⟩)) rfl hJ ?_
   refine wx 13 82 (.agg #[.int .i64 b1, .int .i64 b2, .string b3, .int .i64 b4, .int .i64 b5, .int .u8 b6, .int .i64 b7, .string b8]) rfl hJ ?_ (hy := fun V hV => by (obtain ⟨pe, qq⟩ := CE.out V hV; have q0 := qq 0 (by decide); have q1 := qq 1 (by decide); have q2 := qq 2 (by decide); have q3 := qq 3 (by decide); have q4 := qq 4 (by decide); have q5 := qq 5 (by decide); have q6 := qq 6 (by decide); have q7 := qq 7 (by decide); have q8 := qq 8 (by decide); clear hV qq; simp only [List.getElem?_toArray, List.getElem?_cons_zero, List.getElem?_cons_succ, Nat.add_zero] at q0 q1 q2 q3 q4 q5 q6 q7 q8; go_simp))
   refine wx 14 83 (.agg #[.int .i64 b0, .int .i64 b1, .int .i64 b2, .string b3, .int .i64 b4, .int .i64 b5, .int .u8 b6, .int .i64 b7, .string b8]) rfl hJ ?_
   refine wpAnyH_ready (rs := [1, 15]) (by kernel_rfl) (by simp) ?_
   refine AllReadyH.cons (o := _) rfl (fun K hK => ?_) (AllReadyH.cons (o := _) rfl (fun K hK => ?_) AllReadyH.nil)
   ·go_simp
    refine hK.out _ _ KW.out.drew (fun hJ => ?_)
    clear hK K
    refine wr1 15 rfl (fun K hK => ?_)
    obtain ⟨WB, hWB⟩ : ∃ WB, WB = wr.drew.alloc (.cells #[.int .i64 b0, .int .i64 b1, .int .i64 b2, .string b3, .int .i64 b4, .int .i64 b5, .int .u8 b6, .int .i64 b7, .string b8] 71) := ⟨_, rfl⟩
    have SRCF : RowKit.Hid (Src Try.prog 9 39 (.slice (some ⟨wr.heap.size, 0, none⟩) 1 1) 1 (encP.cs (⟨b0, ⟨b1, b2, b3, b4, b5, b6, b7, b8⟩⟩ : Px)).toList WB) := iH (by rw [hWB]; exact xqI (E := encP) wr.drew (⟨b0, ⟨b1, b2, b3, b4, b5, b6, b7, b8⟩⟩ : Px) Try.underlying39)
    have KB : RowKit.Hid (Kept wr WB []) := iH (by rw [hWB]; exact ((Kept.refl wr []).drew).alloc _)
    have KWB : RowKit.Hid (Kept W1 WB [s0 + 2]) := iH (KW.out.trans KB.out (by simp))
    refine xqo _ rfl 39 (.tmp 83) rfl 71 j0 _ 9 Try.underlying39 hj0 hy0 hy1 (by decide) (by decide) (encP.cs (⟨b0, ⟨b1, b2, b3, b4, b5, b6, b7, b8⟩⟩ : Px)).toList rfl rfl ?_
    refine hK.out _ _ (by rw [hWB] at KWB; exact KWB.out) (fun hJ => ?_)
    clear hK K
    change wpAnyH _ _ _ _ _ _ _ _ (wr.drew.alloc (.cells #[.int .i64 b0, .int .i64 b1, .int .i64 b2, .string b3, .int .i64 b4, .int .i64 b5, .int .u8 b6, .int .i64 b7, .string b8] 71))
    rw [<- hWB]
    clear hWB d0
    have OO := iH (OW.out.keep KB.out)
    have SR := iH SRCF.out
    refine wr1 16 rfl (fun K hK => ?_)
    refine xqn _ rfl (.tmp 70) (.tmp 84) 39 39 rfl (s0 + 3) 71 j0 _ 9 88 Try.underlying39 hj0 hy0 hy1 hy2 rfl (.slice ua k uc) (evs.take k).length (kcs encP (evs.take k)) rfl OO.out _ 1 _ rfl SR.out (by have := LT.out; unfold maxLen; omega) (by have := LT.out; omega) (by have := KB.out.size; have := SZ.out; omega) ?_
    intro v9 w9 hown _ hgrow _
    have o9 : OwnK encP w9 (s0 + 3) 71 v9 (evs.take (k + 1)) := by
     rw [List.take_add_one, HX.out]
     unfold OwnK
     rw [Option.toList_some, xqv, xqu, List.length_append]
     exact hown
    have kb : Kept W1 w9 [s0 + 2] := KWB.out.grown hgrow (fun b hb => .inr (by have := (OO.out.lt b hb).1; have := HZ1.out; omega))
    have bx9 : w9.heap[s0 + 2]? = some (.cells #[.int .u8 kd, .int .i64 tx, .int .i64 nx, .int .i64 id1, .slice oa1 ops.length oc1, .slice ua k uc, .int .i64 tn, .int .i64 tm, .slice ia op.length ic1, .int .i64 ta, .string nm, .int .i64 n, .int .i64 at1] 41 (0, 0)) := by
     have h1 := (KB.out.heap (by simp) BX.out)
     rw [hgrow.block _ (Array.getElem?_eq_some_iff.1 h1).1 (fun hm => by have := (OO.out.lt _ hm.symm).1; omega)]
     exact h1
    have d9 := cell_of_row w9 (s0 + 2) 5 _ _ _ bx9; have f9 := frozen_of_row w9 (s0 + 2) 5 _ _ bx9
    simp at d9
    have oth := ((OT.out.keep KB.out).kept ((Kept.refl _ (Value.slice ua k uc).ownBlock.toList).grown hgrow (fun b hb => .inl (by simp [hb]))) (fun b hb hm => DISJ.out b hb (by simpa using hm)))
    obtain ⟨u9, c9, e9⟩ := o9.shape
    have l9 : (evs.take (k + 1)).length = k + 1 := by rw [List.length_take]; have := HL.out; omega
    rw [l9] at e9
    subst e9
    clear l9
    have bs := xqa bx9 5 (.slice u9 (k + 1 : Nat) c9)
    simp only [List.setIfInBounds_toArray, List.set_cons_zero, List.set_cons_succ] at bs
    have ks : Kept w9 (w9.setCell ⟨s0 + 2, 5, none⟩ (.slice u9 (k + 1 : Nat) c9)) [s0 + 2] := (Kept.refl w9 _).setCell (.inl (by simp)) _
    have o10 := o9.kept ks (fun b hb => by have := (o9.lt b hb).1; simp; omega)
    have oth10 := oth.kept ks (fun b hb => by have := (oth.lt b hb).1; simp; omega)
    have dj : ∀ b, (Value.slice oa1 ops.length oc1).ownBlock = some b -> (Value.slice u9 (k + 1 : Nat) c9).ownBlock ≠ some b := fun b hb hb2 => by
     have h1 := (oth.tag hb); have h2 := (o9.tag hb2)
     obtain ⟨c1, h1⟩ := h1; obtain ⟨c2, h2⟩ := h2
     rw [h1] at h2; simp at h2
    have BS := iH bs; have O10 := iH o10; have OT10 := iH oth10; have KE := iH (kb.trans ks (fun x hx => .inl hx)); have DJ := iH dj; have KB9 := iH kb
    clear hown hgrow o9 kb bx9 oth bs ks o10 oth10 dj
    refine hK.out _ _ KB9.out (fun hJ => ?_)
    clear hK K
    refine wpAnyH_take (i := 17) (oi := _) (v := .pointer (some ⟨s0 + 2, 5, none⟩)) rfl (by kernel_rfl) (by kernel_rfl) (by kernel_rfl) (fun _ _ _ h => h) (Or.inl ⟨by rfl, fun V hV => by go_simp⟩) hJ ?_
    refine wr1 18 rfl (fun K hK => ?_)
    go_simp
    refine hK.out _ _ KE.out (fun hJ => ?_)
    clear hK K
    refine wd ?_
    clear hJ d9 f9
    go_wp2
    go_roundw
    case rel => exact ⟨k + 1, u9, c9, by go_num, by omega, BS.out, O10.out, OT10.out, DJ.out, KE.out⟩
    case measure => simp [intOf]; omega
   obtain ⟨WB, hWB⟩ : ∃ WB, WB = wr.drew.alloc (.cells #[.int .i64 b0, .int .i64 b1, .int .i64 b2, .string b3, .int .i64 b4, .int .i64 b5, .int .u8 b6, .int .i64 b7, .string b8] 71) := ⟨_, rfl⟩
   have SRCF : RowKit.Hid (Src Try.prog 9 39 (.slice (some ⟨wr.heap.size, 0, none⟩) 1 1) 1 (encP.cs (⟨b0, ⟨b1, b2, b3, b4, b5, b6, b7, b8⟩⟩ : Px)).toList WB) := iH (by rw [hWB]; exact xqI (E := encP) wr.drew (⟨b0, ⟨b1, b2, b3, b4, b5, b6, b7, b8⟩⟩ : Px) Try.underlying39)
   have KB : RowKit.Hid (Kept wr WB []) := iH (by rw [hWB]; exact ((Kept.refl wr []).drew).alloc _)
   have KWB : RowKit.Hid (Kept W1 WB [s0 + 2]) := iH (KW.out.trans KB.out (by simp))
   refine xqo _ rfl 39 (.tmp 83) rfl 71 j0 _ 9 Try.underlying39 hj0 hy0 hy1 (by decide) (by decide) (encP.cs (⟨b0, ⟨b1, b2, b3, b4, b5, b6, b7, b8⟩⟩ : Px)).toList rfl rfl ?_
   refine hK.out _ _ (by rw [hWB] at KWB; exact KWB.out) (fun hJ => ?_)
   clear hK K
   change wpAnyH _ _ _ _ _ _ _ _ (wr.drew.alloc (.cells #[.int .i64 b0, .int .i64 b1, .int .i64 b2, .string b3, .int .i64 b4, .int .i64 b5, .int .u8 b6, .int .i64 b7, .string b8] 71))
   rw [<- hWB]
   clear hWB d0
   have d1 := cell_of_row WB (s0 + 2) 5 _ _ _ (KB.out.heap (by simp) BX.out)
   simp at d1
   refine wr1 1 rfl (fun K hK => ?_)
   go_simp
   refine hK.out _ _ KWB.out (fun hJ => ?_)
   clear hK K d1
   have OO := iH (OW.out.keep KB.out)
   have SR := iH SRCF.out
   refine wr1 16 rfl (fun K hK => ?_)
   refine xqn _ rfl (.tmp 70) (.tmp 84) 39 39 rfl (s0 + 3) 71 j0 _ 9 88 Try.underlying39 hj0 hy0 hy1 hy2 rfl (.slice ua k uc) (evs.take k).length (kcs encP (evs.take k)) rfl OO.out _ 1 _ rfl SR.out (by have := LT.out; unfold maxLen; omega) (by have := LT.out; omega) (by have := KB.out.size; have := SZ.out; omega) ?_
   intro v9 w9 hown _ hgrow _
   have o9 : OwnK encP w9 (s0 + 3) 71 v9 (evs.take (k + 1)) := by
    rw [List.take_add_one, HX.out]
    unfold OwnK
    rw [Option.toList_some, xqv, xqu, List.length_append]
    exact hown
   have kb : Kept W1 w9 [s0 + 2] := KWB.out.grown hgrow (fun b hb => .inr (by have := (OO.out.lt b hb).1; have := HZ1.out; omega))
   have bx9 : w9.heap[s0 + 2]? = some (.cells #[.int .u8 kd, .int .i64 tx, .int .i64 nx, .int .i64 id1, .slice oa1 ops.length oc1, .slice ua k uc, .int .i64 tn, .int .i64 tm, .slice ia op.length ic1, .int .i64 ta, .string nm, .int .i64 n, .int .i64 at1] 41 (0, 0)) := by
    have h1 := (KB.out.heap (by simp) BX.out)
    rw [hgrow.block _ (Array.getElem?_eq_some_iff.1 h1).1 (fun hm => by have := (OO.out.lt _ hm.symm).1; omega)]
    exact h1
   have d9 := cell_of_row w9 (s0 + 2) 5 _ _ _ bx9; have f9 := frozen_of_row w9 (s0 + 2) 5 _ _ bx9
   simp at d9
   have oth := ((OT.out.keep KB.out).kept ((Kept.refl _ (Value.slice ua k uc).ownBlock.toList).grown hgrow (fun b hb => .inl (by simp [hb]))) (fun b hb hm => DISJ.out b hb (by simpa using hm)))
   obtain ⟨u9, c9, e9⟩ := o9.shape
   have l9 : (evs.take (k + 1)).length = k + 1 := by rw [List.length_take]; have := HL.out; omega
   rw [l9] at e9
   subst e9
   clear l9
   have bs := xqa bx9 5 (.slice u9 (k + 1 : Nat) c9)
   simp only [List.setIfInBounds_toArray, List.set_cons_zero, List.set_cons_succ] at bs
   have ks : Kept w9 (w9.setCell ⟨s0 + 2, 5, none⟩ (.slice u9 (k + 1 : Nat) c9)) [s0 + 2] := (Kept.refl w9 _).setCell (.inl (by simp)) _
   have o10 := o9.kept ks (fun b hb => by have := (o9.lt b hb).1; simp; omega)
   have oth10 := oth.kept ks (fun b hb => by have := (oth.lt b hb).1; simp; omega)
   have dj : ∀ b, (Value.slice oa1 ops.length oc1).ownBlock = some b -> (Value.slice u9 (k + 1 : Nat) c9).ownBlock ≠ some b := fun b hb hb2 => by
    have h1 := (oth.tag hb); have h2 := (o9.tag hb2)
    obtain ⟨c1, h1⟩ := h1; obtain ⟨c2, h2⟩ := h2
    rw [h1] at h2; simp at h2
   have BS := iH bs; have O10 := iH o10; have OT10 := iH oth10; have KE := iH (kb.trans ks (fun x hx => .inl hx)); have DJ := iH dj; have KB9 := iH kb
   clear hown hgrow o9 kb bx9 oth bs ks o10 oth10 dj
   refine hK.out _ _ KB9.out (fun hJ => ?_)
   clear hK K
   refine wpAnyH_take (i := 17) (oi := _) (v := .pointer (some ⟨s0 + 2, 5, none⟩)) rfl (by kernel_rfl) (by kernel_rfl) (by kernel_rfl) (fun _ _ _ h => h) (Or.inl ⟨by rfl, fun V hV => by go_simp⟩) hJ ?_
   refine wr1 18 rfl (fun K hK => ?_)
   go_simp
   refine hK.out _ _ KE.out (fun hJ => ?_)
   clear hK K
   refine wd ?_
   clear hJ d9 f9
   go_wp2
   go_roundw
   case rel => exact ⟨k + 1, u9, c9, by go_num, by omega, BS.out, O10.out, OT10.out, DJ.out, KE.out⟩
   case measure => simp [intOf]; omega
  have hke : k = evs.length := by omega
  subst hke
  have OW1 : RowKit.Hid (OwnK encP wr (s0 + 3) 71 (.slice ua evs.length uc) evs) := iH (by have h2 := OW.out; rw [List.take_of_length_le (Nat.le_refl _)] at h2; exact h2)
  have x1 : ¬ ((evs.length : Int) < (evs.length : Int)) := by omega
  clear OW LT hk hlt
  have d0 := cell_of_row wr (s0 + 2) 0 _ _ _ BX.out
  have d1 := cell_of_row wr (s0 + 2) 1 _ _ _ BX.out
  have d2 := cell_of_row wr (s0 + 2) 2 _ _ _ BX.out
  have d3 := cell_of_row wr (s0 + 2) 3 _ _ _ BX.out
  have d4 := cell_of_row wr (s0 + 2) 4 _ _ _ BX.out
  have d5 := cell_of_row wr (s0 + 2) 5 _ _ _ BX.out
  have d6 := cell_of_row wr (s0 + 2) 6 _ _ _ BX.out
  have d7 := cell_of_row wr (s0 + 2) 7 _ _ _ BX.out
  have d8 := cell_of_row wr (s0 + 2) 8 _ _ _ BX.out
  have d9 := cell_of_row wr (s0 + 2) 9 _ _ _ BX.out
  have d10 := cell_of_row wr (s0 + 2) 10 _ _ _ BX.out
  have d11 := cell_of_row wr (s0 + 2) 11 _ _ _ BX.out
  have d12 := cell_of_row wr (s0 + 2) 12 _ _ _ BX.out
  simp only [List.getElem?_toArray, List.getElem?_cons_zero, List.getElem?_cons_succ] at d0 d1 d2 d3 d4 d5 d6 d7 d8 d9 d10 d11 d12
  have BZ := KW.out.heap (by simp) B1.out
  have e0 := cell_of_row wr (s0 + 1) 0 _ _ _ BZ
  have e1 := cell_of_row wr (s0 + 1) 1 _ _ _ BZ
  have e2 := cell_of_row wr (s0 + 1) 2 _ _ _ BZ
  have e3 := cell_of_row wr (s0 + 1) 3 _ _ _ BZ
  have e4 := cell_of_row wr (s0 + 1) 4 _ _ _ BZ
  have e5 := cell_of_row wr (s0 + 1) 5 _ _ _ BZ
  have e6 := cell_of_row wr (s0 + 1) 6 _ _ _ BZ
  have e7 := cell_of_row wr (s0 + 1) 7 _ _ _ BZ
  have e8 := cell_of_row wr (s0 + 1) 8 _ _ _ BZ
  have e9 := cell_of_row wr (s0 + 1) 9 _ _ _ BZ
  have e10 := cell_of_row wr (s0 + 1) 10 _ _ _ BZ
  have e11 := cell_of_row wr (s0 + 1) 11 _ _ _ BZ
  have e12 := cell_of_row wr (s0 + 1) 12 _ _ _ BZ
  simp only [List.getElem?_toArray, List.getElem?_cons_zero, List.getElem?_cons_succ] at e0 e1 e2 e3 e4 e5 e6 e7 e8 e9 e10 e11 e12
  have f0 := frozen_of_row wr (s0 + 1) 0 _ _ BZ
  have f1 := frozen_of_row wr (s0 + 1) 1 _ _ BZ
  have f2 := frozen_of_row wr (s0 + 1) 2 _ _ BZ
  have f3 := frozen_of_row wr (s0 + 1) 3 _ _ BZ
  have f4 := frozen_of_row wr (s0 + 1) 4 _ _ BZ
  have f5 := frozen_of_row wr (s0 + 1) 5 _ _ BZ
  have f6 := frozen_of_row wr (s0 + 1) 6 _ _ BZ
  have f7 := frozen_of_row wr (s0 + 1) 7 _ _ BZ
  have f8 := frozen_of_row wr (s0 + 1) 8 _ _ BZ
  have f9 := frozen_of_row wr (s0 + 1) 9 _ _ BZ
  have f10 := frozen_of_row wr (s0 + 1) 10 _ _ BZ
  have f11 := frozen_of_row wr (s0 + 1) 11 _ _ BZ
  have f12 := frozen_of_row wr (s0 + 1) 12 _ _ BZ
  have BZ := iH BZ
  go_wp2
  have g0 := xqa BZ.out 0 (.int .u8 kd)
  have g1 := xqa g0 1 (.int .i64 tx)
  have g2 := xqa g1 2 (.int .i64 nx)
  have g3 := xqa g2 3 (.int .i64 id1)
  have g4 := xqa g3 4 (.slice oa1 ops.length oc1)
  have g5 := xqa g4 5 (.slice ua evs.length uc)
  have g6 := xqa g5 6 (.int .i64 tn)
  have g7 := xqa g6 7 (.int .i64 tm)
  have g8 := xqa g7 8 (.slice ia op.length ic1)
  have g9 := xqa g8 9 (.int .i64 ta)
  have g10 := xqa g9 10 (.string nm)
  have g11 := xqa g10 11 (.int .i64 n)
  have g12 := xqa g11 12 (.int .i64 at1)
  simp only [List.setIfInBounds_toArray, List.set_cons_zero, List.set_cons_succ] at g12
  have y0 := cell_of_row _ _ 0 _ _ _ g12
  have y1 := cell_of_row _ _ 1 _ _ _ g12
  have y2 := cell_of_row _ _ 2 _ _ _ g12
  have y3 := cell_of_row _ _ 3 _ _ _ g12
  have y4 := cell_of_row _ _ 4 _ _ _ g12
  have y5 := cell_of_row _ _ 5 _ _ _ g12
  have y6 := cell_of_row _ _ 6 _ _ _ g12
  have y7 := cell_of_row _ _ 7 _ _ _ g12
  have y8 := cell_of_row _ _ 8 _ _ _ g12
  have y9 := cell_of_row _ _ 9 _ _ _ g12
  have y10 := cell_of_row _ _ 10 _ _ _ g12
  have y11 := cell_of_row _ _ 11 _ _ _ g12
  have y12 := cell_of_row _ _ 12 _ _ _ g12
  simp only [List.getElem?_toArray, List.getElem?_cons_zero, List.getElem?_cons_succ] at y0 y1 y2 y3 y4 y5 y6 y7 y8 y9 y10 y11 y12
  have kF : Kept wr (((((((((((((wr.setCell ⟨s0 + 1, 0, none⟩ (.int .u8 kd)).setCell ⟨s0 + 1, 1, none⟩ (.int .i64 tx)).setCell ⟨s0 + 1, 2, none⟩ (.int .i64 nx)).setCell ⟨s0 + 1, 3, none⟩ (.int .i64 id1)).setCell ⟨s0 + 1, 4, none⟩ (.slice oa1 ops.length oc1)).setCell ⟨s0 + 1, 5, none⟩ (.slice ua evs.length uc)).setCell ⟨s0 + 1, 6, none⟩ (.int .i64 tn)).setCell ⟨s0 + 1, 7, none⟩ (.int .i64 tm)).setCell ⟨s0 + 1, 8, none⟩ (.slice ia op.length ic1)).setCell ⟨s0 + 1, 9, none⟩ (.int .i64 ta)).setCell ⟨s0 + 1, 10, none⟩ (.string nm)).setCell ⟨s0 + 1, 11, none⟩ (.int .i64 n)).setCell ⟨s0 + 1, 12, none⟩ (.int .i64 at1)) [s0 + 1] := ((((((((((((((Kept.refl wr [s0 + 1]).setCell (.inl (by simp)) _).setCell (.inl (by simp)) _).setCell (.inl (by simp)) _).setCell (.inl (by simp)) _).setCell (.inl (by simp)) _).setCell (.inl (by simp)) _).setCell (.inl (by simp)) _).setCell (.inl (by simp)) _).setCell (.inl (by simp)) _).setCell (.inl (by simp)) _).setCell (.inl (by simp)) _).setCell (.inl (by simp)) _).setCell (.inl (by simp)) _)
  refine bodyPost_ret (v := .agg #[.int .u8 kd, .int .i64 tx, .int .i64 nx, .int .i64 id1, .slice oa1 ops.length oc1, .slice ua evs.length uc, .int .i64 tn, .int .i64 tm, .slice ia op.length ic1, .int .i64 ta, .string nm, .int .i64 n, .int .i64 at1]) (by simp [results, Try.results13, go_sem, y0, y1, y2, y3, y4, y5, y6, y7, y8, y9, y10, y11, y12]) rfl ?_
  have hs := HS0.out
  refine ⟨_, _, rfl, ?_, ?_, ?_⟩
  ·exact (OT.out.kept kF (fun b hb => by have := (OT.out.lt b hb).1; simp; omega)).mono (by omega)
  ·exact (OW1.out.kept kF (fun b hb => by have := (OW1.out.lt b hb).1; simp; omega)).mono (by omega)
  exact (K1.out.trans KW.out (by intro x hx; simp at hx; exact .inr (by omega))).trans kF (by intro x hx; simp at hx; exact .inr (by omega))
theorem EqP.ye {P : Prop} {w : World} {f : Nat} {args : Array Value} {V : World} (h : Calls Try.prog f args V fun e w' => EqP P V e w') (hp : P) : Calls Try.prog f args V fun e w' => e = .returned (.bool true) /\ Kept V w' [] :=
 h.mono (by rintro e w' ⟨r, rfl, hr, k⟩; rw [hr.2 hp]; exact ⟨rfl, k⟩)
theorem EqP.na {P : Prop} {w : World} {f : Nat} {args : Array Value} {V : World} (h : Calls Try.prog f args V fun e w' => EqP P V e w') (hp : ¬ P) : Calls Try.prog f args V fun e w' => e = .returned (.bool false) /\ Kept V w' [] :=
 h.mono (by
  rintro e w' ⟨r, rfl, hr, k⟩
  cases r with
  | false => exact ⟨rfl, k⟩
  | true => exact absurd (hr.1 rfl) hp)
theorem xqB (x0 x1 x3 y0 y1 y3 : Int) (xa ya : Option Addr) (xn xc yn yc : Nat) (l m : List Int) (w : World) (rx : RdI w (.slice xa xn xc) l) (ry : RdI w (.slice ya yn yc) m) :
  Calls Try.prog 47 #[.agg #[.int .i64 x0, .int .i64 x1, .slice xa xn xc, .int .i64 x3], .agg #[.int .i64 y0, .int .i64 y1, .slice ya yn yc, .int .i64 y3]] w fun e w' => EqP (x0 = y0 /\ x3 = y3 /\ x1 = y1 /\ l = m) w e w' := by
 obtain ⟨W1, hW1⟩ : ∃ W1, W1 = (w.alloc (.cells #[.int .i64 x0, .int .i64 x1, .slice xa xn xc, .int .i64 x3] 33)).alloc (.cells #[.int .i64 y0, .int .i64 y1, .slice ya yn yc, .int .i64 y3] 33) := ⟨_, rfl⟩
 have k1 : Kept w W1 [] := by rw [hW1]; exact ((Kept.refl w []).alloc _).alloc _
 have IN : RowKit.Hid (Calls Try.prog 70 #[.slice xa xn xc, .slice ya yn yc] W1 fun e w' => e = .returned (.bool (l == m)) /\ Kept W1 w' []) := iH (ints_any _ _ l m W1 (rx.keep k1) (ry.keep k1))
 obtain ⟨r, hr⟩ : ∃ r, r = (l == m) := ⟨_, rfl⟩
 rw [<- hr] at IN
 obtain ⟨P, hP⟩ : ∃ P : Prop, P ↔ (x0 = y0 /\ x3 = y3 /\ x1 = y1 /\ l = m) := ⟨_, Iff.rfl⟩
 have HFIN : RowKit.Hid (∀ (e : Ending) (w' : World), EqP P w e w' -> EqP (x0 = y0 /\ x3 = y3 /\ x1 = y1 /\ l = m) w e w') := iH (fun e w' h => by obtain ⟨r, h1, h2, h3⟩ := h; exact ⟨r, h1, h2.trans hP, h3⟩)
 have HPP := iH hP
 clear hP
 refine Calls.mono ?_ HFIN.out
 have K1 := iH k1; have HR : RowKit.Hid (r = true ↔ l = m) := iH (by rw [hr]; simp)
 clear rx ry k1 HFIN hr
 by_cases h0 : x0 = y0
 rotate_left
 ·have HN : RowKit.Hid (¬ P) := iH (fun h => h0 (HPP.out.1 h).1)
  have e0 : (x0 == y0) = false := beq_eq_false_iff_ne.2 h0
  go_enter Try.func47, Try.ntmps47
  go_wp2
  go_ret
  exact ⟨false, rfl, ⟨fun h => absurd h (by decide), fun h => absurd h HN.out⟩, by rw [<- hW1]; exact K1.out⟩
 subst h0
 by_cases h3 : x3 = y3
 rotate_left
 ·have HN : RowKit.Hid (¬ P) := iH (fun h => h3 (HPP.out.1 h).2.1)
  have e0 : (x3 == y3) = false := beq_eq_false_iff_ne.2 h3
  go_enter Try.func47, Try.ntmps47
  go_wp2
  go_ret
  exact ⟨false, rfl, ⟨fun h => absurd h (by decide), fun h => absurd h HN.out⟩, by rw [<- hW1]; exact K1.out⟩
 subst h3
 by_cases h1 : x1 = y1
 rotate_left
 ·have HN : RowKit.Hid (¬ P) := iH (fun h => h1 (HPP.out.1 h).2.2.1)
  have e0 : (x1 == y1) = false := beq_eq_false_iff_ne.2 h1
  go_enter Try.func47, Try.ntmps47
  go_wp2
  go_ret
  exact ⟨false, rfl, ⟨fun h => absurd h (by decide), fun h => absurd h HN.out⟩, by rw [<- hW1]; exact K1.out⟩
 subst h1
 have HY : RowKit.Hid (r = true ↔ P) := iH (HR.out.trans ⟨fun h => HPP.out.2 ⟨rfl, rfl, rfl, h⟩, fun h => (HPP.out.1 h).2.2.2⟩)
 go_enter Try.func47, Try.ntmps47
 go_wp2_with fail
 rw [<- hW1]
 clear hW1
 refine IN.out.mono ?_
 rintro e w2 ⟨rfl, k2⟩
 have K2 := iH (K1.out.trans k2 (by simp))
 clear k2
 go_wp2
 go_ret
 exact ⟨r, rfl, HY.out, K2.out⟩
end Go.Proofs.Ytjdbmlifekghfaa
