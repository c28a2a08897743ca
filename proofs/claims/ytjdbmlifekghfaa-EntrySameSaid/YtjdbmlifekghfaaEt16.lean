/-
  Era in one text.
-/
import Derived.Test.YtjdbmlifekghfaaEt0
import Derived.Test.YtjdbmlifekghfaaEt10
import Derived.Test.YtjdbmlifekghfaaEt15
set_option linter.unusedVariables false
set_option maxHeartbeats 16000000
set_option maxRecDepth 100000
namespace Go.Proofs.Ytjdbmlifekghfaa
open Go.RowKit
theorem RdK.kept2b {α : Type} {E : Enc α} {w w' : World} {v : Value} {l : List α} {bs : List Nat} (h : RdK E w v l) (hk : Kept w w' bs) (hb : l ≠ [] -> ∀ b, v.ownBlock = some b -> b ∉ bs) : RdK E w' v l := by
 by_cases hne : l = []
 ·subst hne
  obtain ⟨a, c, rfl, hc, ha, hl⟩ := h
  exact ⟨a, c, rfl, hc, ha, fun h => absurd rfl h⟩
 exact h.kept hk (hb hne)
theorem back_ops (kd tx nx id1 : Int) (ops : List Ox) (evs : List Px) (tn tm : Int) (op : List Int) (ta : Int) (nm : ByteArray) (n at1 : Int) (oa : Option Addr) (oc : Nat) (ea : Option Addr) (ec : Nat) (ia : Option Addr) (ic1 : Nat) (w : World) (rd : RdN w (⟨kd, tx, nx, id1, ops, evs, tn, tm, op, ta, nm, n, at1⟩ : En) (.slice oa ops.length oc) (.slice ea evs.length ec) (.slice ia op.length ic1)) (hl : ops.length <= 100000) (hle : evs.length <= 100000) :
  Calls Try.prog 20 #[.agg #[.int .u8 kd, .int .i64 tx, .int .i64 nx, .int .i64 id1, .slice oa ops.length oc, .slice ea evs.length ec, .int .i64 tn, .int .i64 tm, .slice ia op.length ic1, .int .i64 ta, .string nm, .int .i64 n, .int .i64 at1]] w fun en w' => ∃ vo ve, en = .returned (.agg (#[.int .u8 kd, .int .i64 tx, .int .i64 nx, .int .i64 id1, vo, ve, .int .i64 tn, .int .i64 tm, .slice ia op.length ic1, .int .i64 ta, .string nm, .int .i64 n, .int .i64 at1])) /\ OwnK encO w' w.heap.size 63 vo ops /\ OwnK encP w' w.heap.size 76 ve evs /\ Kept w w' [] := by
 obtain ⟨i0, hi0, hz0, hz1, hz2⟩ := info_parts Try.infoRo
 obtain ⟨j0, hj0, hy0, hy1, hy2⟩ := info_parts Try.infoRp
 obtain ⟨s0, hs0⟩ : ∃ s0, s0 = w.heap.size := ⟨_, rfl⟩
 obtain ⟨W0, hW0⟩ : ∃ W0, W0 = w.alloc (.cells #[.int .u8 kd, .int .i64 tx, .int .i64 nx, .int .i64 id1, .slice oa ops.length oc, .slice ea evs.length ec, .int .i64 tn, .int .i64 tm, .slice ia op.length ic1, .int .i64 ta, .string nm, .int .i64 n, .int .i64 at1] 41) := ⟨_, rfl⟩
 obtain ⟨V0, hV0⟩ : ∃ V0, V0 = W0.alloc (.cells #[.int .u8 0, .int .i64 0, .int .i64 0, .int .i64 0, .slice none 0 0, .slice none 0 0, .int .i64 0, .int .i64 0, .slice none 0 0, .int .i64 0, .string ⟨#[]⟩, .int .i64 0, .int .i64 0] 35) := ⟨_, rfl⟩
 obtain ⟨W1, hW1⟩ : ∃ W1, W1 = V0.alloc (.cells #[.int .u8 kd, .int .i64 tx, .int .i64 nx, .int .i64 id1, .slice none 0 0, .slice none 0 0, .int .i64 tn, .int .i64 tm, .slice ia op.length ic1, .int .i64 ta, .string nm, .int .i64 n, .int .i64 at1] 35) := ⟨_, rfl⟩
 have z0 : W0.heap.size = s0 + 1 := by rw [hW0, hs0]; simp
 have z1 : V0.heap.size = s0 + 2 := by rw [hV0]; simp [z0]
 have z2 : W1.heap.size = s0 + 3 := by rw [hW1]; simp [z1]
 have kA : Kept w W0 [] := by rw [hW0]; exact (Kept.refl w []).alloc _
 have kB : Kept W0 V0 [] := by rw [hV0]; exact (Kept.refl W0 []).alloc _
 have kC : Kept V0 W1 [] := by rw [hW1]; exact (Kept.refl V0 []).alloc _
 have k1 : Kept w W1 [] := (kA.trans kB (by simp)).trans kC (by simp)
 have b0 : W1.heap[s0]? = some (.cells #[.int .u8 kd, .int .i64 tx, .int .i64 nx, .int .i64 id1, .slice oa ops.length oc, .slice ea evs.length ec, .int .i64 tn, .int .i64 tm, .slice ia op.length ic1, .int .i64 ta, .string nm, .int .i64 n, .int .i64 at1] 41 (0, 0)) := (kB.trans kC (by simp)).heap (by simp) (by rw [hW0, hs0]; exact heap_alloc_new w _)
 have b1 : W1.heap[s0 + 1]? = some (.cells #[.int .u8 0, .int .i64 0, .int .i64 0, .int .i64 0, .slice none 0 0, .slice none 0 0, .int .i64 0, .int .i64 0, .slice none 0 0, .int .i64 0, .string ⟨#[]⟩, .int .i64 0, .int .i64 0] 35 (0, 0)) := kC.heap (by simp) (by rw [hV0, <- z0]; exact heap_alloc_new W0 _)
 have b2 : W1.heap[s0 + 2]? = some (.cells #[.int .u8 kd, .int .i64 tx, .int .i64 nx, .int .i64 id1, .slice none 0 0, .slice none 0 0, .int .i64 tn, .int .i64 tm, .slice ia op.length ic1, .int .i64 ta, .string nm, .int .i64 n, .int .i64 at1] 35 (0, 0)) := by rw [hW1, <- z1]; exact heap_alloc_new V0 _
 have RO := iH (fun V (hV : Kept W1 V [s0 + 2]) => (rd.ro.keep k1).kept2b hV (fun hne b hb => by have := rd.ro.keep k1; have := RdK.blk_lt rd.ro (List.length_pos_iff.2 hne) b hb; simp; omega))
 have RE := iH (fun V (hV : Kept W1 V [s0 + 2]) => (rd.re.keep k1).kept2b hV (fun hne b hb => by have := RdK.blk_lt rd.re (List.length_pos_iff.2 hne) b hb; simp; omega))
 have SC : RowKit.Hid (∀ V, Kept W1 V [s0 + 2] -> ∀ j, V.cell? ⟨s0, j, none⟩ = (#[.int .u8 kd, .int .i64 tx, .int .i64 nx, .int .i64 id1, .slice oa ops.length oc, .slice ea evs.length ec, .int .i64 tn, .int .i64 tm, .slice ia op.length ic1, .int .i64 ta, .string nm, .int .i64 n, .int .i64 at1] : Array Value)[j]?) := iH (fun V hV j => cell_of_row V s0 j _ _ _ (hV.heap (by simp) b0))
 have HZ1 := iH z2; have B1 := iH b1; have B2 := iH b2; have K1 := iH k1
 have HS0 := iH hs0
 subst hV0 hW0
 clear z0 z1 z2 kA kB kC k1 b0 b1 b2 rd hs0
 go_enter Try.func20, Try.ntmps20
 go_upto_region 2 with fail
 rw [<- hW1, <- HS0.out]
 clear hW1
 go_wp2
 go_loopw [4] (fun t wr => ∃ (k : Nat) (ua : Option Addr) (uc : Nat), t = .int .i64 k /\ k <= ops.length /\ wr.heap[s0 + 2]? = some (.cells #[.int .u8 kd, .int .i64 tx, .int .i64 nx, .int .i64 id1, .slice ua k uc, .slice none 0 0, .int .i64 tn, .int .i64 tm, .slice ia op.length ic1, .int .i64 ta, .string nm, .int .i64 n, .int .i64 at1] 35 (0, 0)) /\ OwnK encO wr (s0 + 3) 63 (.slice ua k uc) (ops.take k) /\ Kept W1 wr [s0 + 2]) (fun t _ => ops.length - (intOf t).toNat)
 case atStart => exact ⟨0, none, 0, rfl, Nat.zero_le _, B2.out, OwnK.nil _ _ _, Kept.refl _ _⟩
 case round =>
  obtain ⟨k, ua, uc, rfl, hk, hbx, how, hkw⟩ := hrel
  have BX := iH hbx; have OW := iH how; have KW := iH hkw
  have SZ : RowKit.Hid (s0 + 3 <= wr.heap.size) := iH (by have := HZ1.out; have := hkw.size; omega)
  have LT : RowKit.Hid ((ops.take k).length <= 100000) := iH (by rw [List.length_take]; omega)
  have pe : wr.cell? ⟨s0, 4, none⟩ = some (.slice oa ops.length oc) := SC.out wr hkw 4
  clear hbx how hkw
  by_cases hlt : k < ops.length
  ·obtain ⟨x, hx⟩ : ∃ x, ops[k]? = some x := ⟨_, List.getElem?_eq_getElem hlt⟩
   obtain ⟨ob, oo, rfl, _⟩ := (RO.out wr KW.out).at hx
   have CE : RowKit.Hid (∀ V, Kept W1 V [s0 + 2] -> V.cell? ⟨s0, 4, none⟩ = some (.slice (some ⟨ob, oo, none⟩) ops.length oc) /\ ∀ j, j < 4 -> V.cell? ⟨ob, oo + k * 4 + j, none⟩ = (x.cs)[j]?) := iH (fun V hV => ⟨SC.out V hV 4, fun j hj => (RO.out V hV).here hx j hj⟩)
   have HX := iH hx
   have HL := iH hlt
   obtain ⟨b0, b1, b2, b3⟩ := x
   simp only [Ox.cs] at CE
   have x1 : (k : Int) < (ops.length : Int) := by omega
   have d0 := cell_of_row wr.drew (s0 + 2) 4 _ _ _ BX.out
   simp at d0
   clear hx
   go_upto_region 5 with fail
   clear pe
   refine wp_region_held_drew (S := fun Z => Kept W1 Z [s0 + 2]) (by kernel_rfl) KW.out.drew (fun hJ => ?_)
   refine wx 0 30 (.pointer (some ⟨s0 + 2, 4, none⟩)) rfl hJ ?_
   refine wx 2 32 (.pointer (some ⟨s0, 4, none⟩)) rfl hJ ?_
   refine wx 3 33 (.slice (some ⟨ob, oo, none⟩) ops.length oc) rfl hJ ?_ (hy := fun V hV => by (obtain ⟨pe, qq⟩ := CE.out V hV; have q0 := qq 0 (by decide); have q1 := qq 1 (by decide); have q2 := qq 2 (by decide); have q3 := qq 3 (by decide); clear hV qq; simp only [List.getElem?_toArray, List.getElem?_cons_zero, List.getElem?_cons_succ, Nat.add_zero] at q0 q1 q2 q3; go_simp))
   refine wx 4 34 (.int .i64 k) rfl hJ ?_
   refine wx 5 35 (.pointer (some ⟨ob, oo + k * 4, none⟩)) rfl hJ ?_
   refine wx 6 36 (.pointer (some ⟨ob, oo + k * 4, none⟩)) rfl hJ ?_
   refine wx 7 37 (.int .i64 b0) rfl hJ ?_ (hy := fun V hV => by (obtain ⟨pe, qq⟩ := CE.out V hV; have q0 := qq 0 (by decide); have q1 := qq 1 (by decide); have q2 := qq 2 (by decide); have q3 := qq 3 (by decide); clear hV qq; simp only [List.getElem?_toArray, List.getElem?_cons_zero, List.getElem?_cons_succ, Nat.add_zero] at q0 q1 q2 q3; go_simp))
   refine wx 8 38 (.pointer (some ⟨s0, 4, none⟩)) rfl hJ ?_
   refine wx 9 39 (.slice (some ⟨ob, oo, none⟩) ops.length oc) rfl hJ ?_ (hy := fun V hV => by (obtain ⟨pe, qq⟩ := CE.out V hV; have q0 := qq 0 (by decide); have q1 := qq 1 (by decide); have q2 := qq 2 (by decide); have q3 := qq 3 (by decide); clear hV qq; simp only [List.getElem?_toArray, List.getElem?_cons_zero, List.getElem?_cons_succ, Nat.add_zero] at q0 q1 q2 q3; go_simp))
   refine wx 10 40 (.int .i64 k) rfl hJ ?_
   refine wx 11 41 (.pointer (some ⟨ob, oo + k * 4, none⟩)) rfl hJ ?_
   refine wx 12 42 (.pointer (some ⟨ob, oo + k * 4 + 1, none⟩)) rfl hJ ?_
   refine wx 13 43 (.pointer (some ⟨ob, oo + k * 4 + 1, none⟩)) rfl hJ ?_
   refine wx 14 44 (.bool b1) rfl hJ ?_ (hy := fun V hV => by (obtain ⟨pe, qq⟩ := CE.out V hV; have q0 := qq 0 (by decide); have q1 := qq 1 (by decide); have q2 := qq 2 (by decide); have q3 := qq 3 (by decide); clear hV qq; simp only [List.getElem?_toArray, List.getElem?_cons_zero, List.getElem?_cons_succ, Nat.add_zero] at q0 q1 q2 q3; go_simp))
   refine wx 15 45 (.pointer (some ⟨s0, 4, none⟩)) rfl hJ ?_
   refine wx 16 46 (.slice (some ⟨ob, oo, none⟩) ops.length oc) rfl hJ ?_ (hy := fun V hV => by (obtain ⟨pe, qq⟩ := CE.out V hV; have q0 := qq 0 (by decide); have q1 := qq 1 (by decide); have q2 := qq 2 (by decide); have q3 := qq 3 (by decide); clear hV qq; simp only [List.getElem?_toArray, List.getElem?_cons_zero, List.getElem?_cons_succ, Nat.add_zero] at q0 q1 q2 q3; go_simp))
   refine wx 17 47 (.int .i64 k) rfl hJ ?_
   refine wx 18 48 (.pointer (some ⟨ob, oo + k * 4, none⟩)) rfl hJ ?_
   refine wx 19 49 (.pointer (some ⟨ob, oo + k * 4 + 1, none⟩)) rfl hJ ?_
   refine wx 20 50 (.pointer (some ⟨ob, oo + k * 4 + 2, none⟩)) rfl hJ ?_
   refine wx 21 51 (.agg #[.int .i64 b2, .string b3]) rfl hJ ?_ (hy := fun V hV => by (obtain ⟨pe, qq⟩ := CE.out V hV; have q0 := qq 0 (by decide); have q1 := qq 1 (by decide); have q2 := qq 2 (by decide); have q3 := qq 3 (by decide); clear hV qq; simp only [List.getElem?_toArray, List.getElem?_cons_zero, List.getElem?_cons_succ, Nat.add_zero] at q0 q1 q2 q3; go_simp))
   refine wx 22 52 (.agg #[.bool b1, .int .i64 b2, .string b3]) rfl hJ ?_
   refine wx 23 53 (.agg #[.int .i64 b0, .bool b1, .int .i64 b2, .string b3]) rfl hJ ?_
   refine wpAnyH_ready (rs := [1, 24]) (by kernel_rfl) (by simp) ?_
   refine AllReadyH.cons (o := _) rfl (fun K hK => ?_) (AllReadyH.cons (o := _) rfl (fun K hK => ?_) AllReadyH.nil)
   ·go_simp
    refine hK.out _ _ KW.out.drew (fun hJ => ?_)
    clear hK K
    refine wr1 24 rfl (fun K hK => ?_)
    obtain ⟨WB, hWB⟩ : ∃ WB, WB = wr.drew.alloc (.cells #[.int .i64 b0, .bool b1, .int .i64 b2, .string b3] 63) := ⟨_, rfl⟩
    have SRCF : RowKit.Hid (Src Try.prog 4 28 (.slice (some ⟨wr.heap.size, 0, none⟩) 1 1) 1 (encO.cs (⟨b0, b1, b2, b3⟩ : Ox)).toList WB) := iH (by rw [hWB]; exact xqI (E := encO) wr.drew (⟨b0, b1, b2, b3⟩ : Ox) Try.underlying28)
    have KB : RowKit.Hid (Kept wr WB []) := iH (by rw [hWB]; exact ((Kept.refl wr []).drew).alloc _)
    have KWB : RowKit.Hid (Kept W1 WB [s0 + 2]) := iH (KW.out.trans KB.out (by simp))
    refine xqo _ rfl 28 (.tmp 53) rfl 63 i0 _ 4 Try.underlying28 hi0 hz0 hz1 (by decide) (by decide) (encO.cs (⟨b0, b1, b2, b3⟩ : Ox)).toList rfl rfl ?_
    refine hK.out _ _ (by rw [hWB] at KWB; exact KWB.out) (fun hJ => ?_)
    clear hK K
    change wpAnyH _ _ _ _ _ _ _ _ (wr.drew.alloc (.cells #[.int .i64 b0, .bool b1, .int .i64 b2, .string b3] 63))
    rw [<- hWB]
    clear hWB d0
    have OO := iH (OW.out.keep KB.out)
    have SR := iH SRCF.out
    refine wr1 25 rfl (fun K hK => ?_)
    refine xqn _ rfl (.tmp 31) (.tmp 54) 28 28 rfl (s0 + 3) 63 i0 _ 4 40 Try.underlying28 hi0 hz0 hz1 hz2 rfl (.slice ua k uc) (ops.take k).length (kcs encO (ops.take k)) rfl OO.out _ 1 _ rfl SR.out (by have := LT.out; unfold maxLen; omega) (by have := LT.out; omega) (by have := KB.out.size; have := SZ.out; omega) ?_
    intro v9 w9 hown _ hgrow _
    have o9 : OwnK encO w9 (s0 + 3) 63 v9 (ops.take (k + 1)) := by
     rw [List.take_add_one, HX.out]
     unfold OwnK
     rw [Option.toList_some, xqv, xqu, List.length_append]
     exact hown
    have kb : Kept W1 w9 [s0 + 2] := KWB.out.grown hgrow (fun b hb => .inr (by have := (OO.out.lt b hb).1; have := HZ1.out; omega))
    have bx9 : w9.heap[s0 + 2]? = some (.cells #[.int .u8 kd, .int .i64 tx, .int .i64 nx, .int .i64 id1, .slice ua k uc, .slice none 0 0, .int .i64 tn, .int .i64 tm, .slice ia op.length ic1, .int .i64 ta, .string nm, .int .i64 n, .int .i64 at1] 35 (0, 0)) := by
     have h1 := (KB.out.heap (by simp) BX.out)
     rw [hgrow.block _ (Array.getElem?_eq_some_iff.1 h1).1 (fun hm => by have := (OO.out.lt _ hm.symm).1; omega)]
     exact h1
    have d9 := cell_of_row w9 (s0 + 2) 4 _ _ _ bx9; have f9 := frozen_of_row w9 (s0 + 2) 4 _ _ bx9
    simp at d9
    obtain ⟨u9, c9, e9⟩ := o9.shape
    have l9 : (ops.take (k + 1)).length = k + 1 := by rw [List.length_take]; have := HL.out; omega
    rw [l9] at e9
    subst e9
    clear l9
    have bs := xqa bx9 4 (.slice u9 (k + 1 : Nat) c9)
    simp only [List.setIfInBounds_toArray, List.set_cons_zero, List.set_cons_succ] at bs
    have ks : Kept w9 (w9.setCell ⟨s0 + 2, 4, none⟩ (.slice u9 (k + 1 : Nat) c9)) [s0 + 2] := (Kept.refl w9 _).setCell (.inl (by simp)) _
    have o10 := o9.kept ks (fun b hb => by have := (o9.lt b hb).1; simp; omega)
    have BS := iH bs; have O10 := iH o10; have KE := iH (kb.trans ks (fun x hx => .inl hx)); have KB9 := iH kb
    clear hown hgrow o9 kb bx9 bs ks o10
    refine hK.out _ _ KB9.out (fun hJ => ?_)
    clear hK K
    refine wpAnyH_take (i := 26) (oi := _) (v := .pointer (some ⟨s0 + 2, 4, none⟩)) rfl (by kernel_rfl) (by kernel_rfl) (by kernel_rfl) (fun _ _ _ h => h) (Or.inl ⟨by rfl, fun V hV => by go_simp⟩) hJ ?_
    refine wr1 27 rfl (fun K hK => ?_)
    go_simp
    refine hK.out _ _ KE.out (fun hJ => ?_)
    clear hK K
    refine wd ?_
    clear hJ d9 f9
    go_wp2
    go_roundw
    case rel => exact ⟨k + 1, u9, c9, by go_num, by omega, BS.out, O10.out, KE.out⟩
    case measure => simp [intOf]; omega
   obtain ⟨WB, hWB⟩ : ∃ WB, WB = wr.drew.alloc (.cells #[.int .i64 b0, .bool b1, .int .i64 b2, .string b3] 63) := ⟨_, rfl⟩
   have SRCF : RowKit.Hid (Src Try.prog 4 28 (.slice (some ⟨wr.heap.size, 0, none⟩) 1 1) 1 (encO.cs (⟨b0, b1, b2, b3⟩ : Ox)).toList WB) := iH (by rw [hWB]; exact xqI (E := encO) wr.drew (⟨b0, b1, b2, b3⟩ : Ox) Try.underlying28)
   have KB : RowKit.Hid (Kept wr WB []) := iH (by rw [hWB]; exact ((Kept.refl wr []).drew).alloc _)
   have KWB : RowKit.Hid (Kept W1 WB [s0 + 2]) := iH (KW.out.trans KB.out (by simp))
   refine xqo _ rfl 28 (.tmp 53) rfl 63 i0 _ 4 Try.underlying28 hi0 hz0 hz1 (by decide) (by decide) (encO.cs (⟨b0, b1, b2, b3⟩ : Ox)).toList rfl rfl ?_
   refine hK.out _ _ (by rw [hWB] at KWB; exact KWB.out) (fun hJ => ?_)
   clear hK K
   change wpAnyH _ _ _ _ _ _ _ _ (wr.drew.alloc (.cells #[.int .i64 b0, .bool b1, .int .i64 b2, .string b3] 63))
   rw [<- hWB]
   clear hWB d0
   have d1 := cell_of_row WB (s0 + 2) 4 _ _ _ (KB.out.heap (by simp) BX.out)
   simp at d1
   refine wr1 1 rfl (fun K hK => ?_)
   go_simp
   refine hK.out _ _ KWB.out (fun hJ => ?_)
   clear hK K d1
   have OO := iH (OW.out.keep KB.out)
   have SR := iH SRCF.out
   refine wr1 25 rfl (fun K hK => ?_)
   refine xqn _ rfl (.tmp 31) (.tmp 54) 28 28 rfl (s0 + 3) 63 i0 _ 4 40 Try.underlying28 hi0 hz0 hz1 hz2 rfl (.slice ua k uc) (ops.take k).length (kcs encO (ops.take k)) rfl OO.out _ 1 _ rfl SR.out (by have := LT.out; unfold maxLen; omega) (by have := LT.out; omega) (by have := KB.out.size; have := SZ.out; omega) ?_
   intro v9 w9 hown _ hgrow _
   have o9 : OwnK encO w9 (s0 + 3) 63 v9 (ops.take (k + 1)) := by
    rw [List.take_add_one, HX.out]
    unfold OwnK
    rw [Option.toList_some, xqv, xqu, List.length_append]
    exact hown
   have kb : Kept W1 w9 [s0 + 2] := KWB.out.grown hgrow (fun b hb => .inr (by have := (OO.out.lt b hb).1; have := HZ1.out; omega))
   have bx9 : w9.heap[s0 + 2]? = some (.cells #[.int .u8 kd, .int .i64 tx, .int .i64 nx, .int .i64 id1, .slice ua k uc, .slice none 0 0, .int .i64 tn, .int .i64 tm, .slice ia op.length ic1, .int .i64 ta, .string nm, .int .i64 n, .int .i64 at1] 35 (0, 0)) := by
    have h1 := (KB.out.heap (by simp) BX.out)
    rw [hgrow.block _ (Array.getElem?_eq_some_iff.1 h1).1 (fun hm => by have := (OO.out.lt _ hm.symm).1; omega)]
    exact h1
   have d9 := cell_of_row w9 (s0 + 2) 4 _ _ _ bx9; have f9 := frozen_of_row w9 (s0 + 2) 4 _ _ bx9
   simp at d9
   obtain ⟨u9, c9, e9⟩ := o9.shape
   have l9 : (ops.take (k + 1)).length = k + 1 := by rw [List.length_take]; have := HL.out; omega
   rw [l9] at e9
   subst e9
   clear l9
   have bs := xqa bx9 4 (.slice u9 (k + 1 : Nat) c9)
   simp only [List.setIfInBounds_toArray, List.set_cons_zero, List.set_cons_succ] at bs
   have ks : Kept w9 (w9.setCell ⟨s0 + 2, 4, none⟩ (.slice u9 (k + 1 : Nat) c9)) [s0 + 2] := (Kept.refl w9 _).setCell (.inl (by simp)) _
   have o10 := o9.kept ks (fun b hb => by have := (o9.lt b hb).1; simp; omega)
   have BS := iH bs; have O10 := iH o10; have KE := iH (kb.trans ks (fun x hx => .inl hx)); have KB9 := iH kb
   clear hown hgrow o9 kb bx9 bs ks o10
   refine hK.out _ _ KB9.out (fun hJ => ?_)
   clear hK K
   refine wpAnyH_take (i := 26) (oi := _) (v := .pointer (some ⟨s0 + 2, 4, none⟩)) rfl (by kernel_rfl) (by kernel_rfl) (by kernel_rfl) (fun _ _ _ h => h) (Or.inl ⟨by rfl, fun V hV => by go_simp⟩) hJ ?_
   refine wr1 27 rfl (fun K hK => ?_)
   go_simp
   refine hK.out _ _ KE.out (fun hJ => ?_)
   clear hK K
   refine wd ?_
   clear hJ d9 f9
   go_wp2
   go_roundw
   case rel => exact ⟨k + 1, u9, c9, by go_num, by omega, BS.out, O10.out, KE.out⟩
   case measure => simp [intOf]; omega
  have hke : k = ops.length := by omega
  subst hke
  obtain ⟨oa1, h1⟩ : ∃ x, x = ua := ⟨_, rfl⟩
  subst h1
  obtain ⟨oc1, h1⟩ : ∃ x, x = uc := ⟨_, rfl⟩
  subst h1
  have OT0 : RowKit.Hid (OwnK encO wr (s0 + 3) 63 (.slice oa1 ops.length oc1) ops) := iH (by have h2 := OW.out; rw [List.take_of_length_le (Nat.le_refl _)] at h2; exact h2)
  have BX0 := BX
  have KW0 := KW
  have x1 : ¬ ((ops.length : Int) < (ops.length : Int)) := by omega
  clear BX OW KW LT SZ hk hlt
  obtain ⟨wo, hwo⟩ : ∃ wo, wo = wr := ⟨_, rfl⟩
  subst hwo
  go_wp2
  go_loopw [5] (fun t wr => ∃ (k : Nat) (ua : Option Addr) (uc : Nat), t = .int .i64 k /\ k <= evs.length /\ wr.heap[s0 + 2]? = some (.cells #[.int .u8 kd, .int .i64 tx, .int .i64 nx, .int .i64 id1, .slice oa1 ops.length oc1, .slice ua k uc, .int .i64 tn, .int .i64 tm, .slice ia op.length ic1, .int .i64 ta, .string nm, .int .i64 n, .int .i64 at1] 35 (0, 0)) /\ OwnK encP wr (s0 + 3) 76 (.slice ua k uc) (evs.take k) /\ OwnK encO wr (s0 + 3) 63 (.slice oa1 ops.length oc1) ops /\ (∀ b, (Value.slice oa1 ops.length oc1).ownBlock = some b -> (Value.slice ua k uc).ownBlock ≠ some b) /\ Kept W1 wr [s0 + 2]) (fun t _ => evs.length - (intOf t).toNat)
  case atStart => exact ⟨0, none, 0, rfl, Nat.zero_le _, BX0.out, OwnK.nil _ _ _, OT0.out, fun b _ h => by simp [Value.ownBlock] at h, KW0.out⟩
  case round =>
  obtain ⟨k, ua, uc, rfl, hk, hbx, how, hot, hdj, hkw⟩ := hrel
  have BX := iH hbx; have OW := iH how; have KW := iH hkw; have OT := iH hot; have DISJ := iH hdj
  have SZ : RowKit.Hid (s0 + 3 <= wr.heap.size) := iH (by have := HZ1.out; have := hkw.size; omega)
  have LT : RowKit.Hid ((evs.take k).length <= 100000) := iH (by rw [List.length_take]; omega)
  have pe : wr.cell? ⟨s0, 5, none⟩ = some (.slice ea evs.length ec) := SC.out wr hkw 5
  clear hbx how hkw hot hdj BX0 KW0 OT0 x1
  by_cases hlt : k < evs.length
  ·obtain ⟨x, hx⟩ : ∃ x, evs[k]? = some x := ⟨_, List.getElem?_eq_getElem hlt⟩
   obtain ⟨ob, oo, rfl, _⟩ := (RE.out wr KW.out).at hx
   have CE : RowKit.Hid (∀ V, Kept W1 V [s0 + 2] -> V.cell? ⟨s0, 5, none⟩ = some (.slice (some ⟨ob, oo, none⟩) evs.length ec) /\ ∀ j, j < 9 -> V.cell? ⟨ob, oo + k * 9 + j, none⟩ = (x.cs)[j]?) := iH (fun V hV => ⟨SC.out V hV 5, fun j hj => (RE.out V hV).here hx j hj⟩)
   have HX := iH hx
   have HL := iH hlt
   obtain ⟨b0, ⟨b1, b2, b3, b4, b5, b6, b7, b8⟩⟩ := x
   simp only [Px.cs] at CE
   have x1 : (k : Int) < (evs.length : Int) := by omega
   have d0 := cell_of_row wr.drew (s0 + 2) 5 _ _ _ BX.out
   simp at d0
   clear hx
   go_upto_region 9 with fail
   clear pe
   refine wp_region_held_drew (S := fun Z => Kept W1 Z [s0 + 2]) (by kernel_rfl) KW.out.drew (fun hJ => ?_)
   refine wx 0 64 (.pointer (some ⟨s0 + 2, 5, none⟩)) rfl hJ ?_
   refine wx 2 66 (.pointer (some ⟨s0, 5, none⟩)) rfl hJ ?_
   refine wx 3 67 (.slice (some ⟨ob, oo, none⟩) evs.length ec) rfl hJ ?_ (hy := fun V hV => by (obtain ⟨pe, qq⟩ := CE.out V hV; have q0 := qq 0 (by decide); have q1 := qq 1 (by decide); have q2 := qq 2 (by decide); have q3 := qq 3 (by decide); have q4 := qq 4 (by decide); have q5 := qq 5 (by decide); have q6 := qq 6 (by decide); have q7 := qq 7 (by decide); have q8 := qq 8 (by decide); clear hV qq; simp only [List.getElem?_toArray, List.getElem?_cons_zero, List.getElem?_cons_succ, Nat.add_zero] at q0 q1 q2 q3 q4 q5 q6 q7 q8; go_simp))
   refine wx 4 68 (.int .i64 k) rfl hJ ?_
   refine wx 5 69 (.pointer (some ⟨ob, oo + k * 9, none⟩)) rfl hJ ?_
   refine wx 6 70 (.pointer (some ⟨ob, oo + k * 9, none⟩)) rfl hJ ?_
   refine wx 7 71 (.int .i64 b0) rfl hJ ?_ (hy := fun V hV => by (obtain ⟨pe, qq⟩ := CE.out V hV; have q0 := qq 0 (by decide); have q1 := qq 1 (by decide); have q2 := qq 2 (by decide); have q3 := qq 3 (by decide); have q4 := qq 4 (by decide); have q5 := qq 5 (by decide); have q6 := qq 6 (by decide); have q7 := qq 7 (by decide); have q8 := qq 8 (by decide); clear hV qq; simp only [List.getElem?_toArray, List.getElem?_cons_zero, List.getElem?_cons_succ, Nat.add_zero] at q0 q1 q2 q3 q4 q5 q6 q7 q8; go_simp))
   refine wx 8 72 (.pointer (some ⟨s0, 5, none⟩)) rfl hJ ?_
   refine wx 9 73 (.slice (some ⟨ob, oo, none⟩) evs.length ec) rfl hJ ?_ (hy := fun V hV => by (obtain ⟨pe, qq⟩ := CE.out V hV; have q0 := qq 0 (by decide); have q1 := qq 1 (by decide); have q2 := qq 2 (by decide); have q3 := qq 3 (by decide); have q4 := qq 4 (by decide); have q5 := qq 5 (by decide); have q6 := qq 6 (by decide); have q7 := qq 7 (by decide); have q8 := qq 8 (by decide); clear hV qq; simp only [List.getElem?_toArray, List.getElem?_cons_zero, List.getElem?_cons_succ, Nat.add_zero] at q0 q1 q2 q3 q4 q5 q6 q7 q8; go_simp))
   refine wx 10 74 (.int .i64 k) rfl hJ ?_
   refine wx 11 75 (.pointer (some ⟨ob, oo + k * 9, none⟩)) rfl hJ ?_
   refine wx 12 76 (.pointer (some ⟨ob, oo + k * 9 + 1, none⟩)) rfl hJ ?_
   refine wx 13 77 (.agg #[.int .i64 b1, .int .i64 b2, .string b3, .int .i64 b4, .int .i64 b5, .int .u8 b6, .int .i64 b7, .string b8]) rfl hJ ?_ (hy := fun V hV => by (obtain ⟨pe, qq⟩ := CE.out V hV; have q0 := qq 0 (by decide); have q1 := qq 1 (by decide); have q2 := qq 2 (by decide); have q3 := qq 3 (by decide); have q4 := qq 4 (by decide); have q5 := qq 5 (by decide); have q6 := qq 6 (by decide); have q7 := qq 7 (by decide); have q8 := qq 8 (by decide); clear hV qq; simp only [List.getElem?_toArray, List.getElem?_cons_zero, List.getElem?_cons_succ, Nat.add_zero] at q0 q1 q2 q3 q4 q5 q6 q7 q8; go_simp))
   refine wx 14 78 (.agg #[.int .i64 b0, .int .i64 b1, .int .i64 b2, .string b3, .int .i64 b4, .int .i64 b5, .int .u8 b6, .int .i64 b7, .string b8]) rfl hJ ?_
   refine wpAnyH_ready (rs := [1, 15]) (by kernel_rfl) (by simp) ?_
   refine AllReadyH.cons (o := _) rfl (fun K hK => ?_) (AllReadyH.cons (o := _) rfl (fun K hK => ?_) AllReadyH.nil)
   ·go_simp
    refine hK.out _ _ KW.out.drew (fun hJ => ?_)
    clear hK K
    refine wr1 15 rfl (fun K hK => ?_)
    obtain ⟨WB, hWB⟩ : ∃ WB, WB = wr.drew.alloc (.cells #[.int .i64 b0, .int .i64 b1, .int .i64 b2, .string b3, .int .i64 b4, .int .i64 b5, .int .u8 b6, .int .i64 b7, .string b8] 76) := ⟨_, rfl⟩
    have SRCF : RowKit.Hid (Src Try.prog 9 29 (.slice (some ⟨wr.heap.size, 0, none⟩) 1 1) 1 (encP.cs (⟨b0, ⟨b1, b2, b3, b4, b5, b6, b7, b8⟩⟩ : Px)).toList WB) := iH (by rw [hWB]; exact xqI (E := encP) wr.drew (⟨b0, ⟨b1, b2, b3, b4, b5, b6, b7, b8⟩⟩ : Px) Try.underlying29)
    have KB : RowKit.Hid (Kept wr WB []) := iH (by rw [hWB]; exact ((Kept.refl wr []).drew).alloc _)
    have KWB : RowKit.Hid (Kept W1 WB [s0 + 2]) := iH (KW.out.trans KB.out (by simp))
    refine xqo _ rfl 29 (.tmp 78) rfl 76 j0 _ 9 Try.underlying29 hj0 hy0 hy1 (by decide) (by decide) (encP.cs (⟨b0, ⟨b1, b2, b3, b4, b5, b6, b7, b8⟩⟩ : Px)).toList rfl rfl ?_
    refine hK.out _ _ (by rw [hWB] at KWB; exact KWB.out) (fun hJ => ?_)
    clear hK K
    change wpAnyH _ _ _ _ _ _ _ _ (wr.drew.alloc (.cells #[.int .i64 b0, .int .i64 b1, .int .i64 b2, .string b3, .int .i64 b4, .int .i64 b5, .int .u8 b6, .int .i64 b7, .string b8] 76))
    rw [<- hWB]
    clear hWB d0
    have OO := iH (OW.out.keep KB.out)
    have SR := iH SRCF.out
    refine wr1 16 rfl (fun K hK => ?_)
    refine xqn _ rfl (.tmp 65) (.tmp 79) 29 29 rfl (s0 + 3) 76 j0 _ 9 88 Try.underlying29 hj0 hy0 hy1 hy2 rfl (.slice ua k uc) (evs.take k).length (kcs encP (evs.take k)) rfl OO.out _ 1 _ rfl SR.out (by have := LT.out; unfold maxLen; omega) (by have := LT.out; omega) (by have := KB.out.size; have := SZ.out; omega) ?_
    intro v9 w9 hown _ hgrow _
    have o9 : OwnK encP w9 (s0 + 3) 76 v9 (evs.take (k + 1)) := by
     rw [List.take_add_one, HX.out]
     unfold OwnK
     rw [Option.toList_some, xqv, xqu, List.length_append]
     exact hown
    have kb : Kept W1 w9 [s0 + 2] := KWB.out.grown hgrow (fun b hb => .inr (by have := (OO.out.lt b hb).1; have := HZ1.out; omega))
    have bx9 : w9.heap[s0 + 2]? = some (.cells #[.int .u8 kd, .int .i64 tx, .int .i64 nx, .int .i64 id1, .slice oa1 ops.length oc1, .slice ua k uc, .int .i64 tn, .int .i64 tm, .slice ia op.length ic1, .int .i64 ta, .string nm, .int .i64 n, .int .i64 at1] 35 (0, 0)) := by
     have h1 := (KB.out.heap (by simp) BX.out)
     rw [hgrow.block _ (Array.getElem?_eq_some_iff.1 h1).1 (fun hm => by have := (OO.out.lt _ hm.symm).1; omega)]
     exact h1
    have d9 := cell_of_row w9 (s0 + 2) 5 _ _ _ bx9; have f9 := frozen_of_row w9 (s0 + 2) 5 _ _ bx9
    simp at d9
    have oth := ((OT.out.keep KB.out).kept ((Kept.refl _ (Value.slice ua k uc).ownBlock.toList).grown hgrow (fun b hb => .inl (by simp [hb]))) (fun b hb hm => DISJ.out b hb (by simpa using hm)))
    obtain ⟨u9, c9, e9⟩ := o9.shape
    have l9 : (evs.take (k + 1)).length = k + 1 := by rw [List.length_take]; have := HL.out; omega
    rw [l9] at e9
    subst e9
    clear l9
    have bs := xqa bx9 5 (.slice u9 (k + 1 : Nat) c9)
    simp only [List.setIfInBounds_toArray, List.set_cons_zero, List.set_cons_succ] at bs
    have ks : Kept w9 (w9.setCell ⟨s0 + 2, 5, none⟩ (.slice u9 (k + 1 : Nat) c9)) [s0 + 2] := (Kept.refl w9 _).setCell (.inl (by simp)) _
    have o10 := o9.kept ks (fun b hb => by have := (o9.lt b hb).1; simp; omega)
    have oth10 := oth.kept ks (fun b hb => by have := (oth.lt b hb).1; simp; omega)
    have dj : ∀ b, (Value.slice oa1 ops.length oc1).ownBlock = some b -> (Value.slice u9 (k + 1 : Nat) c9).ownBlock ≠ some b := fun b hb hb2 => by
     have h1 := (oth.tag hb); have h2 := (o9.tag hb2)
     obtain ⟨c1, h1⟩ := h1; obtain ⟨c2, h2⟩ := h2
     rw [h1] at h2; simp at h2
    have BS := iH bs; have O10 := iH o10; have OT10 := iH oth10; have KE := iH (kb.trans ks (fun x hx => .inl hx)); have DJ := iH dj; have KB9 := iH kb
    clear hown hgrow o9 kb bx9 oth bs ks o10 oth10 dj
    refine hK.out _ _ KB9.out (fun hJ => ?_)
    clear hK K
    refine wpAnyH_take (i := 17) (oi := _) (v := .pointer (some ⟨s0 + 2, 5, none⟩)) rfl (by kernel_rfl) (by kernel_rfl) (by kernel_rfl) (fun _ _ _ h => h) (Or.inl ⟨by rfl, fun V hV => by go_simp⟩) hJ ?_
    refine wr1 18 rfl (fun K hK => ?_)
    go_simp
    refine hK.out _ _ KE.out (fun hJ => ?_)
    clear hK K
    refine wd ?_
    clear hJ d9 f9
    go_wp2
    go_roundw
    case rel => exact ⟨k + 1, u9, c9, by go_num, by omega, BS.out, O10.out, OT10.out, DJ.out, KE.out⟩
    case measure => simp [intOf]; omega
   obtain ⟨WB, hWB⟩ : ∃ WB, WB = wr.drew.alloc (.cells #[.int .i64 b0, .int .i64 b1, .int .i64 b2, .string b3, .int .i64 b4, .int .i64 b5, .int .u8 b6, .int .i64 b7, .string b8] 76) := ⟨_, rfl⟩
   have SRCF : RowKit.Hid (Src Try.prog 9 29 (.slice (some ⟨wr.heap.size, 0, none⟩) 1 1) 1 (encP.cs (⟨b0, ⟨b1, b2, b3, b4, b5, b6, b7, b8⟩⟩ : Px)).toList WB) := iH (by rw [hWB]; exact xqI (E := encP) wr.drew (⟨b0, ⟨b1, b2, b3, b4, b5, b6, b7, b8⟩⟩ : Px) Try.underlying29)
   have KB : RowKit.Hid (Kept wr WB []) := iH (by rw [hWB]; exact ((Kept.refl wr []).drew).alloc _)
   have KWB : RowKit.Hid (Kept W1 WB [s0 + 2]) := iH (KW.out.trans KB.out (by simp))
   refine xqo _ rfl 29 (.tmp 78) rfl 76 j0 _ 9 Try.underlying29 hj0 hy0 hy1 (by decide) (by decide) (encP.cs (⟨b0, ⟨b1, b2, b3, b4, b5, b6, b7, b8⟩⟩ : Px)).toList rfl rfl ?_
   refine hK.out _ _ (by rw [hWB] at KWB; exact KWB.out) (fun hJ => ?_)
   clear hK K
   change wpAnyH _ _ _ _ _ _ _ _ (wr.drew.alloc (.cells #[.int .i64 b0, .int .i64 b1, .int .i64 b2, .string b3, .int .i64 b4, .int .i64 b5, .int .u8 b6, .int .i64 b7, .string b8] 76))
   rw [<- hWB]
   clear hWB d0
   have d1 := cell_of_row WB (s0 + 2) 5 _ _ _ (KB.out.heap (by simp) BX.out)
   simp at d1
   refine wr1 1 rfl (fun K hK => ?_)
   go_simp
   refine hK.out _ _ KWB.out (fun hJ => ?_)
   clear hK K d1
   have OO := iH (OW.out.keep KB.out)
   have SR := iH SRCF.out
   refine wr1 16 rfl (fun K hK => ?_)
   refine xqn _ rfl (.tmp 65) (.tmp 79) 29 29 rfl (s0 + 3) 76 j0 _ 9 88 Try.underlying29 hj0 hy0 hy1 hy2 rfl (.slice ua k uc) (evs.take k).length (kcs encP (evs.take k)) rfl OO.out _ 1 _ rfl SR.out (by have := LT.out; unfold maxLen; omega) (by have := LT.out; omega) (by have := KB.out.size; have := SZ.out; omega) ?_
   intro v9 w9 hown _ hgrow _
   have o9 : OwnK encP w9 (s0 + 3) 76 v9 (evs.take (k + 1)) := by
    rw [List.take_add_one, HX.out]
    unfold OwnK
    rw [Option.toList_some, xqv, xqu, List.length_append]
    exact hown
   have kb : Kept W1 w9 [s0 + 2] := KWB.out.grown hgrow (fun b hb => .inr (by have := (OO.out.lt b hb).1; have := HZ1.out; omega))
   have bx9 : w9.heap[s0 + 2]? = some (.cells #[.int .u8 kd, .int .i64 tx, .int .i64 nx, .int .i64 id1, .slice oa1 ops.length oc1, .slice ua k uc, .int .i64 tn, .int .i64 tm, .slice ia op.length ic1, .int .i64 ta, .string nm, .int .i64 n, .int .i64 at1] 35 (0, 0)) := by
    have h1 := (KB.out.heap (by simp) BX.out)
    rw [hgrow.block _ (Array.getElem?_eq_some_iff.1 h1).1 (fun hm => by have := (OO.out.lt _ hm.symm).1; omega)]
    exact h1
   have d9 := cell_of_row w9 (s0 + 2) 5 _ _ _ bx9; have f9 := frozen_of_row w9 (s0 + 2) 5 _ _ bx9
   simp at d9
   have oth := ((OT.out.keep KB.out).kept ((Kept.refl _ (Value.slice ua k uc).ownBlock.toList).grown hgrow (fun b hb => .inl (by simp [hb]))) (fun b hb hm => DISJ.out b hb (by simpa using hm)))
   obtain ⟨u9, c9, e9⟩ := o9.shape
   have l9 : (evs.take (k + 1)).length = k + 1 := by rw [List.length_take]; have := HL.out; omega
   rw [l9] at e9
   subst e9
   clear l9
   have bs := xqa bx9 5 (.slice u9 (k + 1 : Nat) c9)
   simp only [List.setIfInBounds_toArray, List.set_cons_zero, List.set_cons_succ] at bs
   have ks : Kept w9 (w9.setCell ⟨s0 + 2, 5, none⟩ (.slice u9 (k + 1 : Nat) c9)) [s0 + 2] := (Kept.refl w9 _).setCell (.inl (by simp)) _
   have o10 := o9.kept ks (fun b hb => by have := (o9.lt b hb).1; simp; omega)
   have oth10 := oth.kept ks (fun b hb => by have := (oth.lt b hb).1; simp; omega)
   have dj : ∀ b, (Value.slice oa1 ops.length oc1).ownBlock = some b -> (Value.slice u9 (k + 1 : Nat) c9).ownBlock ≠ some b := fun b hb hb2 => by
    have h1 := (oth.tag hb); have h2 := (o9.tag hb2)
    obtain ⟨c1, h1⟩ := h1; obtain ⟨c2, h2⟩ := h2
    rw [h1] at h2; simp at h2
   have BS := iH bs; have O10 := iH o10; have OT10 := iH oth10; have KE := iH (kb.trans ks (fun x hx => .inl hx)); have DJ := iH dj; have KB9 := iH kb
   clear hown hgrow o9 kb bx9 oth bs ks o10 oth10 dj
   refine hK.out _ _ KB9.out (fun hJ => ?_)
   clear hK K
   refine wpAnyH_take (i := 17) (oi := _) (v := .pointer (some ⟨s0 + 2, 5, none⟩)) rfl (by kernel_rfl) (by kernel_rfl) (by kernel_rfl) (fun _ _ _ h => h) (Or.inl ⟨by rfl, fun V hV => by go_simp⟩) hJ ?_
   refine wr1 18 rfl (fun K hK => ?_)
   go_simp
   refine hK.out _ _ KE.out (fun hJ => ?_)
   clear hK K
   refine wd ?_
   clear hJ d9 f9
   go_wp2
   go_roundw
   case rel => exact ⟨k + 1, u9, c9, by go_num, by omega, BS.out, O10.out, OT10.out, DJ.out, KE.out⟩
   case measure => simp [intOf]; omega
  have hke : k = evs.length := by omega
  subst hke
  have OW1 : RowKit.Hid (OwnK encP wr (s0 + 3) 76 (.slice ua evs.length uc) evs) := iH (by have h2 := OW.out; rw [List.take_of_length_le (Nat.le_refl _)] at h2; exact h2)
  have x1 : ¬ ((evs.length : Int) < (evs.length : Int)) := by omega
  clear OW LT hk hlt
  have d0 := cell_of_row wr (s0 + 2) 0 _ _ _ BX.out
  have d1 := cell_of_row wr (s0 + 2) 1 _ _ _ BX.out
  have d2 := cell_of_row wr (s0 + 2) 2 _ _ _ BX.out
  have d3 := cell_of_row wr (s0 + 2) 3 _ _ _ BX.out
  have d4 := cell_of_row wr (s0 + 2) 4 _ _ _ BX.out
  have d5 := cell_of_row wr (s0 + 2) 5 _ _ _ BX.out
  have d6 := cell_of_row wr (s0 + 2) 6 _ _ _ BX.out
  have d7 := cell_of_row wr (s0 + 2) 7 _ _ _ BX.out
  have d8 := cell_of_row wr (s0 + 2) 8 _ _ _ BX.out
  have d9 := cell_of_row wr (s0 + 2) 9 _ _ _ BX.out
  have d10 := cell_of_row wr (s0 + 2) 10 _ _ _ BX.out
  have d11 := cell_of_row wr (s0 + 2) 11 _ _ _ BX.out
  have d12 := cell_of_row wr (s0 + 2) 12 _ _ _ BX.out
  simp only [List.getElem?_toArray, List.getElem?_cons_zero, List.getElem?_cons_succ] at d0 d1 d2 d3 d4 d5 d6 d7 d8 d9 d10 d11 d12
  have BZ := KW.out.heap (by simp) B1.out
  have e0 := cell_of_row wr (s0 + 1) 0 _ _ _ BZ
  have e1 := cell_of_row wr (s0 + 1) 1 _ _ _ BZ
  have e2 := cell_of_row wr (s0 + 1) 2 _ _ _ BZ
  have e3 := cell_of_row wr (s0 + 1) 3 _ _ _ BZ
  have e4 := cell_of_row wr (s0 + 1) 4 _ _ _ BZ
  have e5 := cell_of_row wr (s0 + 1) 5 _ _ _ BZ
  have e6 := cell_of_row wr (s0 + 1) 6 _ _ _ BZ
  have e7 := cell_of_row wr (s0 + 1) 7 _ _ _ BZ
  have e8 := cell_of_row wr (s0 + 1) 8 _ _ _ BZ
  have e9 := cell_of_row wr (s0 + 1) 9 _ _ _ BZ
  have e10 := cell_of_row wr (s0 + 1) 10 _ _ _ BZ
  have e11 := cell_of_row wr (s0 + 1) 11 _ _ _ BZ
  have e12 := cell_of_row wr (s0 + 1) 12 _ _ _ BZ
  simp only [List.getElem?_toArray, List.getElem?_cons_zero, List.getElem?_cons_succ] at e0 e1 e2 e3 e4 e5 e6 e7 e8 e9 e10 e11 e12
  have f0 := frozen_of_row wr (s0 + 1) 0 _ _ BZ
  have f1 := frozen_of_row wr (s0 + 1) 1 _ _ BZ
  have f2 := frozen_of_row wr (s0 + 1) 2 _ _ BZ
  have f3 := frozen_of_row wr (s0 + 1) 3 _ _ BZ
  have f4 := frozen_of_row wr (s0 + 1) 4 _ _ BZ
  have f5 := frozen_of_row wr (s0 + 1) 5 _ _ BZ
  have f6 := frozen_of_row wr (s0 + 1) 6 _ _ BZ
  have f7 := frozen_of_row wr (s0 + 1) 7 _ _ BZ
  have f8 := frozen_of_row wr (s0 + 1) 8 _ _ BZ
  have f9 := frozen_of_row wr (s0 + 1) 9 _ _ BZ
  have f10 := frozen_of_row wr (s0 + 1) 10 _ _ BZ
  have f11 := frozen_of_row wr (s0 + 1) 11 _ _ BZ
  have f12 := frozen_of_row wr (s0 + 1) 12 _ _ BZ
  have BZ := iH BZ
  go_wp2
  have g0 := xqa BZ.out 0 (.int .u8 kd)
  have g1 := xqa g0 1 (.int .i64 tx)
  have g2 := xqa g1 2 (.int .i64 nx)
  have g3 := xqa g2 3 (.int .i64 id1)
  have g4 := xqa g3 4 (.slice oa1 ops.length oc1)
  have g5 := xqa g4 5 (.slice ua evs.length uc)
  have g6 := xqa g5 6 (.int .i64 tn)
  have g7 := xqa g6 7 (.int .i64 tm)
  have g8 := xqa g7 8 (.slice ia op.length ic1)
  have g9 := xqa g8 9 (.int .i64 ta)
  have g10 := xqa g9 10 (.string nm)
  have g11 := xqa g10 11 (.int .i64 n)
  have g12 := xqa g11 12 (.int .i64 at1)
  simp only [List.setIfInBounds_toArray, List.set_cons_zero, List.set_cons_succ] at g12
  have y0 := cell_of_row _ _ 0 _ _ _ g12
  have y1 := cell_of_row _ _ 1 _ _ _ g12
  have y2 := cell_of_row _ _ 2 _ _ _ g12
  have y3 := cell_of_row _ _ 3 _ _ _ g12
  have y4 := cell_of_row _ _ 4 _ _ _ g12
  have y5 := cell_of_row _ _ 5 _ _ _ g12
  have y6 := cell_of_row _ _ 6 _ _ _ g12
  have y7 := cell_of_row _ _ 7 _ _ _ g12
  have y8 := cell_of_row _ _ 8 _ _ _ g12
  have y9 := cell_of_row _ _ 9 _ _ _ g12
  have y10 := cell_of_row _ _ 10 _ _ _ g12
  have y11 := cell_of_row _ _ 11 _ _ _ g12
  have y12 := cell_of_row _ _ 12 _ _ _ g12
  simp only [List.getElem?_toArray, List.getElem?_cons_zero, List.getElem?_cons_succ] at y0 y1 y2 y3 y4 y5 y6 y7 y8 y9 y10 y11 y12
  have kF : Kept wr (((((((((((((wr.setCell ⟨s0 + 1, 0, none⟩ (.int .u8 kd)).setCell ⟨s0 + 1, 1, none⟩ (.int .i64 tx)).setCell ⟨s0 + 1, 2, none⟩ (.int .i64 nx)).setCell ⟨s0 + 1, 3, none⟩ (.int .i64 id1)).setCell ⟨s0 + 1, 4, none⟩ (.slice oa1 ops.length oc1)).setCell ⟨s0 + 1, 5, none⟩ (.slice ua evs.length uc)).setCell ⟨s0 + 1, 6, none⟩ (.int .i64 tn)).setCell ⟨s0 + 1, 7, none⟩ (.int .i64 tm)).setCell ⟨s0 + 1, 8, none⟩ (.slice ia op.length ic1)).setCell ⟨s0 + 1, 9, none⟩ (.int .i64 ta)).setCell ⟨s0 + 1, 10, none⟩ (.string nm)).setCell ⟨s0 + 1, 11, none⟩ (.int .i64 n)).setCell ⟨s0 + 1, 12, none⟩ (.int .i64 at1)) [s0 + 1] := ((((((((((((((Kept.refl wr [s0 + 1]).setCell (.inl (by simp)) _).setCell (.inl (by simp)) _).setCell (.inl (by simp)) _).setCell (.inl (by simp)) _).setCell (.inl (by simp)) _).setCell (.inl (by simp)) _).setCell (.inl (by simp)) _).setCell (.inl (by simp)) _).setCell (.inl (by simp)) _).setCell (.inl (by simp)) _).setCell (.inl (by simp)) _).setCell (.inl (by simp)) _).setCell (.inl (by simp)) _)
  refine bodyPost_ret (v := .agg #[.int .u8 kd, .int .i64 tx, .int .i64 nx, .int .i64 id1, .slice oa1 ops.length oc1, .slice ua evs.length uc, .int .i64 tn, .int .i64 tm, .slice ia op.length ic1, .int .i64 ta, .string nm, .int .i64 n, .int .i64 at1]) (by simp [results, Try.results20, go_sem, y0, y1, y2, y3, y4, y5, y6, y7, y8, y9, y10, y11, y12]) rfl ?_
  have hs := HS0.out
  refine ⟨_, _, rfl, ?_, ?_, ?_⟩
  ·exact (OT.out.kept kF (fun b hb => by have := (OT.out.lt b hb).1; simp; omega)).mono (by omega)
  ·exact (OW1.out.kept kF (fun b hb => by have := (OW1.out.lt b hb).1; simp; omega)).mono (by omega)
  exact (K1.out.trans KW.out (by intro x hx; simp at hx; exact .inr (by omega))).trans kF (by intro x hx; simp at hx; exact .inr (by omega))
end Go.Proofs.Ytjdbmlifekghfaa
