/-
 Rth, Rti, Rtk, Rtl, Rqm in one text.
-/
import Derived.Test.YticiofkiffgclaaGreatQu0
import Derived.Test.YticiofkiffgclaaGreatQu8
import Derived.Test.YticiofkiffgclaaGreatQu4
import Derived.Test.YticiofkiffgclaaGreatQu2
import Derived.Deep.Slices
import Derived.Deep.Fields
import Derived.Deep.Grids
import Derived.ChangeSame
import Derived.LoopTactic
import Derived.ProofKit
import Derived.OpenShut
import Derived.ChangeOld
import Derived.Below
import Derived.Laws.StructEq
import Derived.Deep.LoopGhost
import Derived.Deep.DeepCutAuto
set_option linter.unusedVariables false
set_option maxHeartbeats 16000000
set_option maxRecDepth 100000
namespace Go.Proofs.YticiofkiffgclaaGreat
open Go.RowKit
variable {w w' : World} {B h : Nat} {V : Value} {l : List It}
theorem Tryz.infoEv : (Tryz.prog.info? 50).map (fun i => (i.zero, i.size, i.bytes)) = some (some (.agg #[.int .i64 0, .int .i64 0, .string ⟨#[]⟩, .int .i64 0, .int .i64 0, .int .u8 0, .int .i64 0, .string ⟨#[]⟩]), 8, 80) := by kernel_rfl
theorem due_here (ok : OkI l) {now : Int} {k : Nat} (hk : k <= l.length) (h1 : ∀ (j : Nat) (y : It), j < k -> l[j]? = some y -> y.a <= now) (h2 : ∀ y, l[k]? = some y -> ¬ y.a <= now) : l.take k = dueI l now := by
 have h3 := due_stop ok.rise h1 h2 hk
 have h4 := (due_take ok.rise now).1
 rw [h3] at h4
 exact h4
def evs (l : List It) : List Ev := l.map It.e
theorem xq6 (l : List It) : (evs l).length = l.length := List.length_map _
theorem evs_snoc {k : Nat} {x : It} (hx : l[k]? = some x) : evs (l.take (k + 1)) = evs (l.take k) ++ [x.e] := by
 obtain ⟨hk, rfl⟩ := List.getElem?_eq_some_iff.1 hx
 rw [evs, List.take_succ_eq_append_getElem hk, List.map_append]
 rfl
theorem tdue_any (a : Ls encIt rtT rtE w B h V l) (ok : OkI l) (now : Int) : Calls Tryz.prog 158 #[.pointer (some ⟨h, 0, none⟩), .int .i64 now] w fun e w' => ∃ v', e = .returned v' /\ OwnK encEv w' w.heap.size evT v' (evs (dueI l now)) /\ Kept w w' [] := by
 obtain ⟨i0, hi0, hz0, hz1, hz2⟩ := info_parts Tryz.infoEv
 obtain ⟨z, hz⟩ : ∃ z, z = w.heap.size := ⟨_, rfl⟩
 obtain ⟨u, c, e⟩ := a.shape
 have c0 := a.cell.1
 rw [e] at c0
 have few := ok.few
 have A := iH a; have OK := iH ok; have EV := iH e; have HZ := iH hz
 clear a ok e hz
 go_enter Tryz.func158, Tryz.ntmps158
 go_wp2
 go_loopw [5, 7, 15] (fun s5 _ s15 wr => ∃ (k : Nat) (ue : Option Addr) (ce : Nat), s15 = .int .i64 k /\ s5 = .slice ue k ce /\ k <= l.length /\ Hid (OwnK encEv wr z evT (.slice ue k ce) (evs (l.take k))) /\ Hid (∀ (j : Nat) (y : It), j < k -> l[j]? = some y -> y.a <= now) /\ Hid (Kept w wr [])) (fun _ _ s15 _ => l.length - (intOf s15).toNat)
 case atStart => exact ⟨0, none, 0, rfl, rfl, Nat.zero_le _, iH (OwnK.nil _ _ _), iH (fun j y hj => absurd hj (Nat.not_lt_zero _)), iH (Kept.refl w [])⟩
 case round =>
 obtain ⟨k, ue, ce, rfl, rfl, hk, OW, HX, K⟩ := hrel
 by_cases hlt : k < l.length
 ·obtain ⟨x, hx⟩ : ∃ x, l[k]? = some x := ⟨_, List.getElem?_eq_getElem hlt⟩
  have a2 := A.out.keep K.out
  obtain ⟨g, c', hv⟩ := a2.hit hx
  have o2 := a2.own
  rw [hv] at o2
  obtain ⟨⟨q0, q1, q2, q3, q4, q5, q6, q7, q8⟩, -⟩ := cellsO_r o2 hx
  rw [EV.out] at hv
  simp only [Value.slice.injEq] at hv
  obtain ⟨rfl, -, rfl⟩ := hv
  have x1 : (k : Int) < (l.length : Int) := by omega
  have HR := iH hx
  clear a2 o2 hx
  obtain ⟨b0, ⟨b1, b2, b3, b4, b5, b6, b7, b8⟩⟩ := x
  simp only at q0 q1 q2 q3 q4 q5 q6 q7 q8
  by_cases hd : b0 <= now
  ·have hd2 : ¬ now < b0 := by omega
   have HD := iH hd
   have k2 : Kept wr ((wr.alloc (.cells #[.int .i64 b0, .int .i64 b1, .int .i64 b2, .string b3, .int .i64 b4, .int .i64 b5, .int .u8 b6, .int .i64 b7, .string b8] rtE)).alloc (.cells #[.int .i64 b1, .int .i64 b2, .string b3, .int .i64 b4, .int .i64 b5, .int .u8 b6, .int .i64 b7, .string b8] evT)) [] := ((Kept.refl wr []).alloc _).alloc _
   obtain ⟨W1, hW1⟩ : ∃ W1, W1 = wr.alloc (.cells #[.int .i64 b0, .int .i64 b1, .int .i64 b2, .string b3, .int .i64 b4, .int .i64 b5, .int .u8 b6, .int .i64 b7, .string b8] rtE) := ⟨_, rfl⟩
   have hz2' : W1.heap.size = wr.heap.size + 1 := by rw [hW1]; simp
   have SRC := xqQ (E := encEv) (P := Tryz.prog) (t := evT) W1 ⟨b1, b2, b3, b4, b5, b6, b7, b8⟩ (tx := 57) Tryz.underlying57
   rw [hz2', hW1] at SRC
   simp only [encEv, Ev.cs] at SRC
   have SRC := iH SRC
   have K2 := iH (K.out.trans k2 (by simp))
   have ET := iH (show (evs (l.take k)).length = k by rw [xq6, List.length_take]; omega)
   have OO := OW.out.keep k2
   unfold OwnK at OO
   rw [ET.out] at OO
   have OO := iH OO
   have HS := iH (show z <= ((wr.alloc (.cells #[.int .i64 b0, .int .i64 b1, .int .i64 b2, .string b3, .int .i64 b4, .int .i64 b5, .int .u8 b6, .int .i64 b7, .string b8] rtE)).alloc (.cells #[.int .i64 b1, .int .i64 b2, .string b3, .int .i64 b4, .int .i64 b5, .int .u8 b6, .int .i64 b7, .string b8] evT)).heap.size by have := K2.out.size; rw [HZ.out]; exact this)
   clear k2 hW1 hz2' hd
   go_wp2_with (at_builtin; refine xqa _ rfl (.tmp 23) (.tmp 26) 57 57 rfl z evT i0 _ 8 80 Tryz.underlying57 hi0 hz0 hz1 hz2 rfl (.slice ue k ce) k (kcs encEv (evs (l.take k))) rfl OO.out (.slice (some ⟨wr.heap.size + 1, 0, none⟩) 1 1) 1 _ rfl SRC.out (by unfold maxLen; omega) (by omega) HS.out ?nexta)
   case nexta =>
   intro v4 w4 hown _ hgrow _
   have o4 : OwnK encEv w4 z evT v4 (evs (l.take (k + 1))) := by
    rw [evs_snoc HR.out]
    unfold OwnK
    rw [xqi, xqz, List.length_append, ET.out]
    exact hown
   have k4 : Kept w w4 [] := K2.out.grown hgrow (fun k hk => .inr (by have := (World.ownsRow.lt OO.out k hk).1; rw [HZ.out] at this; exact this))
   obtain ⟨u4, c4, e4⟩ := o4.shape
   have hl4 : (evs (l.take (k + 1))).length = k + 1 := by rw [xq6, List.length_take]; omega
   rw [hl4] at e4
   subst e4
   have O4 := iH o4; have K4 := iH k4
   clear hown hgrow o4 k4 hl4
   go_wp2
   go_roundw
   case rel =>
    refine ⟨k + 1, u4, c4, by go_num, rfl, by omega, O4, iH (fun j y hj hy => ?_), K4⟩
    by_cases ej : j = k
    ·subst ej
     rw [HR.out] at hy
     cases hy
     exact HD.out
    exact HX.out j y (by omega) hy
   case measure => simp [intOf]; omega
  have hd2 : now < b0 := by omega
  have R := iH (due_here OK.out hk HX.out (fun y hy => by rw [HR.out] at hy; cases hy; exact hd))
  clear hd
  go_wp2
  go_ret
  rw [<- R.out, <- HZ.out]
  exact ⟨_, rfl, OW.out.keep ((Kept.refl wr []).alloc _), K.out.alloc _⟩
 have x1 : ¬ (k : Int) < (l.length : Int) := by omega
 have R := iH (due_here OK.out hk HX.out (fun y hy => by have := (List.getElem?_eq_some_iff.1 hy).1; omega))
 go_wp2
 go_ret
 rw [<- R.out, <- HZ.out]
 exact ⟨_, rfl, OW.out, K.out⟩
theorem ttake_any (a : Ls encIt rtT rtE w B h V l) (ok : OkI l) (now : Int) : Calls Tryz.prog 102 #[.pointer (some ⟨h, 0, none⟩), .int .i64 now] w fun e w' => ∃ v', e = .returned v' /\ OwnK encEv w' w.heap.size evT v' (evs (dueI l now)) /\ ∃ V', Ls encIt rtT rtE w' B h V' (lftI l now) /\ Stp (xqJ h V) (xqJ h V') w w' := by
 have DU := iH (tdue_any a ok now)
 have few := ok.few
 have DT := iH (due_take ok.rise now)
 have DL := iH (show (dueI l now).length <= l.length from List.length_filter_le _ _)
 obtain ⟨n, hn⟩ : ∃ n, n = (dueI l now).length := ⟨_, rfl⟩
 rw [<- hn] at DT DL
 have A := iH a; have HN := iH hn
 clear a ok hn
 go_enter Tryz.func102, Tryz.ntmps102
 go_wp2_with fail
 refine DU.out.mono ?_
 rintro e w2 ⟨v, rfl, o, k⟩
 have a2 := A.out.keep k
 obtain ⟨uv, cv, ev⟩ := o.shape
 rw [xq6, <- HN.out] at ev
 subst ev
 by_cases h0 : n = 0
 ·subst h0
  have e1 : lftI l now = l := by rw [<- DT.out.2]; rfl
  rw [<- e1] at a2
  have A2 := iH a2; have OV := iH o; have K := iH k
  clear a2 o k e1
  go_wp2
  go_ret
  exact ⟨_, rfl, OV.out, V, A2.out, Stp.ofK K.out⟩
 have hnl : n <= l.length := DL.out
 obtain ⟨x, hx⟩ : ∃ x, l[0]? = some x := ⟨_, List.getElem?_eq_getElem (by omega)⟩
 obtain ⟨g, c, hv⟩ := a2.hit hx
 have o2 := a2.own
 have v2 := a2.cell.1
 rw [hv] at o2 v2
 have DE := iH (rdeletes_any g l.length c l 0 n w2 B rfl o2 (by omega) hnl (by omega))
 have EV := iH hv; have A2 := iH a2; have OV := iH o; have K := iH k
 have hn1 : (0 : Int) < (n : Int) := by omega
 have hvz := fun k1 (hk1 : (Value.slice uv n cv).ownBlock = some k1) (hk2 : V.ownBlock = some k1) => (show False by have := (o.lt _ hk1).1; have := (A.out.lt _ (.inr hk2)).2; omega)
 have hvh := fun (hk1 : (Value.slice uv n cv).ownBlock = some h) => (show False by have := (o.lt _ hk1).1; have := (A.out.lt _ (.inl rfl)).2; omega)
 have HVZ := iH hvz; have HVH := iH hvh
 clear hx o2 a2 o k hv hnl h0 hvz hvh
 go_wp2_with fail
 refine DE.out.mono ?_
 rintro e w4 ⟨rfl, ho, hfo⟩
 rw [List.take_zero, List.nil_append, DT.out.2, Nat.zero_add] at ho
 rw [Nat.zero_add]
 obtain ⟨⟨c4, f4⟩, a5, s5⟩ := A2.out.lay (hfo.mono (fun k hk => by rw [EV.out, hk]; rfl)) ho (fun k hk => .inl (by rw [EV.out]; exact hk))
 rw [EV.out] at c4
 have o4 := OV.out.fo hfo (fun k1 hk1 hk2 => HVZ.out k1 hk1 (by rw [EV.out, hk2]; rfl))
 have o5 := o4.fo (Fo.setCell (O := fun k => k = h) (Fo.refl _ w4) (p := ⟨h, 0, none⟩) (.inl rfl) (.slice (some ⟨g, 0, none⟩) (l.length - n) c)) (fun k1 hk1 hk2 => HVH.out (by rw [<- hk2]; exact hk1))
 have A5 := iH a5; have S5 := iH s5; have O5 := iH o5
 clear ho hfo a5 s5 v2 o4 o5
 go_wp2
 go_ret
 exact ⟨_, rfl, O5.out, _, A5.out, S5.out.afterK K.out⟩
theorem tdrop_any (a : Ls encIt rtT rtE w B h V l) (ok : OkI l) (ow : ByteArray) : Calls Tryz.prog 107 #[.pointer (some ⟨h, 0, none⟩), .string ow] w (ChgT w B h V (.int .i64 ((l.length : Int) - (drpI l ow).length)) (drpI l ow)) := by
 obtain ⟨z, hz⟩ : ∃ z, z = w.heap.size := ⟨_, rfl⟩
 obtain ⟨W1, hW1⟩ : ∃ W1, W1 = w.alloc (.cells #[.string ow] 9) := ⟨_, rfl⟩
 have k1 : Kept w W1 [] := by rw [hW1]; exact (Kept.refl w []).alloc _
 have g1 : W1.heap[z]? = some (.cells #[.string ow] 9 (0, 0)) := by rw [hW1, hz]; exact heap_alloc_new w _
 have few := ok.few
 obtain ⟨m, hm⟩ : ∃ m, m = (drpI l ow).length := ⟨_, rfl⟩
 have hml : m <= l.length := by rw [hm]; exact List.length_filter_le _ _
 obtain ⟨u, c, e⟩ := a.shape
 have a1 := a.keep k1
 have v1 := a1.cell.1
 have hzv : V.ownBlock ≠ some z := fun hk => by have := (a.lt _ (.inr hk)).2; omega
 have hP : PaysP_r W1 (fun k => V.ownBlock = some k) 163 #[.pointer (some ⟨z, 0, none⟩)] (fun x => x.e.ow.toList == ow.toList) := fun r V' hV =>
  dropP_any r ow z V' (by rw [cell_of_row _ _ _ _ _ _ (hV.heap hzv g1)]; rfl)
 have DF := iH (rdeleteFunc_any a1.own (by omega) _ _ _ (enters_of Tryz.func163 (by kernel_rfl) rfl) hP)
 rw [e] at v1 DF
 have A1 := iH a1; have EV := iH e; have HM := iH hm; have K1 := iH k1; have HW1 := iH hW1; have HZ := iH hz
 have e9 : wrap64 ((l.length : Int) - m) = (l.length : Int) - m := by unfold wrap64; omega
 rw [<- hm]
 clear a ok e a1 k1 g1 hW1 hz hm hzv hP
 go_enter Tryz.func107, Tryz.ntmps107
 go_upto_region 1 with fail
 rw [<- HW1.out, <- HZ.out]
 go_wp2_with fail
 refine DF.out.mono ?_
 rintro e w2 ⟨v', rfl, ho, hv, hfo⟩
 rw [<- EV.out] at hfo hv
 obtain ⟨u', c', e'⟩ := ho.shape
 have e3 : (List.filter (fun r : It => !(r.e.ow.toList == ow.toList)) l).length = m := HM.out.symm
 rw [e3] at e'
 subst e'
 obtain ⟨⟨c4, f4⟩, a5, s5⟩ := A1.out.lay hfo ho (fun k hk => .inl (hv k hk))
 rw [EV.out] at c4
 have A5 := iH a5; have S5 := iH s5
 clear ho hfo hv a5 s5 v1 e3
 go_wp2
 go_ret
 exact ⟨rfl, _, A5.out, S5.out.afterK K1.out⟩
variable {w0 w w' : World} {h : Nat} {l : List It}
def x7 : It := ⟨5, ⟨7, 0, nA, 1, 0, 0, 0, ⟨#[]⟩⟩⟩
variable {w : World}
theorem RdK.eight {a : Option Addr} {n c : Nat} {m : List Ev} (x : RdK encEv w (.slice a n c) m) {k : Nat} {r : Ev} (hr : m[k]? = some r) : ∃ b o, a = some ⟨b, o, none⟩ /\
 w.cell? ⟨b, o + k * 8, none⟩ = some (.int .i64 r.id) /\ w.cell? ⟨b, o + k * 8 + 1, none⟩ = some (.int .i64 r.tx) /\ w.cell? ⟨b, o + k * 8 + 2, none⟩ = some (.string r.ow) /\ w.cell? ⟨b, o + k * 8 + 3, none⟩ = some (.int .i64 r.tr) /\
 w.cell? ⟨b, o + k * 8 + 4, none⟩ = some (.int .i64 r.tb) /\ w.cell? ⟨b, o + k * 8 + 5, none⟩ = some (.int .u8 r.kd) /\ w.cell? ⟨b, o + k * 8 + 6, none⟩ = some (.int .i64 r.key) /\ w.cell? ⟨b, o + k * 8 + 7, none⟩ = some (.string r.t) := by
 obtain ⟨b, o, rfl, hc⟩ := x.at hr
 exact ⟨b, o, rfl, hc 0 (by decide), hc 1 (by decide), hc 2 (by decide), hc 3 (by decide), hc 4 (by decide), hc 5 (by decide), hc 6 (by decide), hc 7 (by decide)⟩
theorem ev_ne (b0 b1 b3 b4 b5 b6 : Int) (b2 b7 : ByteArray) (w : World) : (binOp .neq 50 (.agg #[.int .i64 b0, .int .i64 b1, .string b2, .int .i64 b3, .int .i64 b4, .int .u8 b5, .int .i64 b6, .string b7]) (.agg #[.int .i64 b0, .int .i64 b1, .string b2, .int .i64 b3, .int .i64 b4, .int .u8 b5, .int .i64 b6, .string b7])).run Tryz.prog w = .ok (.bool false) w := by
 go_simp
theorem same_any {va vb : Value} {m : List Ev} (ha : RdK encEv w va m) (hb : RdK encEv w vb m) (hm : m.length < 1000000) :
 Calls Tryz.prog 62 #[va, vb] w fun e w' => e = .returned (.bool true) /\ Kept w w' [] := by
 obtain ⟨a, ca, rfl⟩ := ha.shape
 obtain ⟨b, cb, rfl⟩ := hb.shape
 have HA := iH ha; have HB := iH hb
 obtain ⟨n, hn⟩ : ∃ n, n = m.length := ⟨_, rfl⟩
 have HN := iH hn
 rw [<- hn] at hm ⊢
 clear ha hb hn
 have eqs := ev_ne
 go_enter Tryz.func62, Tryz.ntmps62
 go_wp2
 go_loopg [5] n (fun kx s5 wr => ∃ i : Nat, s5 = .int .i64 i /\ i <= n /\ n - i <= kx /\ RowKit.Hid (Kept w wr []))
 case atStart => exact ⟨0, rfl, by omega, by omega, Kept.refl _ _⟩
 case round =>
  obtain ⟨i, rfl, hi, hkx, HK⟩ := hrel
  by_cases hlt : i < n
  ·have x1 : (i : Int) < (n : Int) := by omega
   obtain ⟨r, hr⟩ : ∃ r, m[i]? = some r := ⟨_, List.getElem?_eq_getElem (by rw [<- HN.out]; exact hlt)⟩
   have ea := (HA.out.kept HK.out (by simp))
   have eb := (HB.out.kept HK.out (by simp))
   rw [<- HN.out] at ea eb
   obtain ⟨ba, oa, rfl, fa⟩ := ea.eight hr
   obtain ⟨bb, ob, rfl, fb⟩ := eb.eight hr
   obtain ⟨b0, b1, b2, b3, b4, b5, b6, b7⟩ := r
   have FA1 := iH fa; have FB1 := iH fb
   obtain ⟨p0, p1, p2, p3, p4, p5, p6, p7⟩ := fa
   obtain ⟨q0, q1, q2, q3, q4, q5, q6, q7⟩ := fb
   simp only at p0 p1 p2 p3 p4 p5 p6 p7 q0 q1 q2 q3 q4 q5 q6 q7
   clear hr ea eb
   go_wp2_with fail
   go_quiet (fail)
   have KN := iH (HK.out.drewN nq)
   clear p0 p1 p2 p3 p4 p5 p6 p7 q0 q1 q2 q3 q4 q5 q6 q7
   generalize wr.drewN nq = wn at KN ⊢
   go_wp2
   go_roundg (n - (i + 1))
   case measure => omega
   case rel => exact ⟨i + 1, by go_num, by omega, by omega, KN⟩
  have x1 : ¬ (i : Int) < (n : Int) := by omega
  go_wp2
  go_ret
  exact ⟨rfl, HK.out⟩
theorem xqH {w : World} {g : Nat} {cs : Array Value} {T : TypeId} {fz : Nat × Nat} (h : w.heap[g]? = some (.cells cs T fz)) {us : List Value} (hl : us.length = cs.size) : (xqo w g 0 us).heap[g]? = some (.cells us.toArray T fz) := by
 obtain ⟨cs', h1, h2, h3⟩ := heap_putAll us w 0 cs h (by omega)
 rw [h1]
 have e : cs' = us.toArray := by
  apply Array.ext'
  rw [h3, List.take_zero, List.nil_append, Nat.zero_add, List.drop_eq_nil_of_le (by rw [Array.length_toList]; omega), List.append_nil]
 rw [e]
theorem xqr {a w : World} (h : Kept a w []) {g : Nat} (hg : a.heap.size <= g) (us : List Value) : Kept a (xqo w g 0 us) [] := putAll_kept us w 0 h (.inr hg)
theorem it_cells {w : World} {g : Nat} {u0 u1 u2 u3 u4 u5 u6 u7 u8 : Value} {T : TypeId} {fz : Nat × Nat} (h : w.heap[g]? = some (.cells #[u0, u1, u2, u3, u4, u5, u6, u7, u8] T fz)) :
 w.cell? ⟨g, 0, none⟩ = some u0 /\ w.cell? ⟨g, 1, none⟩ = some u1 /\ w.cell? ⟨g, 2, none⟩ = some u2 /\ w.cell? ⟨g, 3, none⟩ = some u3 /\ w.cell? ⟨g, 4, none⟩ = some u4 /\ w.cell? ⟨g, 5, none⟩ = some u5 /\ w.cell? ⟨g, 6, none⟩ = some u6 /\ w.cell? ⟨g, 7, none⟩ = some u7 /\ w.cell? ⟨g, 8, none⟩ = some u8 :=
 ⟨by rw [cell_of_row _ _ _ _ _ _ h]; rfl, by rw [cell_of_row _ _ _ _ _ _ h]; rfl, by rw [cell_of_row _ _ _ _ _ _ h]; rfl, by rw [cell_of_row _ _ _ _ _ _ h]; rfl, by rw [cell_of_row _ _ _ _ _ _ h]; rfl, by rw [cell_of_row _ _ _ _ _ _ h]; rfl, by rw [cell_of_row _ _ _ _ _ _ h]; rfl, by rw [cell_of_row _ _ _ _ _ _ h]; rfl, by rw [cell_of_row _ _ _ _ _ _ h]; rfl⟩
theorem adiL_all {P : It -> Prop} {l : List It} {e : Ev} {ow : ByteArray} {at' : Int} (h : ∀ x ∈ l, P x) (hx : P (addX e ow at')) : ∀ x ∈ adiL l e ow at', P x := by
 intro x hm
 unfold adiL at hm
 split at hm
 ·rcases (insG_mem _ _ _).1 hm with rfl | hm
  ·exact hx
  exact h x hm
 exact h x hm
abbrev riE : TypeId := 204
theorem Tryz.infoRi : (Tryz.prog.info? 204).map (fun i => (i.zero, i.size, i.bytes)) = some (some (.agg #[.int .i64 0, .int .i64 0, .int .i64 0, .string ⟨#[]⟩, .int .i64 0, .int .i64 0, .int .u8 0, .int .i64 0, .string ⟨#[]⟩]), 9, 88) := by kernel_rfl
variable {T : TypeId} {w w' : World} {B h oo : Nat} {RR : List Value} {V : Value} {l : List It}
def ChgR (T : TypeId) (w : World) (B h oo : Nat) (RR : List Value) (V : Value) (r : Value) (m : List It) (x : Ending) (w' : World) : Prop :=
 x = .returned r /\ ∃ V', Lo encIt T riE w' B h oo (RR.set oo V') V' m /\ Stp (xqJ h V) (xqJ h V') w w'
theorem ltI_1 {x y : It} (h : ¬ x.a = y.a) : ltI x y = decide (x.a < y.a) := by rw [ltI]; simp [h]
theorem ltI_2 {x y : It} (h : x.a = y.a) (k : ¬ x.e.id = y.e.id) : ltI x y = decide (x.e.id < y.e.id) := by rw [ltI]; simp [h, k]
theorem ltI_3 {x y : It} (h : x.a = y.a) (k : x.e.id = y.e.id) : ltI x y = Op.bytesLess x.e.ow.toList y.e.ow.toList := by rw [ltI, ltN]; simp [h, k]
theorem ahead_any (x y : It) (w : World) : Calls Tryz.prog 170 #[.agg (encIt.cs x), .agg (encIt.cs y)] w fun e w' => e = .returned (.bool (ltI x y)) /\ Kept w w' [] := by
 by_cases h1 : x.a = y.a
 ·by_cases h2 : x.e.id = y.e.id
  ·rw [ltI_3 h1 h2]
   obtain ⟨b0, ⟨b1, b2, b3, b4, b5, b6, b7, b8⟩⟩ := x
   obtain ⟨d0, ⟨d1, d2, d3, d4, d5, d6, d7, d8⟩⟩ := y
   simp only [encIt, It.cs] at *
   subst h1 h2
   go_enter Tryz.func170, Tryz.ntmps170
   go_wp2
   go_ret
   exact ⟨rfl, ((Kept.refl w []).alloc _).alloc _⟩
  rw [ltI_2 h1 h2]
  obtain ⟨b0, ⟨b1, b2, b3, b4, b5, b6, b7, b8⟩⟩ := x
  obtain ⟨d0, ⟨d1, d2, d3, d4, d5, d6, d7, d8⟩⟩ := y
  simp only [encIt, It.cs] at *
  subst h1
  have h2' : (b1 == d1) = false := beq_eq_false_iff_ne.2 h2
  obtain ⟨t, ht⟩ : ∃ t, t = decide (b1 < d1) := ⟨_, rfl⟩
  rw [<- ht]
  have HT := iH ht
  clear ht
  go_enter Tryz.func170, Tryz.ntmps170
  go_wp2
  go_ret
  rw [HT.out]
  exact ⟨rfl, ((Kept.refl w []).alloc _).alloc _⟩
 rw [ltI_1 h1]
 obtain ⟨b0, ⟨b1, b2, b3, b4, b5, b6, b7, b8⟩⟩ := x
 obtain ⟨d0, ⟨d1, d2, d3, d4, d5, d6, d7, d8⟩⟩ := y
 simp only [encIt, It.cs] at *
 have h1' : (b0 == d0) = false := beq_eq_false_iff_ne.2 h1
 obtain ⟨t, ht⟩ : ∃ t, t = decide (b0 < d0) := ⟨_, rfl⟩
 rw [<- ht]
 have HT := iH ht
 clear ht
 go_enter Tryz.func170, Tryz.ntmps170
 go_wp2
 go_ret
 rw [HT.out]
 exact ⟨rfl, ((Kept.refl w []).alloc _).alloc _⟩
theorem rdue_any (a : Lo encIt T riE w B h oo RR V l) (ok : OkI l) (now : Int) : Calls Tryz.prog 171 #[.pointer (some ⟨h, oo, none⟩), .int .i64 now] w fun e w' => ∃ v', e = .returned v' /\ OwnK encEv w' w.heap.size evT v' (evs (dueI l now)) /\ Kept w w' [] := by
 obtain ⟨i0, hi0, hz0, hz1, hz2⟩ := info_parts Tryz.infoEv
 obtain ⟨z, hz⟩ : ∃ z, z = w.heap.size := ⟨_, rfl⟩
 obtain ⟨u, c, e⟩ := a.shape
 have few := ok.few
 have A := iH a; have OK := iH ok; have EV := iH e; have HZ := iH hz
 clear a ok e hz
 go_enter Tryz.func171, Tryz.ntmps171
 go_wp2
 go_loopw [5, 6] (fun s5 s6 wr => ∃ (k : Nat) (ue : Option Addr) (ce : Nat), s6 = .int .i64 k /\ s5 = .slice ue k ce /\ k <= l.length /\ Hid (OwnK encEv wr z evT (.slice ue k ce) (evs (l.take k))) /\ Hid (∀ (j : Nat) (y : It), j < k -> l[j]? = some y -> y.a <= now) /\ Hid (Kept w wr [])) (fun _ s6 _ => l.length - (intOf s6).toNat)
 case atStart => exact ⟨0, none, 0, rfl, rfl, Nat.zero_le _, iH (OwnK.nil _ _ _), iH (fun j y hj => absurd hj (Nat.not_lt_zero _)), iH (Kept.refl w [])⟩
 case round =>
 obtain ⟨k, ue, ce, rfl, rfl, hk, OW, HX, K⟩ := hrel
 have a2 := A.out.keep K.out
 have c0 := a2.cell.1
 by_cases hlt : k < l.length
 ·obtain ⟨x, hx⟩ : ∃ x, l[k]? = some x := ⟨_, List.getElem?_eq_getElem hlt⟩
  obtain ⟨g, o, c', hv⟩ := a2.hit hx
  have o2 := a2.rd
  rw [hv] at o2 c0
  obtain ⟨q0, q1, q2, q3, q4, q5, q6, q7, q8⟩ := cellsR_r o2 hx
  rw [EV.out] at hv
  simp only [Value.slice.injEq] at hv
  obtain ⟨rfl, -, rfl⟩ := hv
  have x1 : (k : Int) < (l.length : Int) := by omega
  have HR := iH hx
  clear a2 o2 hx
  obtain ⟨b0, ⟨b1, b2, b3, b4, b5, b6, b7, b8⟩⟩ := x
  simp only at q0 q1 q2 q3 q4 q5 q6 q7 q8
  by_cases hd : b0 <= now
  ·have HD := iH hd
   have SRC := xqQ (E := encEv) (P := Tryz.prog) (t := evT) wr ⟨b1, b2, b3, b4, b5, b6, b7, b8⟩ (tx := 57) Tryz.underlying57
   simp only [encEv, Ev.cs] at SRC
   have SRC := iH SRC
   have k2 : Kept wr (wr.alloc (.cells #[.int .i64 b1, .int .i64 b2, .string b3, .int .i64 b4, .int .i64 b5, .int .u8 b6, .int .i64 b7, .string b8] evT)) [] := (Kept.refl wr []).alloc _
   have K2 := iH (K.out.trans k2 (by simp))
   have ET := iH (show (evs (l.take k)).length = k by rw [xq6, List.length_take]; omega)
   have OO := OW.out.keep k2
   unfold OwnK at OO
   rw [ET.out] at OO
   have OO := iH OO
   have HS := iH (show z <= (wr.alloc (.cells #[.int .i64 b1, .int .i64 b2, .string b3, .int .i64 b4, .int .i64 b5, .int .u8 b6, .int .i64 b7, .string b8] evT)).heap.size by have := K2.out.size; rw [HZ.out]; exact this)
   clear k2
   go_wp2_with (at_builtin; refine xqa _ rfl (.tmp 28) (.tmp 37) 57 57 rfl z evT i0 _ 8 80 Tryz.underlying57 hi0 hz0 hz1 hz2 rfl (.slice ue k ce) k (kcs encEv (evs (l.take k))) rfl OO.out (.slice (some ⟨wr.heap.size, 0, none⟩) 1 1) 1 _ rfl SRC.out (by unfold maxLen; omega) (by omega) HS.out ?nexta)
   case nexta =>
   intro v4 w4 hown _ hgrow _
   have o4 : OwnK encEv w4 z evT v4 (evs (l.take (k + 1))) := by
    rw [evs_snoc HR.out]
    unfold OwnK
    rw [xqi, xqz, List.length_append, ET.out]
    exact hown
   have k4 : Kept w w4 [] := K2.out.grown hgrow (fun k hk => .inr (by have := (World.ownsRow.lt OO.out k hk).1; rw [HZ.out] at this; exact this))
   obtain ⟨u4, c4, e4⟩ := o4.shape
   have hl4 : (evs (l.take (k + 1))).length = k + 1 := by rw [xq6, List.length_take]; omega
   rw [hl4] at e4
   subst e4
   have O4 := iH o4; have K4 := iH k4
   clear hown hgrow o4 k4 hl4
   go_wp2
   go_roundw
   case rel =>
    refine ⟨k + 1, u4, c4, by go_num, rfl, by omega, O4, iH (fun j y hj hy => ?_), K4⟩
    by_cases ej : j = k
    ·subst ej
     rw [HR.out] at hy
     cases hy
     exact HD.out
    exact HX.out j y (by omega) hy
   case measure => simp [intOf]; omega
  have R := iH (due_here OK.out hk HX.out (fun y hy => by rw [HR.out] at hy; cases hy; exact hd))
  have hd2 : decide (b0 <= now) = false := decide_eq_false hd
  go_wp2
  go_ret
  rw [<- R.out, <- HZ.out]
  exact ⟨_, rfl, OW.out, K.out⟩
 rw [EV.out] at c0
 have x1 : ¬ (k : Int) < (l.length : Int) := by omega
 have R := iH (due_here OK.out hk HX.out (fun y hy => by have := (List.getElem?_eq_some_iff.1 hy).1; omega))
 clear a2
 go_wp2
 go_ret
 rw [<- R.out, <- HZ.out]
 exact ⟨_, rfl, OW.out, K.out⟩
theorem rtake_any (a : Lo encIt T riE w B h oo RR V l) (ok : OkI l) (now : Int) : Calls Tryz.prog 126 #[.pointer (some ⟨h, oo, none⟩), .int .i64 now] w fun e w' => ∃ v', e = .returned v' /\ OwnK encEv w' w.heap.size evT v' (evs (dueI l now)) /\ ∃ V', Lo encIt T riE w' B h oo (RR.set oo V') V' (lftI l now) /\ Stp (xqJ h V) (xqJ h V') w w' := by
 have DU := iH (rdue_any a ok now)
 have few := ok.few
 have DT := iH (due_take ok.rise now)
 have DL := iH (show (dueI l now).length <= l.length from List.length_filter_le _ _)
 obtain ⟨n, hn⟩ : ∃ n, n = (dueI l now).length := ⟨_, rfl⟩
 rw [<- hn] at DT DL
 have A := iH a; have HN := iH hn
 clear a ok hn
 go_enter Tryz.func126, Tryz.ntmps126
 go_wp2_with fail
 refine DU.out.mono ?_
 rintro e w2 ⟨v, rfl, o, k⟩
 have a2 := A.out.keep k
 obtain ⟨uv, cv, ev⟩ := o.shape
 rw [xq6, <- HN.out] at ev
 subst ev
 have hnl : n <= l.length := DL.out
 obtain ⟨uV, cV, eV⟩ := a2.shape
 have v2 := a2.cell.1
 have hvh := fun (hk1 : (Value.slice uv n cv).ownBlock = some h) => (show False by have := (o.lt _ hk1).1; have := (A.out.lt _ (.inl rfl)).2; omega)
 have HVH := iH hvh; have OV := iH o; have K := iH k; have A2 := iH a2
 have EV := iH eV
 have rd2 := a2.rd
 have hcap := (show RdK encIt w2 (.slice uV l.length cV) l by rw [<- eV]; exact rd2).cap.2
 rw [eV] at v2 rd2
 have RD := iH rd2
 have fin : ∀ v3, RdK encIt w2 v3 (lftI l now) -> (∀ k, v3.ownBlock = some k -> V.ownBlock = some k) -> OwnK encEv (w2.setCell ⟨h, oo, none⟩ v3) w.heap.size evT (.slice uv n cv) (evs (dueI l now)) /\ Lo encIt T riE (w2.setCell ⟨h, oo, none⟩ v3) B h oo (RR.set oo v3) v3 (lftI l now) /\ Stp (xqJ h V) (xqJ h v3) w (w2.setCell ⟨h, oo, none⟩ v3) := fun v3 r3 hv3 => by
  obtain ⟨-, a3, s3⟩ := A2.out.lay (Kept.refl w2 []) r3 (fun k hk => A2.out.tag k (hv3 k hk)) (fun k hk => .inl (hv3 k hk))
  exact ⟨OV.out.fo (Fo.setCell (O := fun k => k = h) (Fo.refl _ w2) (p := ⟨h, oo, none⟩) (.inl rfl) v3) (fun k1 hk1 hk2 => HVH.out (by rw [<- hk2]; exact hk1)), a3, s3.afterK K.out⟩
 have FIN := iH fin
 have f2 := a2.cell.2
 clear a2 o k hvh eV rd2 fin
 rcases id RD.out with ⟨uV', cV', eV', hcV, huV, hcell⟩
 simp only [Value.slice.injEq, true_and] at eV'
 obtain ⟨rfl, rfl⟩ := eV'
 cases uV with
 | none =>
 obtain rfl := huV rfl
 have hl0 : l.length = 0 := by omega
 have hn0 : n = 0 := by omega
 subst hn0
 have LE := iH (show lftI l now = [] by rw [<- DT.out.2, List.drop_zero]; exact List.eq_nil_of_length_eq_zero hl0)
 have F3 := iH (FIN.out (.slice none 0 0) (by rw [LE.out]; exact RdK.nil _) (by simp [Value.ownBlock]))
 rw [hl0] at v2
 clear hcell huV hcV
 go_wp2
 go_ret
 exact ⟨_, rfl, F3.out.1, _, F3.out.2.1, F3.out.2.2⟩
 | some ad =>
 by_cases hl : l = []
 ·obtain ⟨g, o, sp⟩ := ad
  have hl0 : l.length = 0 := by rw [hl]; rfl
  have hn0 : n = 0 := by omega
  subst hn0
  have LE := iH (show lftI l now = [] by rw [<- DT.out.2, List.drop_zero]; exact hl)
  have F3 := iH (fun o' c' (hc' : (some (⟨g, o', sp⟩ : Addr)) = none -> c' = 0) => FIN.out (.slice (some ⟨g, o', sp⟩) 0 c') (by rw [LE.out]; exact RdK.no _ _ _ hc') (fun k hk => by rw [EV.out]; exact hk))
  rw [hl0] at v2
  clear hcell huV hcV hl
  by_cases hc : cV = 0
  ·subst hc
   have F4 := iH (F3.out o 0 (fun h => by cases h))
   go_wp2
   go_ret
   exact ⟨_, rfl, F4.out.1, _, F4.out.2.1, F4.out.2.2⟩
  have F4 := iH (F3.out o cV (fun h => by cases h))
  go_wp2
  go_ret
  exact ⟨_, rfl, F4.out.1, _, F4.out.2.1, F4.out.2.2⟩
 obtain ⟨g, o, hsp⟩ : ∃ g o, ad = ⟨g, o, none⟩ := by
  obtain ⟨b, o, e, _⟩ := hcell hl
  simp only [Option.some.injEq] at e
  exact ⟨b, o, e⟩
 subst hsp
 have hOB := fun (o' n' c' : Nat) (k : Nat) (hk : (Value.slice (some ⟨g, o', none⟩) n' c').ownBlock = some k) => (show V.ownBlock = some k by rw [EV.out]; exact hk)
 have z1 : (n : Int) <= (l.length : Int) := by omega
 have z2 : (n : Int) <= (cV : Int) := by omega
 have z5 : n <= cV := by omega
 by_cases hc : cV = n
 ·have hll : l.length = n := by omega
  subst hc
  have LE := iH (show lftI l now = [] by rw [<- DT.out.2]; exact List.drop_eq_nil_of_le (by omega))
  have F3 := iH (FIN.out (.slice (some ⟨g, o, none⟩) 0 0) (by rw [LE.out]; exact RdK.no _ _ _ (fun h => by cases h)) (hOB _ _ _))
  rw [hll] at v2
  clear hcell huV hcV hOB hcap
  go_wp2
  go_ret
  exact ⟨_, rfl, F3.out.1, _, F3.out.2.1, F3.out.2.2⟩
 have F3 := iH (FIN.out (.slice (some ⟨g, o + n * 9, none⟩) (l.length - n) (cV - n)) (by rw [<- DT.out.2]; exact RD.out.drop hnl) (hOB _ _ _))
 clear hcell huV hcV hOB hcap
 go_wp2
 go_ret
 exact ⟨_, rfl, F3.out.1, _, F3.out.2.1, F3.out.2.2⟩
theorem drp_snoc {k : Nat} {x : It} (ow : ByteArray) (hx : l[k]? = some x) : drpI (l.take (k + 1)) ow = if x.e.ow.toList == ow.toList then drpI (l.take k) ow else drpI (l.take k) ow ++ [x] := by
 obtain ⟨hk, rfl⟩ := List.getElem?_eq_some_iff.1 hx
 rw [drpI, List.take_succ_eq_append_getElem hk, List.filter_append]
 cases hc : (l[k].e.ow.toList == ow.toList) with
 | true => rw [List.filter_cons_of_neg (by simp [hc])]; simp [drpI]
 | false => rw [List.filter_cons_of_pos (by simp [hc])]; simp [drpI]
theorem rdrop_any (a : Lo encIt T riE w B h oo RR V l) (ok : OkI l) (ow : ByteArray) : Calls Tryz.prog 118 #[.pointer (some ⟨h, oo, none⟩), .string ow] w (ChgR T w B h oo RR V (.int .i64 ((l.length : Int) - (drpI l ow).length)) (drpI l ow)) := by
 obtain ⟨i0, hi0, hz0, hz1, hz2⟩ := info_parts Tryz.infoRi
 obtain ⟨z, hz⟩ : ∃ z, z = w.heap.size := ⟨_, rfl⟩
 obtain ⟨u, c, e⟩ := a.shape
 have few := ok.few
 obtain ⟨m, hm⟩ : ∃ m, m = (drpI l ow).length := ⟨_, rfl⟩
 have hml : m <= l.length := by rw [hm]; exact List.length_filter_le _ _
 rw [<- hm]
 have A := iH a; have EV := iH e; have HZ := iH hz; have HM := iH hm
 clear a ok e hz hm
 go_enter Tryz.func118, Tryz.ntmps118
 go_wp2
 go_loopw [5, 6] (fun s5 s6 wr => ∃ (k p : Nat) (ue : Option Addr) (ce : Nat), s6 = .int .i64 k /\ s5 = .slice ue p ce /\ k <= l.length /\ p <= k /\ Hid (OwnK encIt wr z riE (.slice ue p ce) (drpI (l.take k) ow) /\ p = (drpI (l.take k) ow).length) /\ Hid (Kept w wr [])) (fun _ s6 _ => l.length - (intOf s6).toNat)
 case atStart => exact ⟨0, 0, none, 0, rfl, rfl, Nat.zero_le _, Nat.le_refl _, iH ⟨OwnK.nil _ _ _, rfl⟩, iH (Kept.refl w [])⟩
 case round =>
 obtain ⟨k, p, ue, ce, rfl, rfl, hk, hpk, OW, K⟩ := hrel
 have a2 := A.out.keep K.out
 have c0 := a2.cell.1
 by_cases hlt : k < l.length
 ·obtain ⟨x, hx⟩ : ∃ x, l[k]? = some x := ⟨_, List.getElem?_eq_getElem hlt⟩
  obtain ⟨g, o, c', hv⟩ := a2.hit hx
  have o2 := a2.rd
  rw [hv] at o2 c0
  obtain ⟨q0, q1, q2, q3, q4, q5, q6, q7, q8⟩ := cellsR_r o2 hx
  rw [EV.out] at hv
  simp only [Value.slice.injEq] at hv
  obtain ⟨rfl, -, rfl⟩ := hv
  have x1 : (k : Int) < (l.length : Int) := by omega
  have SN := iH (drp_snoc ow hx)
  clear a2 o2 hx
  obtain ⟨b0, ⟨b1, b2, b3, b4, b5, b6, b7, b8⟩⟩ := x
  simp only at q0 q1 q2 q3 q4 q5 q6 q7 q8 SN
  cases hd : (b3.toList == ow.toList) with
  | true =>
  rw [hd, if_pos rfl] at SN
  have O4 := iH (show OwnK encIt wr z riE (.slice ue p ce) (drpI (l.take (k + 1)) ow) /\ p = (drpI (l.take (k + 1)) ow).length by rw [SN.out]; exact OW.out)
  go_wp2
  go_roundw
  case rel => exact ⟨k + 1, p, ue, ce, by go_num, rfl, by omega, by omega, O4, K⟩
  case measure => simp [intOf]; omega
  | false =>
  rw [hd, if_neg (by decide)] at SN
  have SRC := xqQ (E := encIt) (P := Tryz.prog) (t := riE) wr ⟨b0, ⟨b1, b2, b3, b4, b5, b6, b7, b8⟩⟩ (tx := 79) Tryz.underlying79
  simp only [encIt, It.cs] at SRC
  have SRC := iH SRC
  have k2 : Kept wr (wr.alloc (.cells #[.int .i64 b0, .int .i64 b1, .int .i64 b2, .string b3, .int .i64 b4, .int .i64 b5, .int .u8 b6, .int .i64 b7, .string b8] riE)) [] := (Kept.refl wr []).alloc _
  have K2 := iH (K.out.trans k2 (by simp))
  have ET := iH OW.out.2.symm
  have OO := OW.out.1.keep k2
  unfold OwnK at OO
  rw [ET.out] at OO
  have OO := iH OO
  have HS := iH (show z <= (wr.alloc (.cells #[.int .i64 b0, .int .i64 b1, .int .i64 b2, .string b3, .int .i64 b4, .int .i64 b5, .int .u8 b6, .int .i64 b7, .string b8] riE)).heap.size by have := K2.out.size; rw [HZ.out]; exact this)
  clear k2
  go_wp2_with (at_builtin; refine xqa _ rfl (.tmp 28) (.tmp 36) 79 79 rfl z riE i0 _ 9 88 Tryz.underlying79 hi0 hz0 hz1 hz2 rfl (.slice ue p ce) p (kcs encIt (drpI (l.take k) ow)) rfl OO.out (.slice (some ⟨wr.heap.size, 0, none⟩) 1 1) 1 _ rfl SRC.out (by unfold maxLen; omega) (by omega) HS.out ?nexta)
  case nexta =>
  intro v4 w4 hown _ hgrow _
  have o4 : OwnK encIt w4 z riE v4 (drpI (l.take (k + 1)) ow) := by
   rw [SN.out]
   unfold OwnK
   rw [xqi, xqz, List.length_append, ET.out]
   exact hown
  have k4 : Kept w w4 [] := K2.out.grown hgrow (fun k hk => .inr (by have := (World.ownsRow.lt OO.out k hk).1; rw [HZ.out] at this; exact this))
  obtain ⟨u4, c4, e4⟩ := o4.shape
  have hl4 : (drpI (l.take (k + 1)) ow).length = p + 1 := by rw [SN.out, List.length_append, ET.out]; rfl
  rw [hl4] at e4
  subst e4
  have O4 := iH (And.intro o4 hl4.symm); have K4 := iH k4
  clear hown hgrow o4 k4 hl4
  go_wp2
  go_roundw
  case rel => exact ⟨k + 1, p + 1, u4, c4, by go_num, rfl, by omega, by omega, O4, K4⟩
  case measure => simp [intOf]; omega
 rw [EV.out] at c0
 have x1 : ¬ (k : Int) < (l.length : Int) := by omega
 obtain rfl : k = l.length := by omega
 have ow1 := OW.out
 rw [List.take_length, <- HM.out] at ow1
 obtain ⟨ow1, rfl⟩ := ow1
 have e9 : wrap64 ((l.length : Int) - p) = (l.length : Int) - p := by unfold wrap64; omega
 obtain ⟨⟨d4, f4⟩, a5, s5⟩ := A.out.layNew K.out (by rw [<- HZ.out]; exact ow1)
 rw [EV.out] at d4
 have A5 := iH a5; have S5 := iH s5
 clear a2 ow1 a5 s5 d4
 go_wp2
 go_ret
 exact ⟨rfl, _, A5.out, S5.out⟩
end Go.Proofs.YticiofkiffgclaaGreat
