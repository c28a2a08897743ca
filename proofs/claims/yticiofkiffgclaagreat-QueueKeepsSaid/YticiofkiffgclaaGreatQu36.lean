/-
  Zrd in one text.
-/
import Derived.Test.YticiofkiffgclaaGreatQu0
import Derived.Test.YticiofkiffgclaaGreatQu35
set_option linter.unusedVariables false
set_option maxHeartbeats 16000000
set_option maxRecDepth 100000
namespace Go.Proofs.YticiofkiffgclaaGreat
open Go.RowKit
variable {w w' : World} {B h m : Nat} {st : List Nat} {q : Qs} {O : Nat -> Prop}
def MdS (w wr : World) (B h m : Nat) (st : List Nat) (O : Nat -> Prop) (q : Qs) (now x : Int) (L : List Ev) (v : Value) (zb : Nat) (out : Value) (i : Nat) : Prop :=
 OwnK encEv wr w.heap.size evT v L /\ OwnK encEv wr zb evT out ((L.take i).map (setTx x)) /\ ∃ O', DS wr B h m st (mkQ q now ((L.take i).map (setTx x))) O' /\ Stp O O' w wr /\ (∀ g, v.ownBlock = some g -> ¬ O' g) /\ ∀ g, out.ownBlock = some g -> ¬ O' g
theorem snoc_ev {w4 : World} {base : Nat} {v4 : Value} {ss : List Ev} {x : Ev} (hn : w4.ownsRow base evT 8 v4 (ss.length + 1) (kcs encEv ss ++ (encEv.cs x).toList)) : OwnK encEv w4 base evT v4 (ss ++ [x]) := by
 unfold OwnK
 rw [xqi, xqz, List.length_append]
 exact hn
theorem dmnt_any (s : DS w B h m st q O) {k : Nat} (z : SzQ k q) (hk : k <= 1000) (x now : Int) : Calls Tryz.prog 65 #[.pointer (some ⟨h, 0, none⟩), .int .i64 x, .int .i64 now] w fun e w' => ∃ v', e = .returned v' /\ OwnK encEv w' w.heap.size evT v' (mntV q x now) /\ DPost w B h m st O (mntQ q x now) w' := by
 obtain ⟨i0, hi0, hz0, hz1, hz2⟩ := info_parts Tryz.infoEv
 have HL := iH (mntV_len z x now)
 have TB := iH (z.table z.ok.c3)
 have HK := iH hk
 have S := iH s
 obtain ⟨d, v, xs, kq, e0, e1, e2, e3, rfl⟩ := s.ex
 have TK := iH (rtake_any kq.dq.retries z.oki now)
 obtain ⟨L, hL⟩ : ∃ L, L = evs (dueI q.rs now) := ⟨_, rfl⟩
 have RV : RowKit.Hid (mntV q x now = L.map (setTx x)) := iH (by rw [hL]; rfl)
 rw [<- hL] at TK
 have KQ := iH kq; have E0' := iH e0; have E1 := iH e1; have E2 := iH e2; have E3 := iH e3
 have hl16 : L.length <= 16 := by have := HL.out; rw [RV.out, List.length_map] at this; exact this
 have C3 := iH z.ok.c3
 clear s z hk kq e0 e1 e2 e3 hL HL
 go_enter Tryz.func65, Tryz.ntmps65
 go_wp2_with fail
 refine TK.out.mono ?_
 rintro e w2 ⟨v, rfl, ov, VR', h1, h3⟩
 obtain ⟨k2, t2⟩ := KQ.out.dq.ofRetries h1 h3
 have NG : ∀ g, v.ownBlock = some g -> ¬ xqI h { d with VR := VR' } g := by
  intro g hg hf
  have hge := (ov.lt g hg).1
  obtain ⟨cur, hc⟩ := ov.tag hg
  rcases hf with hf | hf | hf | hf
  ·have := (KQ.out.dq.lt g (.inl hf)).2; omega
  ·obtain ⟨c2, hc2⟩ := k2.types.2.1 hf
   exact absurd (xqA hc2 hc) (by decide)
  ·obtain ⟨c2, hc2⟩ := k2.types.2.2.1 hf
   exact absurd (xqA hc2 hc) (by decide)
  obtain ⟨c2, hc2⟩ := k2.types.2.2.2 hf
  exact absurd (xqA hc2 hc) (by decide)
 have k2' : Dq rqT w2 B h { d with VR := VR' } (mkQ q now []).l xs (mkQ q now []).cs (mkQ q now []).rs := by rw [mkQ_nil]; exact k2
 obtain ⟨uu, cc, hv⟩ := ov.shape
 obtain ⟨zb, hzb⟩ : ∃ zb, zb = w2.heap.size := ⟨_, rfl⟩
 have M0 : RowKit.Hid (MdS w w2 B h m st (xqI h d) q now x L v zb (.slice none 0 0) 0) := iH ⟨ov, OwnK.nil _ _ _, xqI h { d with VR := VR' }, ⟨{ d with VR := VR' }, _, xs, KQ.out.step k2' t2 rfl, E0'.out, E1.out, E2.out, E3.out, rfl⟩, t2, NG, fun g hg => by simp [Value.ownBlock] at hg⟩
 have WZ := iH (show w.heap.size <= zb by rw [hzb]; exact t2.1.size)
 have HZB := iH hzb
 obtain ⟨n, hn⟩ : ∃ n, n = L.length := ⟨_, rfl⟩
 have HN := iH hn
 have LT : RowKit.Hid (∀ g, v.ownBlock = some g -> g < zb) := iH (fun g hg => by rw [hzb]; exact (ov.lt g hg).2)
 rw [<- hn] at hv hl16
 subst hv
 clear ov h1 h3 k2 k2' t2 NG hn hzb
 go_wp2
 go_loopw [8, 9, 10] (fun s8 s9 _ wr => ∃ (i : Nat) (ue : Option Addr) (ce : Nat), s9 = .int .i64 i /\ s8 = .slice ue i ce /\ i <= n /\ RowKit.Hid (MdS w wr B h m st (xqI h d) q now x L (.slice uu n cc) zb (.slice ue i ce) i) /\ RowKit.Hid (zb <= wr.heap.size)) (fun _ s9 _ _ => n - (intOf s9).toNat)
 case atStart => exact ⟨0, none, 0, rfl, rfl, Nat.zero_le _, M0, iH (by rw [HZB.out]; exact Nat.le_refl _)⟩
 case round =>
 obtain ⟨i, ue, ce, rfl, rfl, hi, MS, ZR⟩ := hrel
 by_cases hlt : i < n
 ·have x1 : (i : Int) < (n : Int) := by omega
  obtain ⟨e, he⟩ : ∃ e, L[i]? = some e := ⟨_, List.getElem?_eq_getElem (by rw [<- HN.out]; exact hlt)⟩
  obtain ⟨o1, o2, O', s1, t1, n1, n2⟩ := MS.out
  have o1e := ownE_iff.2 o1
  obtain ⟨g, c', cur, hv, hge, hgc, hcel⟩ := o1e.hit he
  simp only [Value.slice.injEq] at hv
  obtain ⟨rfl, -, -⟩ := hv
  have ht : ((L.take i).map (setTx x)).length = i := by rw [List.length_map, List.length_take, <- HN.out]; omega
  obtain ⟨mi, hmi⟩ : ∃ mi, mi = (L.take i).map (setTx x) := ⟨_, rfl⟩
  rw [<- hmi] at o2 ht
  have HE := iH he; have HT := iH ht; have HMI := iH hmi
  clear hmi
  obtain ⟨p0, p1, p2, p3, p4, p5, p6, p7⟩ := hcel wr rfl
  obtain ⟨y0, y1, y2, y3, y4, y5, y6, y7⟩ := e
  simp only at p0 p1 p2 p3 p4 p5 p6 p7
  obtain ⟨ze, hze⟩ : ∃ ze, ze = wr.heap.size := ⟨_, rfl⟩
  obtain ⟨W3, hW3⟩ : ∃ W3, W3 = wr.alloc (.cells #[.int .i64 y0, .int .i64 y1, .string y2, .int .i64 y3, .int .i64 y4, .int .u8 y5, .int .i64 y6, .string y7] 50) := ⟨_, rfl⟩
  have k3 : Kept wr W3 [] := by rw [hW3]; exact (Kept.refl wr []).alloc _
  have g3 : W3.heap[ze]? = some (.cells #[.int .i64 y0, .int .i64 y1, .string y2, .int .i64 y3, .int .i64 y4, .int .u8 y5, .int .i64 y6, .string y7] 50 (0, 0)) := by rw [hW3, hze]; exact heap_alloc_new wr _
  obtain ⟨w4, hw4⟩ : ∃ w4, w4 = W3.setCell ⟨ze, 1, none⟩ (.int .i64 x) := ⟨_, rfl⟩
  have k4 : Kept wr w4 [] := by rw [hw4]; exact k3.setCell (p := ⟨ze, 1, none⟩) (.inr (by rw [hze]; exact Nat.le_refl _)) _
  have g4 : w4.heap[ze]? = some (.cells #[.int .i64 y0, .int .i64 x, .string y2, .int .i64 y3, .int .i64 y4, .int .u8 y5, .int .i64 y6, .string y7] 50 (0, 0)) := by rw [hw4, xqb g3]; rfl
  have f31 : W3.frozen? ⟨ze, 1, none⟩ = false := frozen_of_row _ _ _ _ _ g3
  obtain ⟨c30, c31, c32, c33, c34, c35, c36, c37⟩ := xqm g3
  have S1 := iH (s1.keep k4); have O1 := iH (o1.keep k4); have O2 := iH (o2.keep k4); have T1 := iH t1; have N1 := iH n1; have N2 := iH n2; have SR := iH s1
  have K4 := iH k4; have G4 := iH g4; have HW3 := iH hW3; have HW4 := iH hw4; have HZE := iH hze
  have O2R := iH o2
  clear o1 o2 s1 t1 n1 n2 o1e hgc hcel hge he ht k3 g3 k4 g4 hW3 hw4 hze
  go_upto_region 7 with fail
  rw [<- HW3.out, <- HZE.out]
  clear p0 p1 p2 p3 p4 p5 p6 p7
  go_upto_region 8 with fail
  rw [<- HW4.out]
  clear c30 c31 c32 c33 c34 c35 c36 c37 f31
  obtain ⟨c40, c41, c42, c43, c44, c45, c46, c47⟩ := xqm G4.out
  obtain ⟨w5, hw5⟩ : ∃ w5, w5 = w4.alloc (.cells #[.int .i64 y0, .int .i64 x, .string y2, .int .i64 y3, .int .i64 y4, .int .u8 y5, .int .i64 y6, .string y7] 50) := ⟨_, rfl⟩
  have k5 : Kept w4 w5 [] := by rw [hw5]; exact (Kept.refl w4 []).alloc _
  have SRC := xqQ (E := encEv) (P := Tryz.prog) (t := evT) w4 ⟨y0, x, y2, y3, y4, y5, y6, y7⟩ (tx := 57) Tryz.underlying57
  simp only [encEv, Ev.cs] at SRC
  have SRC := iH SRC
  have OO := O2.out.keep k5
  unfold OwnK at OO
  rw [HT.out] at OO
  have ZW := iH (show zb <= w5.heap.size by have := (K4.out.trans k5 (by simp)).size; have := ZR.out; omega)
  have K5 := iH k5; have HW5 := iH hw5
  rw [hw5] at OO ZW
  have OO := iH OO
  clear k5 hw5
  go_wp2_with (at_builtin; refine xqa _ rfl (.tmp 28) (.tmp 30) 57 57 rfl zb evT i0 _ 8 80 Tryz.underlying57 hi0 hz0 hz1 hz2 rfl (.slice ue i ce) i (kcs encEv mi) rfl OO.out (.slice (some ⟨w4.heap.size, 0, none⟩) 1 1) 1 _ rfl SRC.out (by unfold maxLen; omega) (by omega) ZW.out ?nexta)
  case nexta =>
  intro v6 w6 hown _ hgrow hown2
  rw [<- HW5.out] at hgrow
  have o6 : OwnK encEv w6 zb evT v6 ((L.take (i + 1)).map (setTx x)) := by
   rw [yqi x HE.out, <- HMI.out]
   refine snoc_ev (x := setTx x ⟨y0, y1, y2, y3, y4, y5, y6, y7⟩) ?_
   rw [HT.out]
   exact hown
  have fg : Fo (fun k => (Value.slice ue i ce).ownBlock = some k) w5 w6 := (Fo.refl _ w5).grown hgrow (fun k hk => .inl hk)
  have tg : ∀ k, (Value.slice ue i ce).ownBlock = some k -> ∃ cur, w5.heap[k]? = some (.cells cur evT (0, 0)) := fun k hk => (O2.out.keep K5.out).tag hk
  have ng : NoI w5 (fun k => (Value.slice ue i ce).ownBlock = some k) := fun k hk c2 f2 h2 => by
   obtain ⟨cur, hc⟩ := tg k hk
   exact absurd (xqA hc h2) (by decide)
  have nt : NoT w5 (fun k => (Value.slice ue i ce).ownBlock = some k) rts := fun k hk c2 t2 f2 h2 => by
   obtain ⟨cur, hc⟩ := tg k hk
   rw [<- xqA hc h2]; decide
  have s6 := (S1.out.keep K5.out).fo fg (fun k hk e => N2.out k e hk) ng nt
  have ob : ∀ b, v6.ownBlock = some b -> ¬ O' b := fun b hb hO => by
   rcases hown2 with h | ⟨g2, h, hg2⟩
   ·rw [h] at hb; exact N2.out b hb hO
   ·rw [h] at hb; cases hb
    have := (SR.out.lt _ hO).2
    have h5 := K4.out.size
    have h6 : w4.heap.size <= b := by first | omega | (simp at hg2; omega)
    omega
  have nzb : (Value.slice ue i ce).ownBlock ≠ some ze := fun e => by have := (O2R.out.lt ze e).2; have := HZE.out; omega
  have gz6 : w6.heap[ze]? = some (.cells #[.int .i64 y0, .int .i64 x, .string y2, .int .i64 y3, .int .i64 y4, .int .u8 y5, .int .i64 y6, .string y7] 50 (0, 0)) := fg.heap nzb (K5.out.heap (by simp) G4.out)
  have o16 : OwnK encEv w6 w.heap.size evT (.slice (some ⟨g, 0, none⟩) n cc) L := (O1.out.keep K5.out).fo fg (fun b hb e => by
   have h1 := (O2.out.lt b e).1
   have h2 := LT.out b hb
   omega)
  obtain ⟨u6, c6, e6⟩ := o6.shape
  rw [List.length_map, List.length_take, <- HN.out, Nat.min_eq_left (by omega)] at e6
  subst e6
  obtain ⟨d6, v66, xs6, kq6, e60, e61, e62, e63, hO6⟩ := s6.ex
  have t6 : Stp (xqI h d) O' w w6 := ⟨(T1.out.1.trans (Fo.ofKept (K4.out.trans K5.out (by simp)) _)).far fg (fun k hk => by have := (O2R.out.lt k hk).1; have := WZ.out; omega), T1.out.2⟩
  have TL : (upd q.l q.c (q.l q.c ++ (L.take i).map (setTx x)) d6.c).length < 1000000 := by
   rw [show d6.c = q.c from e60, xqL, List.length_append, List.length_map, List.length_take]
   have := TB.out; have := HK.out; omega
  have KD : RowKit.Hid (Kept w6 w6.drew []) := iH (Kept.refl w6 []).drew
  have AD := iH (raddto_any (kq6.dq.keep KD.out).spools d6.c kq6.dq.c3 TL ⟨y0, x, y2, y3, y4, y5, y6, y7⟩)
  simp only [Ev.cs] at AD
  have S6 := iH (And.intro (show w6.drew.cell? ⟨h, 4, none⟩ = some (.int .i64 (d6.c : Int)) from ((kq6.dq.keep KD.out).cell (i := 4) rfl).1) (KD.out.heap (by simp) gz6))
  have KQ6 := iH kq6; have E60 := iH e60; have E61 := iH e61; have E62 := iH e62; have E63 := iH e63; have HO6 := iH hO6; have T6 := iH t6; have O16 := iH o16; have O6 := iH o6; have OB := iH ob
  have NZ : RowKit.Hid (¬ xqI h d6 ze) := iH (fun hk => by rw [<- hO6] at hk; have := (SR.out.lt ze hk).2; have := HZE.out; omega)
  have Z6 := iH (show zb <= w6.heap.size by have := fg.size; rw [HW5.out] at this; have := ZW.out; omega)
  clear hown hgrow hown2 o6 fg tg ng nt s6 ob nzb gz6 o16 kq6 e60 e61 e62 e63 hO6 t6 TL c40 c41 c42 c43 c44 c45 c46 c47
  go_upto_region 9 with fail
  refine wp_region_held_drew (S := fun Z => Z.cell? ⟨h, 4, none⟩ = some (.int .i64 (d6.c : Int)) /\ Z.heap[ze]? = some (.cells #[.int .i64 y0, .int .i64 x, .string y2, .int .i64 y3, .int .i64 y4, .int .u8 y5, .int .i64 y6, .string y7] 50 (0, 0))) (by kernel_rfl) S6.out (fun hJ => ?_)
  refine wx 0 32 (.pointer (some ⟨h, 0, none⟩)) rfl hJ ?_
  refine wx 1 33 (.pointer (some ⟨h, 0, none⟩)) rfl hJ ?_
  refine wx 2 34 (.pointer (some ⟨h, 1, none⟩)) rfl hJ ?_
  refine wx 3 35 (.pointer (some ⟨h, 0, none⟩)) rfl hJ ?_
  refine wx 4 36 (.pointer (some ⟨h, 0, none⟩)) rfl hJ ?_
  refine wx 5 37 (.pointer (some ⟨h, 1, none⟩)) rfl hJ ?_
  refine wx 6 38 (.pointer (some ⟨h, 4, none⟩)) rfl hJ ?_
  refine wx 7 39 (.int .i64 (d6.c : Int)) rfl hJ ?_ (hy := fun V hV => by (have q0 := hV.1; clear hV; go_simp))
  refine wx 8 40 (.agg #[.int .i64 y0, .int .i64 x, .string y2, .int .i64 y3, .int .i64 y4, .int .u8 y5, .int .i64 y6, .string y7]) rfl hJ ?_ (hy := fun V hV => by (obtain ⟨q0, q1, q2, q3, q4, q5, q6, q7⟩ := xqm hV.2; clear hV; go_simp))
  refine wr1 9 rfl (fun K hK => ?_)
  go_simp
  go_at_call 112
  refine (AD.out).mono ?_
  rintro r w7 ⟨rfl, V9, h1, h3⟩
  obtain ⟨k7, t7⟩ := (KQ6.out.dq.keep KD.out).ofSpools h1 h3
  have S7 := iH (And.intro (show w7.cell? ⟨h, 4, none⟩ = some (.int .i64 (d6.c : Int)) from (k7.cell (i := 4) rfl).1) (t7.1.heap NZ.out S6.out.2))
  have k7' : Dq rqT w7 B h { d6 with V := V9, c := d6.c } (mkQ q now ((L.take (i + 1)).map (setTx x))).l xs6 (mkQ q now ((L.take (i + 1)).map (setTx x))).cs (mkQ q now ((L.take (i + 1)).map (setTx x))).rs := by (rw [yqi x HE.out]; show Dq rqT w7 B h { d6 with V := V9, c := d6.c } (upd q.l q.c (q.l q.c ++ ((L.take i).map (setTx x) ++ [setTx x ⟨y0, y1, y2, y3, y4, y5, y6, y7⟩]))) xs6 q.cs (lftI q.rs now); rw [<- upd_upd]; have hc := E60.out; have h9 := k7; rw [show (({ d6 with V := V9, c := d6.c } : Dv)) = { d6 with V := V9, c := d6.c } from rfl] at h9; revert h9; rw [show d6.c = q.c from hc]; exact fun h9 => h9)
  have s7 : DS w7 B h m st (mkQ q now ((L.take (i + 1)).map (setTx x))) (xqI h { d6 with V := V9, c := d6.c }) := ⟨{ d6 with V := V9, c := d6.c }, v66, xs6, (KQ6.out.keep KD.out).step k7' t7 rfl, E60.out, E61.out, E62.out, E63.out, rfl⟩
  have t67 : Stp (xqI h d) (xqI h { d6 with V := V9, c := d6.c }) w w7 := (by have := T6.out; rw [HO6.out] at this; exact this : Stp (xqI h d) (xqI h d6) w w6).trans (t7.afterK KD.out)
  have n7 : ∀ b, b < w6.heap.size -> ¬ O' b -> ¬ xqI h { d6 with V := V9, c := d6.c } b := fun b hb hO hf => (t7.2 b hf).elim (fun h8 => hO (by rw [HO6.out]; exact h8)) (fun h8 => by have : w6.drew.heap.size = w6.heap.size := rfl; omega)
  have o17 := (O16.out.keep KD.out).fo t7.1 (fun b hb hf => by rw [<- HO6.out] at hf; exact N1.out b hb hf)
  have o67 := (O6.out.keep KD.out).fo t7.1 (fun b hb hf => by rw [<- HO6.out] at hf; exact OB.out b hb hf)
  have MS7 : RowKit.Hid (MdS w w7 B h m st (xqI h d) q now x L (.slice (some ⟨g, 0, none⟩) n cc) zb (.slice u6 (i + 1) c6) (i + 1)) := iH ⟨o17, o67, _, s7, t67, fun b hb => n7 b ((O16.out.lt b hb).2) (N1.out b hb), fun b hb => n7 b ((O6.out.lt b hb).2) (OB.out b hb)⟩
  have Z7 := iH (show zb <= w7.heap.size by have := t7.1.size; have : w6.drew.heap.size = w6.heap.size := rfl; have := Z6.out; omega)
  clear h1 h3 k7 t7 k7' s7 t67 n7 o17 o67
  go_wp2_with fail
  refine hK.out _ _ S7.out (fun hJ => ?_)
  clear hK K
  refine wd ?_
  clear hJ
  go_wp2
  go_roundw
  case rel => exact ⟨i + 1, u6, c6, by go_num, rfl, by omega, MS7, Z7⟩
  case measure => simp [intOf]; omega
 have x1 : ¬ (i : Int) < (n : Int) := by omega
 have hin : i = n := by omega
 subst hin
 obtain ⟨o1, o2, O', s1, t1, n1, n2⟩ := MS.out
 have OX := iH o2; have PX : RowKit.Hid (DPost w B h m st (xqI h d) (mkQ q now ((L.take i).map (setTx x))) wr) := iH ⟨O', s1, t1⟩
 clear o1 o2 s1 t1 n1 n2
 go_wp2
 go_ret
 have e1 : (L.take i).map (setTx x) = mntV q x now := by rw [List.take_of_length_le (by rw [<- HN.out]; exact Nat.le_refl _), RV.out]
 have ox := OX.out; have px := PX.out
 rw [e1] at ox px
 exact ⟨_, rfl, ox.mono WZ.out, px⟩
theorem dfre_any (s : DS w B h m st q O) {k : Nat} (z : SzQ k q) (hk : k <= 1000) : Calls Tryz.prog 67 #[.pointer (some ⟨h, 0, none⟩)] w fun e w' => e = .returned (.bool (freQ st q)) /\ Kept w w' [] := by
 obtain ⟨i0, hi0, hz0, hz1, hz2⟩ := info_parts Tryz.infoSn
 have MAN := iH (fun (Z : World) (hZ : Kept w Z []) => (s.keep hZ).rman)
 have C0 := iH (fun (Z : World) (hZ : Kept w Z []) => (s.keep hZ).cells.1)
 have RI := iH z.ok.rise
 have few := z.ok.okc.few
 have LN := iH (z.tabs hk (nxt q.c) (xq1 q.c))
 obtain ⟨d, v, xs, kq, e0, e1, e2, e3, rfl⟩ := s.ex
 have hxs0 : xs.length = q.ps.length := by rw [<- e1, List.length_map]
 have x64 : xs.length <= 64 := by rw [hxs0]; exact z.ok.okp.size
 have AF : RowKit.Hid (∀ (b1 : Int) Z, Kept w Z [] -> Calls Tryz.prog 33 #[.pointer (some ⟨h, 5, none⟩), .int .i64 b1] Z (RGetPost Z (getS q.ps b1))) := iH (fun b1 Z hZ => by rw [<- e1]; exact rkget_any (kq.dq.keep hZ).ticks (by omega) b1)
 have NX := iH (fun (Z : World) (hZ : Kept w Z []) => rnext_any_g6 (kq.dq.keep hZ).spools)
 have RDN := iH (fun (Z : World) (hZ : Kept w Z []) => (show RdE Z (d.V (nxt d.c)) (q.l (nxt q.c)) from by rw [e0]; exact ((kq.dq.keep hZ).ev (nxt q.c) (xq1 q.c)).rd))
 obtain ⟨u, c, hv⟩ := kq.dq.cu.shape
 have CUS := iH (fun (Z : World) (hZ : Kept w Z []) => (show OwnK encCu Z B rcE (.slice u q.cs.length c) q.cs from by rw [<- hv]; exact (kq.dq.keep hZ).cu))
 have C7 := iH (fun (Z : World) (hZ : Kept w Z []) => (show Z.cell? ⟨h, 7, none⟩ = some (.slice u q.cs.length c) from by rw [<- hv]; exact ((kq.dq.keep hZ).cell (i := 7) rfl).1))
 obtain ⟨ut, ct, hvt⟩ := kq.dq.tk.shape
 have TKS := iH (fun (Z : World) (hZ : Kept w Z []) => (show OwnT Z B 38 (.slice ut xs.length ct) xs /\ ∀ x ∈ xs, RdT Z x.op x.l from ⟨by rw [<- hvt]; exact (kq.dq.keep hZ).tk, (kq.dq.keep hZ).tr⟩))
 have C5 := iH (fun (Z : World) (hZ : Kept w Z []) => (show Z.cell? ⟨h, 5, none⟩ = some (.slice ut xs.length ct) from by rw [<- hvt]; exact ((kq.dq.keep hZ).cell (i := 5) rfl).1))
 have E1 := iH e1; have X64 := iH x64; have HXS := iH hxs0
 obtain ⟨n, hn⟩ : ∃ n, n = q.cs.length := ⟨_, rfl⟩
 have HN := iH hn
 rw [<- hn] at CUS C7 few
 clear s z hk kq e0 e1 e2 e3 hv hvt hxs0 x64 hn
 obtain ⟨zb, hzb⟩ : ∃ zb, zb = w.heap.size := ⟨_, rfl⟩
 have HZ := iH hzb
 clear hzb
 go_enter Tryz.func67, Tryz.ntmps67
 go_wp2
 go_loopw [3, 4, 5, 6] (fun s3 s4 _ _ wr => ∃ (i : Nat) (ue : Option Addr) (ce : Nat) (ss : List Sn), s4 = .int .i64 i /\ s3 = .slice ue i ce /\ i <= n /\ RowKit.Hid (ss.length = i) /\ RowKit.Hid (StS w wr zb q (.slice ue i ce) ss i)) (fun _ s4 _ _ _ => n - (intOf s4).toNat)
 case atStart => exact ⟨0, none, 0, [], rfl, rfl, Nat.zero_le _, iH rfl, iH ⟨OwnK.nil _ _ _, by simp, rfl, Kept.refl w []⟩⟩
 case round =>
 obtain ⟨i, ue, ce, ss, rfl, rfl, hi, HL, SS⟩ := hrel
 have c7 := C7.out wr SS.out.2.2.2
 by_cases hlt : i < n
 ·have x1 : (i : Int) < (n : Int) := by omega
  obtain ⟨x, hx⟩ : ∃ x, q.cs[i]? = some x := ⟨_, List.getElem?_eq_getElem (by rw [<- HN.out]; exact hlt)⟩
  have HX := iH hx
  obtain ⟨g, hu, -⟩ := (CUS.out wr SS.out.2.2.2).at hx
  subst hu
  obtain ⟨b0, b1, b2⟩ := x
  have LF : RowKit.Hid (∀ Z, Kept wr Z [] -> Z.cell? ⟨h, 7, none⟩ = some (.slice (some ⟨g, 0, none⟩) n c) /\ Z.cell? ⟨g, i * 3 + 1, none⟩ = some (.int .i64 b1)) := iH (fun Z hZ => ⟨C7.out Z (SS.out.2.2.2.trans hZ (by simp)), by
   obtain ⟨g', hg', hc⟩ := (CUS.out Z (SS.out.2.2.2.trans hZ (by simp))).at hx
   simp only [Option.some.injEq, Addr.mk.injEq] at hg'
   obtain ⟨rfl, -, -⟩ := hg'
   exact (hc 1 (by decide)).1⟩)
  have AF1 := iH (fun Z (hZ : Kept wr Z []) => AF.out b1 Z (SS.out.2.2.2.trans hZ (by simp)))
  obtain ⟨ob, hob⟩ : ∃ ob, ob = (getS q.ps b1).isSome := ⟨_, rfl⟩
  have HOa := iH hob
  have PT : RowKit.Hid (tckP q b1 = (getS q.ps b1).getD ⟨0, 0, [], 0⟩) := iH rfl
  clear hx hob
  go_upto_region 5 with fail
  clear c7
  refine wp_region_held_drew (S := fun Z => Kept wr Z []) (by kernel_rfl) (Kept.refl wr []).drew (fun hJ => ?_)
  refine wx 0 18 (.pointer (some ⟨h, 0, none⟩)) rfl hJ ?_
  refine wx 1 19 (.pointer (some ⟨h, 0, none⟩)) rfl hJ ?_
  refine wx 2 20 (.pointer (some ⟨h, 5, none⟩)) rfl hJ ?_
  refine wx 3 21 (.pointer (some ⟨h, 0, none⟩)) rfl hJ ?_
  refine wx 4 22 (.pointer (some ⟨h, 0, none⟩)) rfl hJ ?_
  refine wx 5 23 (.pointer (some ⟨h, 7, none⟩)) rfl hJ ?_
  refine wx 6 24 (.pointer (some ⟨h, 7, none⟩)) rfl hJ ?_
  refine wx 7 25 (.slice (some ⟨g, 0, none⟩) n c) rfl hJ ?_ (hy := fun V hV => by (have q0 := (LF.out V hV).1; clear hV; go_simp))
  refine wx 8 26 (.int .i64 i) rfl hJ ?_
  refine wx 9 27 (.pointer (some ⟨g, i * 3, none⟩)) rfl hJ ?_
  refine wx 10 28 (.pointer (some ⟨g, i * 3 + 1, none⟩)) rfl hJ ?_
  refine wx 11 29 (.int .i64 b1) rfl hJ ?_ (hy := fun V hV => by (have q0 := (LF.out V hV).2; clear hV; go_simp))
  refine wpAnyH_ready (rs := [12, 16]) (by kernel_rfl) (by simp) ?_
  refine (AllReadyH.cons (o := _) rfl (fun K hK => ?_) (AllReadyH.cons (o := _) rfl (fun K hK => ?_) AllReadyH.nil))
  ·go_simp
   go_at_call 33
   refine (AF1.out _ ((Kept.refl wr []).drew)).mono ?_
   rintro r wa ⟨y, rfl, hpl, hry, ka⟩
   obtain ⟨y0, y1, y2, y3, y4, y5⟩ := y
   simp only [Tk.cs, Tk.op] at *
   have KA := iH (((Kept.refl wr []).drew).trans ka (by simp)); have HRY := iH hry; have HPL := iH hpl
   rw [<- HOa.out]
   clear hpl hry ka
   go_wp2_with fail
   refine hK.out _ _ KA.out (fun hJ => ?_)
   clear hK K
   refine wx 13 17 (.tuple #[.agg #[.int .i64 y0, .int .i64 y1, .slice y2 y4.length y3, .int .i64 y5], .bool ob]) rfl hJ ?_
   refine wx 14 31 (.agg #[.int .i64 y0, .int .i64 y1, .slice y2 y4.length y3, .int .i64 y5]) rfl hJ ?_
   refine wx 15 32 (.bool ob) rfl hJ ?_
   refine wr1 16 rfl (fun K hK => ?_)
   go_simp
   refine hK.out _ _ (KA.out.alloc zT4) (fun hJ => ?_)
   clear hK K
   obtain ⟨zt, hzt⟩ : ∃ zt, zt = wa.heap.size := ⟨_, rfl⟩
   obtain ⟨w5, hw5⟩ : ∃ w5, w5 = wa.alloc zT4 := ⟨_, rfl⟩
   have k5 : Kept wa w5 [] := by rw [hw5]; exact (Kept.refl wa []).alloc zT4
   have G5 := iH (show w5.heap[zt]? = some zT4 by rw [hw5, hzt]; exact heap_alloc_new wa _)
   rw [<- hw5, <- hzt]
   have K5 := iH (KA.out.trans k5 (by simp)); have HR5 := iH (HRY.out.keep k5)
   have HZT := iH (show wr.heap.size <= zt by rw [hzt]; exact KA.out.size)
   clear hw5 hzt k5
   have hJ := K5.out
   obtain ⟨wq, hwq⟩ : ∃ wq, wq = xqo w5 zt 0 [.int .i64 y0, .int .i64 y1, .slice y2 y4.length y3, .int .i64 y5] := ⟨_, rfl⟩
   have k6 : Kept wr wq [] := by rw [hwq]; exact xqr K5.out HZT.out _
   have K6 := iH k6; have HW6 := iH hwq
   have G6 := iH (show wq.heap[zt]? = some (.cells #[.int .i64 y0, .int .i64 y1, .slice y2 y4.length y3, .int .i64 y5] 38 (0, 0)) by rw [hwq]; exact xqH G5.out rfl)
   have HR6 := iH (HR5.out.fo (show Fo (fun k => k = zt) w5 wq by rw [hwq]; exact xqu (O := fun k => k = zt) _ w5 0 (Fo.refl _ w5) (.inl rfl)) (xqK G5.out (by decide)))
   obtain ⟨x0, x1', x2, x3⟩ := xqc G5.out
   obtain ⟨f0, f1, f2, f3⟩ := xqf G5.out
   clear k6 hwq
   refine wr1 17 rfl (fun K hK => ?_)
   go_simp
   refine hK.out _ (xqo w5 zt 0 [.int .i64 y0, .int .i64 y1, .slice y2 y4.length y3, .int .i64 y5]) (by rw [<- HW6.out]; exact K6.out) (fun hJ => ?_)
   clear hK K
   rw [<- HW6.out] at hJ ⊢
   clear x0 x1' x2 x3 f0 f1 f2 f3
   refine wx 18 6 (.bool ob) rfl hJ ?_
   refine wd ?_
   clear hJ
   obtain ⟨z0, z1, z2, z3⟩ := xqc G6.out
   obtain ⟨w7, hw7⟩ : ∃ w7, w7 = wq.alloc (.cells #[.int .i64 y1, .slice y2 y4.length y3] 36) := ⟨_, rfl⟩
   have k7 : Kept wq w7 [] := by rw [hw7]; exact (Kept.refl wq []).alloc _
   have SRC := xqQ (E := encSn) (P := Tryz.prog) (t := 36) wq ⟨y1, y2, y4, y3⟩ (tx := 157) Tryz.underlying157
   simp only [encSn, Sn.cs] at SRC
   have SRC := iH SRC
   have OO := SS.out.1.keep (K6.out.trans k7 (by simp))
   unfold OwnK at OO
   rw [HL.out] at OO
   have HS := iH (show zb <= w7.heap.size by have := (SS.out.2.2.2.trans (K6.out.trans k7 (by simp)) (by simp)).size; rw [HZ.out]; exact this)
   have K7 := iH k7; have HW7 := iH hw7
   rw [hw7] at OO HS
   have OO := iH OO
   clear k7 hw7
   go_wp2_with (at_builtin; refine xqa _ rfl (.tmp 33) (.tmp 36) 157 157 rfl zb 36 i0 _ 2 32 Tryz.underlying157 hi0 hz0 hz1 hz2 rfl (.slice ue i ce) i (kcs encSn ss) rfl OO.out (.slice (some ⟨wq.heap.size, 0, none⟩) 1 1) 1 _ rfl SRC.out (by unfold maxLen; omega) (by omega) HS.out ?nexta)
   case nexta =>
   intro v8 w8 hown _ hgrow _
   rw [<- HW7.out] at hgrow
   have o8 : OwnK encSn w8 zb 36 v8 (ss ++ [⟨y1, y2, y4, y3⟩]) := by
    refine snoc_sn (w3 := w8) (v3 := v8) ?_
    rw [HL.out]
    exact hown
   have kg : Kept w w8 [] := (SS.out.2.2.2.trans (K6.out.trans K7.out (by simp)) (by simp)).grown hgrow (fun k hk => .inr (by have := (SS.out.1.lt k hk).1; rw [HZ.out] at this; exact this))
   have fg : Fo (fun k => (Value.slice ue i ce).ownBlock = some k) w7 w8 := (Fo.refl _ w7).grown hgrow (fun k hk => .inl hk)
   have ng : NoI w7 (fun k => (Value.slice ue i ce).ownBlock = some k) := fun k hk c2 f2 h2 => by
    obtain ⟨cur, hc⟩ := (SS.out.1.keep (K6.out.trans K7.out (by simp))).tag hk
    exact absurd (xqA hc h2) (by decide)
   obtain ⟨u8, c8, e8⟩ := o8.shape
   rw [List.length_append, HL.out] at e8
   subst e8
   have hpt : tckP q b1 = ⟨y0, y1, y4, y5⟩ := by rw [PT.out, <- HPL.out]; rfl
   have S8 : RowKit.Hid (StS w w8 zb q (.slice u8 (i + 1) c8) (ss ++ [⟨y1, y2, y4, y3⟩]) (i + 1)) := iH ⟨o8, fun s hs => by
     rcases List.mem_append.1 hs with hs | hs
     ·exact ((SS.out.2.1 s hs).keep (K6.out.trans K7.out (by simp))).fo fg ng
     ·rw [List.mem_singleton] at hs; subst hs
      exact (HR6.out.keep K7.out).fo fg ng, by
     rw [List.take_add_one, HX.out, List.map_append, List.map_append, List.map_append, SS.out.2.2.1]
     show _ = _ ++ [(tckP q b1).ml]
     rw [hpt]; rfl, kg⟩
   have L8 : RowKit.Hid ((ss ++ [(⟨y1, y2, y4, y3⟩ : Sn)]).length = i + 1) := iH (by rw [List.length_append, HL.out]; rfl)
   clear hown hgrow o8 kg fg ng hpt z0 z1 z2 z3
   go_wp2
   go_roundw
   case rel => exact ⟨i + 1, u8, c8, _, by go_num, rfl, by omega, L8, S8⟩
   case measure => simp [intOf]; omega
  go_simp
  refine hK.out _ _ (((Kept.refl wr []).drew).alloc zT4) (fun hJ => ?_)
  clear hK K
  obtain ⟨zt, hzt⟩ : ∃ zt, zt = wr.heap.size := ⟨_, rfl⟩
  obtain ⟨w4, hw4⟩ : ∃ w4, w4 = (wr.alloc zT4).drew := ⟨_, rfl⟩
  have K4 := iH (show Kept wr w4 [] by rw [hw4]; exact ((Kept.refl wr []).alloc zT4).drew)
  have G4 := iH (show w4.heap[zt]? = some zT4 by rw [hw4, hzt]; exact heap_alloc_new wr _)
  have HZT := iH (show wr.heap.size <= zt by rw [hzt]; exact Nat.le_refl _)
  have hJ := K4.out
  rw [<- hw4, <- hzt]
  clear hw4 hzt
  refine wr1 12 rfl (fun K hK => ?_)
  go_simp
  go_at_call 33
  refine (AF1.out _ (K4.out)).mono ?_
  rintro r wa ⟨y, rfl, hpl, hry, ka⟩
  obtain ⟨y0, y1, y2, y3, y4, y5⟩ := y
  simp only [Tk.cs, Tk.op] at *
  have KA := iH ((K4.out).trans ka (by simp)); have HRY := iH hry; have HPL := iH hpl
  rw [<- HOa.out]
  have G5 := iH (ka.heap (by simp) G4.out)
  clear hpl hry ka
  go_wp2_with fail
  refine hK.out _ _ KA.out (fun hJ => ?_)
  clear hK K
  obtain ⟨w5, hw5⟩ : ∃ w5, w5 = wa := ⟨_, rfl⟩
  subst hw5
  have K5 := KA; have HR5 := HRY
  obtain ⟨wq, hwq⟩ : ∃ wq, wq = xqo w5 zt 0 [.int .i64 y0, .int .i64 y1, .slice y2 y4.length y3, .int .i64 y5] := ⟨_, rfl⟩
  have k6 : Kept wr wq [] := by rw [hwq]; exact xqr K5.out HZT.out _
  have K6 := iH k6; have HW6 := iH hwq
  have G6 := iH (show wq.heap[zt]? = some (.cells #[.int .i64 y0, .int .i64 y1, .slice y2 y4.length y3, .int .i64 y5] 38 (0, 0)) by rw [hwq]; exact xqH G5.out rfl)
  have HR6 := iH (HR5.out.fo (show Fo (fun k => k = zt) w5 wq by rw [hwq]; exact xqu (O := fun k => k = zt) _ w5 0 (Fo.refl _ w5) (.inl rfl)) (xqK G5.out (by decide)))
  obtain ⟨x0, x1', x2, x3⟩ := xqc G5.out
  obtain ⟨f0, f1, f2, f3⟩ := xqf G5.out
  clear k6 hwq
  refine wx 13 17 (.tuple #[.agg #[.int .i64 y0, .int .i64 y1, .slice y2 y4.length y3, .int .i64 y5], .bool ob]) rfl hJ ?_
  refine wx 14 31 (.agg #[.int .i64 y0, .int .i64 y1, .slice y2 y4.length y3, .int .i64 y5]) rfl hJ ?_
  refine wx 15 32 (.bool ob) rfl hJ ?_
  refine wr1 17 rfl (fun K hK => ?_)
  go_simp
  refine hK.out _ (xqo w5 zt 0 [.int .i64 y0, .int .i64 y1, .slice y2 y4.length y3, .int .i64 y5]) (by rw [<- HW6.out]; exact K6.out) (fun hJ => ?_)
  clear hK K
  rw [<- HW6.out] at hJ ⊢
  clear x0 x1' x2 x3 f0 f1 f2 f3
  refine wx 18 6 (.bool ob) rfl hJ ?_
  refine wd ?_
  clear hJ
  obtain ⟨z0, z1, z2, z3⟩ := xqc G6.out
  obtain ⟨w7, hw7⟩ : ∃ w7, w7 = wq.alloc (.cells #[.int .i64 y1, .slice y2 y4.length y3] 36) := ⟨_, rfl⟩
  have k7 : Kept wq w7 [] := by rw [hw7]; exact (Kept.refl wq []).alloc _
  have SRC := xqQ (E := encSn) (P := Tryz.prog) (t := 36) wq ⟨y1, y2, y4, y3⟩ (tx := 157) Tryz.underlying157
  simp only [encSn, Sn.cs] at SRC
  have SRC := iH SRC
  have OO := SS.out.1.keep (K6.out.trans k7 (by simp))
  unfold OwnK at OO
  rw [HL.out] at OO
  have HS := iH (show zb <= w7.heap.size by have := (SS.out.2.2.2.trans (K6.out.trans k7 (by simp)) (by simp)).size; rw [HZ.out]; exact this)
  have K7 := iH k7; have HW7 := iH hw7
  rw [hw7] at OO HS
  have OO := iH OO
  clear k7 hw7
  go_wp2_with (at_builtin; refine xqa _ rfl (.tmp 33) (.tmp 36) 157 157 rfl zb 36 i0 _ 2 32 Tryz.underlying157 hi0 hz0 hz1 hz2 rfl (.slice ue i ce) i (kcs encSn ss) rfl OO.out (.slice (some ⟨wq.heap.size, 0, none⟩) 1 1) 1 _ rfl SRC.out (by unfold maxLen; omega) (by omega) HS.out ?nextb)
  case nextb =>
  intro v8 w8 hown _ hgrow _
  rw [<- HW7.out] at hgrow
  have o8 : OwnK encSn w8 zb 36 v8 (ss ++ [⟨y1, y2, y4, y3⟩]) := by
   refine snoc_sn (w3 := w8) (v3 := v8) ?_
   rw [HL.out]
   exact hown
  have kg : Kept w w8 [] := (SS.out.2.2.2.trans (K6.out.trans K7.out (by simp)) (by simp)).grown hgrow (fun k hk => .inr (by have := (SS.out.1.lt k hk).1; rw [HZ.out] at this; exact this))
  have fg : Fo (fun k => (Value.slice ue i ce).ownBlock = some k) w7 w8 := (Fo.refl _ w7).grown hgrow (fun k hk => .inl hk)
  have ng : NoI w7 (fun k => (Value.slice ue i ce).ownBlock = some k) := fun k hk c2 f2 h2 => by
   obtain ⟨cur, hc⟩ := (SS.out.1.keep (K6.out.trans K7.out (by simp))).tag hk
   exact absurd (xqA hc h2) (by decide)
  obtain ⟨u8, c8, e8⟩ := o8.shape
  rw [List.length_append, HL.out] at e8
  subst e8
  have hpt : tckP q b1 = ⟨y0, y1, y4, y5⟩ := by rw [PT.out, <- HPL.out]; rfl
  have S8 : RowKit.Hid (StS w w8 zb q (.slice u8 (i + 1) c8) (ss ++ [⟨y1, y2, y4, y3⟩]) (i + 1)) := iH ⟨o8, fun s hs => by
    rcases List.mem_append.1 hs with hs | hs
    ·exact ((SS.out.2.1 s hs).keep (K6.out.trans K7.out (by simp))).fo fg ng
    ·rw [List.mem_singleton] at hs; subst hs
     exact (HR6.out.keep K7.out).fo fg ng, by
    rw [List.take_add_one, HX.out, List.map_append, List.map_append, List.map_append, SS.out.2.2.1]
    show _ = _ ++ [(tckP q b1).ml]
    rw [hpt]; rfl, kg⟩
  have L8 : RowKit.Hid ((ss ++ [(⟨y1, y2, y4, y3⟩ : Sn)]).length = i + 1) := iH (by rw [List.length_append, HL.out]; rfl)
  clear hown hgrow o8 kg fg ng hpt z0 z1 z2 z3
  go_wp2
  go_roundw
  case rel => exact ⟨i + 1, u8, c8, _, by go_num, rfl, by omega, L8, S8⟩
  case measure => simp [intOf]; omega
 have x1 : ¬ (i : Int) < (n : Int) := by omega
 have hin : i = n := by omega
 subst hin
 have SE : RowKit.Hid (ss.map Sn.ml = (q.cs.map fun x => tckP q x.la).map Pt.ml) := iH (by have := SS.out.2.2.1; rw [List.take_of_length_le (by rw [<- HN.out]; exact Nat.le_refl _)] at this; exact this)
 have c5 := C5.out wr SS.out.2.2.2
 obtain ⟨X, hX⟩ : ∃ X, X = xs.length := ⟨_, rfl⟩
 have HXX := iH hX
 have X6 : X <= 64 := by rw [hX]; exact X64.out
 rw [<- hX] at c5
 by_cases h0 : X = 0
 ·subst h0
  have hp : q.ps = [] := List.eq_nil_of_length_eq_zero (by rw [<- HXS.out, <- HXX.out])
  have FIN : RowKit.Hid ((ss.map Sn.ml = (snpP q).map Pt.ml) /\ ss.length <= 100) := iH ⟨by rw [SE.out]; simp [snpP, hp], by rw [HL.out]; omega⟩
  have OWN := iH SS.out.1; have RDL := iH SS.out.2.1; have KW := iH SS.out.2.2.2
  clear hp X6 hX
  go_upto_region 9 with fail
  clear c5 c7
  refine wp_region_held_drew (S := fun Z => Kept w Z []) (by kernel_rfl) KW.out.drew (fun hJ => ?_)
  refine wx 0 63 (.pointer (some ⟨h, 0, none⟩)) rfl hJ ?_
  refine wx 1 64 (.pointer (some ⟨h, 0, none⟩)) rfl hJ ?_
  refine wx 2 65 (.pointer (some ⟨h, 1, none⟩)) rfl hJ ?_
  refine wx 4 67 (.pointer (some ⟨h, 0, none⟩)) rfl hJ ?_
  refine wx 5 68 (.pointer (some ⟨h, 0, none⟩)) rfl hJ ?_
  refine wx 6 69 (.pointer (some ⟨h, 0, none⟩)) rfl hJ ?_
  refine wx 7 70 (.pointer (some ⟨m, 0, none⟩)) rfl hJ ?_ (hy := fun V hV => by (have q0 := C0.out V hV; clear hV; go_simp))
  refine wx 8 71 (.slice ue i ce) rfl hJ ?_
  refine wr1 3 rfl (fun K hK => ?_)
  go_simp
  go_at_call 128
  refine (NX.out _ KW.out.drew).mono ?_
  rintro r wa ⟨rfl, ka⟩
  have KA := iH (KW.out.drew.trans ka (by simp))
  have BF := iH (rfree_any (st := st) (u := .pointer (some ⟨m, 0, none⟩)) (RDN.out wa KA.out) LN.out (MAN.out wa KA.out) (rdS_of (OWN.out.keep (((Kept.refl wr []).drew).trans ka (by simp))) (fun s hs => (RDL.out s hs).keep (((Kept.refl wr []).drew).trans ka (by simp)))) (by rw [List.length_map]; have := FIN.out.2; omega))
  have EQ : RowKit.Hid (freeB st (ss.map Sn.sv) (q.l (nxt q.c)) = freQ st q) := iH (by unfold freeB freQ; congr 2; funext e; exact need_of FIN.out.1 st e)
  generalize freeB st (ss.map Sn.sv) (q.l (nxt q.c)) = fb at *
  generalize d.V (nxt d.c) = vn at *
  clear ka
  go_wp2_with fail
  refine hK.out _ _ KA.out (fun hJ => ?_)
  clear hK K
  refine wr1 9 rfl (fun K hK => ?_)
  go_simp
  go_at_call 127
  refine (BF.out).mono ?_
  rintro r wdd ⟨rfl, kd⟩
  have KF := iH (KA.out.trans kd (by simp))
  clear kd
  go_wp2_with fail
  refine hK.out _ _ KF.out (fun hJ => ?_)
  clear hK K
  refine wx 10 2 (.bool fb) rfl hJ ?_
  refine wd ?_
  clear hJ
  go_wp2
  go_ret
  exact ⟨congrArg (fun x => Ending.returned (.bool x)) EQ.out, KF.out⟩
 have x3 : (0 : Int) < (X : Int) := by omega
 obtain ⟨ys, y, hy⟩ : ∃ ys y, xs = ys ++ [y] := by
  rcases List.eq_nil_or_concat xs with h | ⟨ys, y, h⟩
  ·rw [h] at hX; exact absurd hX h0
  exact ⟨ys, y, by rw [h, List.concat_eq_append]⟩
 have hlp : q.ps.getLast? = some y.pl := by rw [<- E1.out, hy, List.map_append]; simp
 have RR : RowKit.Hid ((snpP q).map Pt.ml = (q.cs.map fun x => tckP q x.la).map Pt.ml ++ [y.pl.ml]) := iH (by simp [snpP, hlp])
 have hX1 : X = ys.length + 1 := by rw [hX, hy, List.length_append]; rfl
 obtain ⟨N, hN⟩ : ∃ N, N = ys.length := ⟨_, rfl⟩
 have hyx : xs[N]? = some y := by rw [hy, hN, List.getElem?_append_right (Nat.le_refl _), Nat.sub_self]; rfl
 obtain ⟨g, hut, -⟩ := (TKS.out wr SS.out.2.2.2).1.at N (by rw [<- hX, hX1, hN]; omega)
 subst hut
 have yRd := iH (fun Z (hZ : Kept w Z []) => (TKS.out Z hZ).2 y (by rw [hy]; simp))
 obtain ⟨y0, y1, y2, y3, y4, y5⟩ := y
 have LF : RowKit.Hid (∀ Z, Kept w Z [] -> Z.cell? ⟨h, 5, none⟩ = some (.slice (some ⟨g, 0, none⟩) X ct) /\ Z.cell? ⟨g, N * 4 + 1, none⟩ = some (.int .i64 y1) /\ Z.cell? ⟨g, N * 4 + 2, none⟩ = some (.slice y2 y4.length y3)) := iH (fun Z hZ => ⟨by rw [hX]; exact C5.out Z hZ, by
  have hh : N < xs.length := by rw [<- hX, hX1, hN]; omega
  obtain ⟨g', hg', hc⟩ := (TKS.out Z hZ).1.at N hh
  simp only [Option.some.injEq, Addr.mk.injEq] at hg'
  obtain ⟨rfl, -, -⟩ := hg'
  have he : xs[N] = ⟨y0, y1, y2, y3, y4, y5⟩ := by have := hyx; rw [List.getElem?_eq_getElem hh] at this; exact Option.some.inj this
  have h1 := (hc 1 (by decide)).1
  have h2 := (hc 2 (by decide)).1
  rw [he] at h1 h2
  exact ⟨h1, h2⟩⟩)
 have hNX : X = N + 1 := by rw [hX1, hN]
 have m5 : (X : Int) - 1 = (N : Int) := by omega
 have m4 : IntKind.i64.wrap ((X : Int) - 1) = (N : Int) := by rw [IntKind.wrap_i64]; omega
 have m3 : (N : Int) < (X : Int) := by omega
 have m6 : IntKind.i64.wrap (N : Int) = (N : Int) := by rw [IntKind.wrap_i64]; omega
 have HNX := iH hNX
 have OO := SS.out.1
 unfold OwnK at OO
 rw [HL.out] at OO
 have OO := iH OO
 have KW0 := iH SS.out.2.2.2
 simp only [Tk.pl, Tk.op] at RR yRd
 clear h0 hlp hX1 hyx hy hN hNX hX
 go_upto_region 8 with fail
 clear c5 c7
 refine wp_region_held_drew (S := fun Z => Kept w Z []) (by kernel_rfl) KW0.out.drew (fun hJ => ?_)
 refine wx 0 45 (.slice ue i ce) rfl hJ ?_
 refine wx 1 46 (.pointer (some ⟨h, 0, none⟩)) rfl hJ ?_
 refine wx 2 47 (.pointer (some ⟨h, 0, none⟩)) rfl hJ ?_
 refine wx 3 48 (.pointer (some ⟨h, 5, none⟩)) rfl hJ ?_
 refine wx 4 49 (.pointer (some ⟨h, 5, none⟩)) rfl hJ ?_
 refine wx 5 50 (.slice (some ⟨g, 0, none⟩) X ct) rfl hJ ?_ (hy := fun V hV => by (have q0 := (LF.out V hV).1; clear hV; go_simp))
 refine wx 6 51 (.pointer (some ⟨h, 0, none⟩)) rfl hJ ?_
 refine wx 7 52 (.pointer (some ⟨h, 0, none⟩)) rfl hJ ?_
 refine wx 8 53 (.pointer (some ⟨h, 5, none⟩)) rfl hJ ?_
 refine wx 9 54 (.pointer (some ⟨h, 5, none⟩)) rfl hJ ?_
 refine wx 10 55 (.slice (some ⟨g, 0, none⟩) X ct) rfl hJ ?_ (hy := fun V hV => by (have q0 := (LF.out V hV).1; clear hV; go_simp))
 refine wx 11 56 (.int .i64 X) rfl hJ ?_
 refine wx 12 57 (.int .i64 N) rfl hJ ?_
 refine wx 13 58 (.pointer (some ⟨g, N * 4, none⟩)) rfl hJ ?_
 refine wx 14 59 (.pointer (some ⟨g, N * 4 + 1, none⟩)) rfl hJ ?_
 refine wx 15 60 (.agg #[.int .i64 y1, .slice y2 y4.length y3]) rfl hJ ?_ (hy := fun V hV => by (obtain ⟨q0, q1, q2⟩ := LF.out V hV; clear hV; go_simp))
 refine wr1 16 rfl (fun K hK => ?_)
 have HDW := iH hJ
 refine xqt _ rfl 157 (.tmp 60) rfl 36 i0 _ 2 Tryz.underlying157 hi0 hz0 hz1 (by decide) (by decide) [.int .i64 y1, .slice y2 y4.length y3] rfl rfl ?_
 obtain ⟨w7, hw7⟩ : ∃ w7, w7 = wr.drew.alloc (.cells #[.int .i64 y1, .slice y2 y4.length y3] 36) := ⟨_, rfl⟩
 have k7 : Kept wr w7 [] := by rw [hw7]; exact ((Kept.refl wr []).drew).alloc _
 have SRC := xqQ (E := encSn) (P := Tryz.prog) (t := 36) wr.drew ⟨y1, y2, y4, y3⟩ (tx := 157) Tryz.underlying157
 simp only [encSn, Sn.cs] at SRC
 rw [<- hw7] at SRC ⊢
 have SRC := iH SRC
 have OO7 := iH (show w7.ownsRow zb 36 2 (.slice ue i ce) i (kcs encSn ss) from by have := SS.out.1.keep k7; unfold OwnK at this; rw [HL.out] at this; exact this)
 have HS := iH (show zb <= w7.heap.size by have := (KW0.out.trans k7 (by simp)).size; rw [HZ.out]; exact this)
 have K7 := iH k7
 refine hK.out _ _ (KW0.out.trans k7 (by simp)) (fun hJ => ?_)
 clear hK K k7 hw7
 change wpAnyH _ _ _ _ _ _ _ (Act.put _ (some 61) _) _
 simp only [Act.put, List.setIfInBounds_toArray, p0, p1]
 refine wr1 17 rfl (fun K hK => ?_)
 refine xqC _ rfl (.tmp 45) (.tmp 61) 157 157 rfl zb 36 i0 _ 2 32 Tryz.underlying157 hi0 hz0 hz1 hz2 rfl (.slice ue i ce) i (kcs encSn ss) rfl OO7.out _ 1 [.int .i64 y1, .slice y2 y4.length y3] rfl SRC.out (by unfold maxLen; omega) (by omega) HS.out ?_
 intro v8 w8 hown _ hgrow _
 have o8 : OwnK encSn w8 zb 36 v8 (ss ++ [⟨y1, y2, y4, y3⟩]) := by (refine snoc_sn (w3 := w8) (v3 := v8) ?_; rw [HL.out]; exact hown)
 have kg : Kept w w8 [] := (KW0.out.trans K7.out (by simp)).grown hgrow (fun k hk => .inr (by have := (SS.out.1.lt k hk).1; rw [HZ.out] at this; exact this))
 have fg : Fo (fun k => (Value.slice ue i ce).ownBlock = some k) w7 w8 := (Fo.refl _ w7).grown hgrow (fun k hk => .inl hk)
 have ng : NoI w7 (fun k => (Value.slice ue i ce).ownBlock = some k) := fun k hk c2 f2 h2 => by (obtain ⟨cur, hc⟩ := (SS.out.1.keep K7.out).tag hk; exact absurd (xqA hc h2) (by decide))
 obtain ⟨u8, c8, e8⟩ := o8.shape
 rw [List.length_append, HL.out] at e8
 subst e8
 have OWN := iH o8; have KW := iH kg
 have RDL := iH (show ∀ s ∈ ss ++ [(⟨y1, y2, y4, y3⟩ : Sn)], RdT w8 s.op s.l from fun s hs => (List.mem_append.1 hs).elim (fun hs => ((SS.out.2.1 s hs).keep K7.out).fo fg ng) (fun hs => by (rw [List.mem_singleton] at hs; subst hs; exact ((yRd.out wr KW0.out).keep K7.out).fo fg ng)))
 have FIN : RowKit.Hid (((ss ++ [(⟨y1, y2, y4, y3⟩ : Sn)]).map Sn.ml = (snpP q).map Pt.ml) /\ (ss ++ [(⟨y1, y2, y4, y3⟩ : Sn)]).length <= 100) := iH ⟨by (rw [RR.out, List.map_append, SE.out]; rfl), by (rw [List.length_append, HL.out]; show i + 1 <= 100; omega)⟩
 clear hown hgrow o8 kg fg ng
 refine hK.out _ _ KW.out (fun hJ => ?_)
 clear hK K
 change wpAnyH _ _ _ _ _ _ _ (Act.put _ (some 62) _) _
 simp only [Act.put, List.setIfInBounds_toArray, p0, p1]
 refine wx 18 3 (.slice u8 (i + 1) c8) rfl hJ ?_
 refine wd ?_
 clear hJ
 clear m3 m4 m5 m6
 go_upto_region 9 with fail
 refine wp_region_held_drew (S := fun Z => Kept w Z []) (by kernel_rfl) KW.out.drew (fun hJ => ?_)
 refine wx 0 63 (.pointer (some ⟨h, 0, none⟩)) rfl hJ ?_
 refine wx 1 64 (.pointer (some ⟨h, 0, none⟩)) rfl hJ ?_
 refine wx 2 65 (.pointer (some ⟨h, 1, none⟩)) rfl hJ ?_
 refine wx 4 67 (.pointer (some ⟨h, 0, none⟩)) rfl hJ ?_
 refine wx 5 68 (.pointer (some ⟨h, 0, none⟩)) rfl hJ ?_
 refine wx 6 69 (.pointer (some ⟨h, 0, none⟩)) rfl hJ ?_
 refine wx 7 70 (.pointer (some ⟨m, 0, none⟩)) rfl hJ ?_ (hy := fun V hV => by (have q0 := C0.out V hV; clear hV; go_simp))
 refine wx 8 71 (.slice u8 (i + 1) c8) rfl hJ ?_
 refine wr1 3 rfl (fun K hK => ?_)
 go_simp
 go_at_call 128
 refine (NX.out _ KW.out.drew).mono ?_
 rintro r wa ⟨rfl, ka⟩
 have KA := iH (KW.out.drew.trans ka (by simp))
 have BF := iH (rfree_any (st := st) (u := .pointer (some ⟨m, 0, none⟩)) (RDN.out wa KA.out) LN.out (MAN.out wa KA.out) (rdS_of (OWN.out.keep (((Kept.refl w8 []).drew).trans ka (by simp))) (fun s hs => (RDL.out s hs).keep (((Kept.refl w8 []).drew).trans ka (by simp)))) (by rw [List.length_map]; have := FIN.out.2; omega))
 have EQ : RowKit.Hid (freeB st ((ss ++ [(⟨y1, y2, y4, y3⟩ : Sn)]).map Sn.sv) (q.l (nxt q.c)) = freQ st q) := iH (by unfold freeB freQ; congr 2; funext e; exact need_of FIN.out.1 st e)
 generalize freeB st ((ss ++ [(⟨y1, y2, y4, y3⟩ : Sn)]).map Sn.sv) (q.l (nxt q.c)) = fb at *
 generalize d.V (nxt d.c) = vn at *
 clear ka
 go_wp2_with fail
 refine hK.out _ _ KA.out (fun hJ => ?_)
 clear hK K
 refine wr1 9 rfl (fun K hK => ?_)
 go_simp
 go_at_call 127
 refine (BF.out).mono ?_
 rintro r wdd ⟨rfl, kd⟩
 have KF := iH (KA.out.trans kd (by simp))
 clear kd
 go_wp2_with fail
 refine hK.out _ _ KF.out (fun hJ => ?_)
 clear hK K
 refine wx 10 2 (.bool fb) rfl hJ ?_
 refine wd ?_
 clear hJ
 go_wp2
 go_ret
 exact ⟨congrArg (fun x => Ending.returned (.bool x)) EQ.out, KF.out⟩
end Go.Proofs.YticiofkiffgclaaGreat
