/-
  Zqg, Zqh, Zqi in one text.
-/
import Derived.Test.YticiofkiffgclaaGreatQu0
import Derived.Test.YticiofkiffgclaaGreatQu31
set_option linter.unusedVariables false
set_option maxHeartbeats 16000000
set_option maxRecDepth 100000
namespace Go.Proofs.YticiofkiffgclaaGreat
open Go.RowKit
variable {w w' : World} {B : Nat} {a : Hk} {st : List Nat} {q : Qs} {O : Nat -> Prop}
def rowX (x : Int) (L : List Ev) (i : Nat) : List Ev := (L.take i).map (setTx x) ++ L.drop i
theorem rowX_len (x : Int) (L : List Ev) (i : Nat) : (rowX x L i).length = L.length := by
 rw [rowX, List.length_append, List.length_map, List.length_take, List.length_drop]; omega
theorem rowX_zero (x : Int) (L : List Ev) : rowX x L 0 = L := rfl
theorem rowX_all (x : Int) (L : List Ev) {i : Nat} (h : L.length <= i) : rowX x L i = L.map (setTx x) := by
 rw [rowX, List.take_of_length_le h, List.drop_eq_nil_of_le h, List.append_nil]
theorem yqi (x : Int) {L : List Ev} {i : Nat} {e : Ev} (h : L[i]? = some e) : (L.take (i + 1)).map (setTx x) = (L.take i).map (setTx x) ++ [setTx x e] := by
 obtain ⟨hi, rfl⟩ := List.getElem?_eq_some_iff.1 h
 rw [List.take_succ_eq_append_getElem hi, List.map_append]; rfl
theorem rowX_at (x : Int) {L : List Ev} {i : Nat} {e : Ev} (h : L[i]? = some e) : (rowX x L i)[i]? = some e := by
 have hi := (List.getElem?_eq_some_iff.1 h).1
 rw [rowX, List.getElem?_append_right (by rw [List.length_map, List.length_take]; omega), List.length_map, List.length_take, List.getElem?_drop, Nat.min_eq_left (by omega), Nat.sub_self, Nat.add_zero, h]
theorem rowX_set (x : Int) {L : List Ev} {i : Nat} {e : Ev} (h : L[i]? = some e) : (rowX x L i).set i (setTx x e) = rowX x L (i + 1) := by
 have hi := (List.getElem?_eq_some_iff.1 h).1
 have e1 : L.drop i = e :: L.drop (i + 1) := by
  rw [List.drop_eq_getElem_cons hi]
  obtain ⟨_, rfl⟩ := List.getElem?_eq_some_iff.1 h
  rfl
 have hl : ((L.take i).map (setTx x)).length = i := by rw [List.length_map, List.length_take]; omega
 rw [rowX, rowX, yqi x h, e1, List.append_assoc, List.set_append_right _ _ (by omega), hl, Nat.sub_self]
 rfl
def mkQ (q : Qs) (now : Int) (m : List Ev) : Qs := { q with l := upd q.l q.c (q.l q.c ++ m), rs := lftI q.rs now }
theorem mkQ_nil (q : Qs) (now : Int) : mkQ q now [] = { q with rs := lftI q.rs now } := by
 have : upd q.l q.c (q.l q.c ++ []) = q.l := by
  funext j
  rw [List.append_nil]
  unfold upd
  split
  ·rename_i h; rw [h]
  rfl
 rw [mkQ, this]
theorem upd_upd (l : Nat -> List Ev) (c : Nat) (m : List Ev) (e : Ev) : upd (upd l c (l c ++ m)) c (upd l c (l c ++ m) c ++ [e]) = upd l c (l c ++ (m ++ [e])) := by
 funext j
 rw [xqL, List.append_assoc]
 unfold upd
 split <;> rfl
def MtS (w wr : World) (B : Nat) (a : Hk) (st : List Nat) (O : Nat -> Prop) (q : Qs) (now x : Int) (L : List Ev) (v : Value) (i : Nat) : Prop :=
 OwnK encEv wr w.heap.size evT v (rowX x L i) /\ ∃ O', KS wr B a st (mkQ q now ((L.take i).map (setTx x))) O' /\ Stp O O' w wr /\ ∀ g, v.ownBlock = some g -> ¬ O' g
theorem kmnt_any (s : KS w B a st q O) {k : Nat} (z : SzQ k q) (hk : k <= 1000) (x now : Int) : Calls Tryz.prog 36 #[.pointer (some ⟨a.h, 0, none⟩), .int .i64 x, .int .i64 now] w fun e w' => ∃ v', e = .returned v' /\ OwnK encEv w' w.heap.size evT v' (mntV q x now) /\ KPost w B a st O (mntQ q x now) w' := by
 have KR := iH (kretries_any s)
 have HL := iH (mntV_len z x now)
 have TB := iH (z.table z.ok.c3)
 have HK := iH hk
 have S := iH s
 obtain ⟨b, u, d, xs, kq, mg, e1, e2, rfl⟩ := s.ex
 have TK := iH (ttake_any kq.rt z.oki now)
 obtain ⟨L, hL⟩ : ∃ L, L = evs (dueI q.rs now) := ⟨_, rfl⟩
 have RV : RowKit.Hid (mntV q x now = L.map (setTx x)) := iH (by rw [hL]; rfl)
 rw [<- hL] at TK
 have KQ := iH kq; have MG := iH mg; have E1 := iH e1; have E2 := iH e2
 have hl16 : L.length <= 16 := by have := HL.out; rw [RV.out, List.length_map] at this; exact this
 clear s z hk kq mg e1 e2 hL HL
 go_enter Tryz.func36, Tryz.ntmps36
 go_wp2_with fail
 refine KR.out.mono ?_
 rintro e wx ⟨rfl, hw⟩
 have hw2 := hw.symm; clear hw; subst hw2
 go_wp2_with fail
 refine TK.out.mono ?_
 rintro e w2 ⟨v, rfl, ov, VR', h1, h3⟩
 obtain ⟨k2, t2⟩ := KQ.out.ofRetries h1 h3
 have NG : ∀ g, v.ownBlock = some g -> ¬ xqR a { d with VR := VR' } g := by
  intro g hg hf
  have hge := (ov.lt g hg).1
  obtain ⟨cur, hc⟩ := ov.tag hg
  have tg : ∃ x t f, w2.heap[g]? = some (.cells x t f) /\ t ∈ [evT] := ⟨_, _, _, hc, by simp⟩
  rcases hf with rfl | hf | hf | hf | hf
  ·exact not_h k2.hh (by decide) tg rfl
  ·have := (KQ.out.sp.lt g hf).2; omega
  ·exact dis2 (k2.tyT hf) tg (by decide)
  ·exact dis2 (k2.tyC hf) tg (by decide)
  exact dis2 (k2.tyR hf) tg (by decide)
 have k2' : Kq w2 B a { d with VR := VR' } (mkQ q now []).l (mkQ q now []).c xs (mkQ q now []).cs (mkQ q now []).rs := by rw [mkQ_nil]; exact k2
 have hown : OwnK encEv w2 w.heap.size evT v (rowX x L 0) := by rw [rowX_zero]; exact ov
 obtain ⟨uu, cc, hv⟩ := ov.shape
 have M0 : RowKit.Hid (MtS w w2 B a st (xqR a d) q now x L v 0) := iH ⟨hown, _, ⟨b, u, { d with VR := VR' }, xs, k2', MG.out.fo t2.1 (KQ.out.noT (by decide)) KQ.out.noM, E1.out, E2.out, rfl⟩, t2, NG⟩
 clear ov h1 h3 k2 k2' t2 NG hown
 obtain ⟨n, hn⟩ : ∃ n, n = L.length := ⟨_, rfl⟩
 have HN := iH hn
 rw [<- hn] at hv hl16
 subst hv
 clear hn
 go_wp2
 go_loopw [8, 15] (fun _ s15 wr => ∃ i : Nat, s15 = .int .i64 i /\ i <= n /\ RowKit.Hid (MtS w wr B a st (xqR a d) q now x L (.slice uu n cc) i)) (fun _ s15 _ => n - (intOf s15).toNat)
 case atStart => exact ⟨0, rfl, Nat.zero_le _, M0⟩
 case round =>
 obtain ⟨i, rfl, hi, MS⟩ := hrel
 by_cases hlt : i < n
 ·have x1 : (i : Int) < (n : Int) := by omega
  obtain ⟨e, he⟩ : ∃ e, L[i]? = some e := ⟨_, List.getElem?_eq_getElem (by rw [<- HN.out]; exact hlt)⟩
  have HE := iH he
  obtain ⟨o1, O', s1, t1, n1⟩ := MS.out
  have o1e := ownE_iff.2 o1
  have hrn : (rowX x L i).length = n := by rw [rowX_len, HN.out]
  obtain ⟨g, c', cur, hv, hge, hgc, hcel⟩ := o1e.hit (rowX_at x he)
  simp only [Value.slice.injEq] at hv
  obtain ⟨rfl, -, -⟩ := hv
  have ng : ¬ O' g := n1 g rfl
  have fz : wr.frozen? ⟨g, i * 8 + 1, none⟩ = false := frozen_of_row _ _ _ _ _ hgc
  have ctx := (hcel wr rfl).2.1
  -- the row behind the store
  obtain ⟨w3, hw3⟩ : ∃ w3, w3 = wr.setCell ⟨g, i * 8 + 1, none⟩ (.int .i64 x) := ⟨_, rfl⟩
  have o3 : OwnK encEv w3 w.heap.size evT (.slice (some ⟨g, 0, none⟩) n cc) (rowX x L (i + 1)) := by
   have h := o1.set1 (y := setTx x e) (rowX_at x he) (j := 1) (by decide) (u := .int .i64 x) (by obtain ⟨y0, y1, y2, y3, y4, y5, y6, y7⟩ := e; rfl)
   rw [rowX_set x he] at h
   rw [hw3]
   exact h
  have f3 : Fo (fun k => k = g) wr w3 := by rw [hw3]; exact Fo.setCell (O := fun k => k = g) (Fo.refl _ wr) (p := ⟨g, i * 8 + 1, none⟩) (.inl rfl) _
  have s3 := s1.fo f3 (fun k hk e => by subst e; exact ng hk) (xqK hgc (by decide)) (one_noT hgc (by decide)) (one_noM hgc)
  have t3 : Stp (xqR a d) O' w w3 := ⟨t1.1.far f3 (fun k e => by have : k = g := e; omega), t1.2⟩
  have he3 : (rowX x L (i + 1))[i]? = some (setTx x e) := by
   rw [<- rowX_set x he, List.getElem?_set_self (by rw [hrn]; exact hlt)]
  have o3e := ownE_iff.2 o3
  obtain ⟨g3, c3, cur3, hv3, -, hgc3, hcel3⟩ := o3e.hit he3
  simp only [Value.slice.injEq, Option.some.injEq, Addr.mk.injEq] at hv3
  obtain ⟨⟨rfl, -⟩, -, -⟩ := hv3
  obtain ⟨b3, u3, d3, xs3, kq3, mg3, e13, e23, hO3⟩ := s3.ex
  have TL : (upd q.l q.c (q.l q.c ++ (L.take i).map (setTx x)) q.c).length < 1000000 := by
   rw [xqL, List.length_append, List.length_map, List.length_take]
   have := TB.out; have := HK.out; omega
  have KD : RowKit.Hid (Kept w3 w3.drew []) := iH (Kept.refl w3 []).drew
  have AD := iH (add_any (kq3.keep KD.out).sp (kq3.keep KD.out).ds TL (setTx x e))
  have S3 := iH (And.intro (KD.out.heap (by simp) kq3.hh) (KD.out.heap (by simp) hgc3))
  have HC3 := iH (fun (V : World) (hV : V.heap[g]? = some (.cells cur3 50 (0, 0))) => hcel3 V (by rw [hV, hgc3]))
  have O3 := iH o3; have KQ3 := iH kq3; have MG3 := iH mg3; have E13 := iH e13; have E23 := iH e23; have T3 := iH t3
  have NG3 : RowKit.Hid (¬ xqR a d3 g /\ g < w3.drew.heap.size /\ (Value.slice (some ⟨g, 0, none⟩) n cc).ownBlock = some g) := iH ⟨by rw [<- hO3]; exact ng, xqh (KD.out.heap (by simp) hgc3), rfl⟩
  rw [hO3] at T3
  have HW3 := iH hw3
  clear o1 s1 t1 n1 o1e hrn hgc hcel ng o3 f3 s3 t3 he3 o3e hgc3 hcel3 kq3 mg3 e13 e23 hO3 TL hw3 he hge
  go_upto_region 6 with fail
  rw [<- HW3.out]
  clear ctx fz
  obtain ⟨y0, y1, y2, y3, y4, y5, y6, y7⟩ := e
  simp only [setTx, Ev.cs] at AD HC3
  refine wp_region_held_drew (S := fun Z => Z.heap[a.h]? = some (.cells (kR a d3) quT (0, 0)) /\ Z.heap[g]? = some (.cells cur3 50 (0, 0))) (by kernel_rfl) S3.out (fun hJ => ?_)
  refine wx 0 23 (.pointer (some ⟨a.h, 0, none⟩)) rfl hJ ?_
  refine wx 1 24 (.pointer (some ⟨a.h, 0, none⟩)) rfl hJ ?_
  refine wx 2 25 (.pointer (some ⟨a.h, 1, none⟩)) rfl hJ ?_
  refine wx 3 26 (.pointer (some ⟨a.hs, 0, none⟩)) rfl hJ ?_ (hy := fun V hV => by (obtain ⟨q0, q1, q2, q3, q4⟩ := xqY hV.1; clear hV; go_simp))
  refine wx 4 27 (.slice (some ⟨g, 0, none⟩) n cc) rfl hJ ?_
  refine wx 5 28 (.int .i64 i) rfl hJ ?_
  refine wx 6 29 (.pointer (some ⟨g, i * 8, none⟩)) rfl hJ ?_
  refine wx 7 30 (.agg #[.int .i64 y0, .int .i64 x, .string y2, .int .i64 y3, .int .i64 y4, .int .u8 y5, .int .i64 y6, .string y7]) rfl hJ ?_ (hy := fun V hV => by (obtain ⟨q0, q1, q2, q3, q4, q5, q6, q7⟩ := HC3.out V hV.2; clear hV; go_simp))
  refine wr1 8 rfl (fun K hK => ?_)
  go_simp
  go_at_call 80
  refine (AD.out).mono ?_
  rintro r w5 ⟨rfl, V9, h1, h2, h3⟩
  obtain ⟨k5, t5⟩ := (KQ3.out.keep KD.out).ofSpools h1 h2 h3
  have S5 := iH (And.intro (show w5.heap[a.h]? = some (.cells (kR a d3) quT (0, 0)) from k5.hh) (t5.1.heap NG3.out.1 S3.out.2))
  have k5' : Kq w5 B a { d3 with V := V9 } (mkQ q now ((L.take (i + 1)).map (setTx x))).l (mkQ q now ((L.take (i + 1)).map (setTx x))).c xs3 (mkQ q now ((L.take (i + 1)).map (setTx x))).cs (mkQ q now ((L.take (i + 1)).map (setTx x))).rs := by (rw [yqi x HE.out]; show Kq w5 B a { d3 with V := V9 } (upd q.l q.c (q.l q.c ++ ((L.take i).map (setTx x) ++ [setTx x ⟨y0, y1, y2, y3, y4, y5, y6, y7⟩]))) q.c xs3 q.cs (lftI q.rs now); rw [<- upd_upd]; exact k5)
  have n5 : ∀ g9, (Value.slice (some ⟨g, 0, none⟩) n cc).ownBlock = some g9 -> ¬ xqR a { d3 with V := V9 } g9 := fun g9 h9 hf => by (rw [NG3.out.2.2] at h9; cases h9; exact (t5.2 g hf).elim NG3.out.1 (fun h8 => by have := NG3.out.2.1; omega))
  have o5 : OwnK encEv w5 w.heap.size evT (.slice (some ⟨g, 0, none⟩) n cc) (rowX x L (i + 1)) := (O3.out.keep KD.out).fo t5.1 (fun g9 h9 => by (rw [NG3.out.2.2] at h9; cases h9; exact NG3.out.1))
  have mg5 := (MG3.out.keep KD.out).fo t5.1 ((KQ3.out.keep KD.out).noT (by decide)) (KQ3.out.keep KD.out).noM
  have MS5 : RowKit.Hid (MtS w w5 B a st (xqR a d) q now x L (.slice (some ⟨g, 0, none⟩) n cc) (i + 1)) := iH ⟨o5, xqR a { d3 with V := V9 }, ⟨b3, u3, { d3 with V := V9 }, xs3, k5', mg5, E13.out, E23.out, rfl⟩, T3.out.trans (t5.afterK KD.out), n5⟩
  clear k5' n5 o5 mg5
  clear h1 h2 h3 k5 t5
  go_wp2_with fail
  refine hK.out _ _ S5.out (fun hJ => ?_)
  clear hK K
  refine wd ?_
  clear hJ
  go_wp2
  go_roundw
  case rel => exact ⟨i + 1, by go_num, by omega, MS5⟩
  case measure => simp [intOf]; omega
 have x1 : ¬ (i : Int) < (n : Int) := by omega
 have hin : i = n := by omega
 subst hin
 obtain ⟨o1, O', s1, t1, n1⟩ := MS.out
 have OX := iH o1; have PX : RowKit.Hid (KPost w B a st (xqR a d) (mkQ q now ((L.take i).map (setTx x))) wr) := iH ⟨O', s1, t1⟩
 clear o1 s1 t1 n1
 go_wp2
 go_ret
 have e1 : rowX x L i = mntV q x now := by rw [rowX_all x L (by rw [<- HN.out]; exact Nat.le_refl _), RV.out]
 have e2 : mkQ q now ((L.take i).map (setTx x)) = mntQ q x now := by rw [List.take_of_length_le (by rw [<- HN.out]; exact Nat.le_refl _), mkQ, mntQ, RV.out]
 rw [<- e1, <- e2]
 exact ⟨_, rfl, OX.out, PX.out⟩
variable {w w' : World} {B : Nat} {a : Hk} {st : List Nat} {q : Qs} {O : Nat -> Prop}
theorem Tryz.infoSn : (Tryz.prog.info? 36).map (fun i => (i.zero, i.size, i.bytes)) = some (some (.agg #[.int .i64 0, .slice none 0 0]), 2, 32) := by kernel_rfl
structure Sn where
 M : Int
 a : Option Addr
 l : List Int
 c : Nat
def Sn.op (x : Sn) : Value := .slice x.a x.l.length x.c
def Sn.sv (x : Sn) : Sv := ⟨x.M, x.op, x.l⟩
def Sn.cs (x : Sn) : Array Value := #[.int .i64 x.M, .slice x.a x.l.length x.c]
def encSn : Enc Sn where
 k := 2
 cs := Sn.cs
 size := fun _ => rfl
 one := fun x u h => by
  simp only [Sn.cs, List.mem_cons, List.not_mem_nil, or_false] at h
  rcases h with rfl | rfl <;> rfl
 pos := by decide
def Sn.ml (x : Sn) : Int × List Int := (x.M, x.l)
def Pt.ml (x : Pt) : Int × List Int := (x.M, x.l)
theorem rdS_of {base : Nat} {e : TypeId} {v : Value} {ss : List Sn} (h : OwnK encSn w base e v ss) (hr : ∀ s ∈ ss, RdT w s.op s.l) : RdS w v (ss.map Sn.sv) := by
 obtain ⟨u, c, rfl⟩ := h.shape
 refine ⟨u, c, by rw [List.length_map], fun i s hs => ?_, fun s hs => ?_⟩
 ·rw [List.getElem?_map] at hs
  cases hx : ss[i]? with
  | none => rw [hx] at hs; cases hs
  | some y =>
  rw [hx] at hs
  simp only [Option.map_some, Option.some.injEq] at hs
  subst hs
  obtain ⟨g, rfl, hc⟩ := h.at hx
  refine ⟨g, 0, rfl, ?_, ?_⟩
  ·rw [Nat.zero_add]; exact (hc 0 (by decide)).1
  rw [Nat.zero_add]; exact (hc 1 (by decide)).1
 obtain ⟨y, hy, rfl⟩ := List.mem_map.1 hs
 exact (hr y hy).1
theorem need_of {ss : List Sn} {ps : List Pt} (h : ss.map Sn.ml = ps.map Pt.ml) (st : List Nat) (e : Ev) : yqq st (ss.map Sn.sv) e = needP st ps e := by
 rw [needB_map]
 refine needP_congr (fun p => ?_) e
 have k : ∀ m : Int × List Int, (m ∈ ss.map Sn.ml) ↔ m ∈ ps.map Pt.ml := fun m => by rw [h]
 have k2 := k (p.M, p.l)
 simp only [List.mem_map] at k2
 constructor
 ·rintro ⟨x, hx, e1, e2⟩
  simp only [List.map_map, List.mem_map] at hx
  obtain ⟨y, hy, rfl⟩ := hx
  obtain ⟨z, hz, e3⟩ := k2.1 ⟨y, hy, by show (y.M, y.l) = _; rw [<- e1, <- e2]; rfl⟩
  simp only [Pt.ml, Prod.mk.injEq] at e3
  exact ⟨z, hz, e3.1, e3.2⟩
 rintro ⟨x, hx, e1, e2⟩
 obtain ⟨z, hz, e3⟩ := k2.2 ⟨x, hx, by show (x.M, x.l) = _; rw [e1, e2]⟩
 simp only [Sn.ml, Prod.mk.injEq] at e3
 refine ⟨_, List.mem_map_of_mem (List.mem_map_of_mem hz), e3.1, e3.2⟩
theorem tckP_last (h : RiseN q.ps) {p : Pt} (hp : q.ps.getLast? = some p) : tckP q (xqk q.ps) = p := by
 have e : xqk q.ps = p.n := by unfold xqk; rw [hp]
 rw [e, tckP, h.get (List.mem_of_getLast? hp)]
 rfl
def StS (w wr : World) (zb : Nat) (q : Qs) (v : Value) (ss : List Sn) (k : Nat) : Prop :=
 OwnK encSn wr zb 36 v ss /\ (∀ s ∈ ss, RdT wr s.op s.l) /\ ss.map Sn.ml = ((q.cs.take k).map fun x => tckP q x.la).map Pt.ml /\ Kept w wr []
theorem snoc_sn {w3 w4 : World} {base : Nat} {v3 v4 : Value} {ss : List Sn} {x : Sn} (hn : w4.ownsRow base 36 2 v4 (ss.length + 1) (kcs encSn ss ++ (encSn.cs x).toList)) : OwnK encSn w4 base 36 v4 (ss ++ [x]) := by
 unfold OwnK
 rw [xqi, xqz, List.length_append]
 exact hn
theorem kstarts_any (s : KS w B a st q O) {k : Nat} (z : SzQ k q) (hk : k <= 1000) : Calls Tryz.prog 110 #[.pointer (some ⟨a.h, 0, none⟩)] w fun e w' => ∃ (v : Value) (ss : List Sn), e = .returned v /\ OwnK encSn w' w.heap.size 36 v ss /\ (∀ s ∈ ss, RdT w' s.op s.l) /\ ss.map Sn.ml = (snpP q).map Pt.ml /\ Kept w w' [] := by
 obtain ⟨i0, hi0, hz0, hz1, hz2⟩ := info_parts Tryz.infoSn
 have SN := iH (fun (m : Int) (Z : World) (hZ : Kept w Z []) => ksnap_any (s.keep hZ) z m)
 have CL := iH (fun (Z : World) (hZ : Kept w Z []) => (s.keep hZ).cells.1)
 have RI := iH z.ok.rise
 have few := z.ok.okc.few
 obtain ⟨b, u, d, xs, kq, g, e1, e2, rfl⟩ := s.ex
 have AL := iH (call_any kq.cu (by omega))
 have hxs : xs.length = q.ps.length := by rw [<- e1, List.length_map]
 have x64 : xs.length <= 64 := by rw [hxs]; exact z.ok.okp.size
 have X64 := iH x64; have HXS := iH hxs
 have TL := iH (fun (Z : World) (hZ : Kept w Z []) => yqc (kq.keep hZ).tk)
 have LA := iH (fun (Z : World) (hZ : Kept w Z []) => (show Calls Tryz.prog 41 #[.pointer (some ⟨a.ht, 0, none⟩)] Z fun e w' => e = .returned (.int .i64 (xqk q.ps)) /\ Kept Z w' [] from by rw [<- e1]; exact xq2 (kq.keep hZ).tk (by omega)))
 obtain ⟨c0, c1, c2, c3, c4⟩ := CL.out w (Kept.refl w [])
 clear s z hk kq g e1 e2 hxs x64
 go_enter Tryz.func110, Tryz.ntmps110
 go_wp2_with fail
 refine AL.out.mono ?_
 rintro e w2 ⟨v, rfl, ov, k2⟩
 obtain ⟨uc, cc, hv⟩ := ov.shape
 subst hv
 have OV := iH ov; have K2 := iH k2
 obtain ⟨zb, hzb⟩ : ∃ zb, zb = w2.heap.size := ⟨_, rfl⟩
 have HZ := iH hzb
 clear hzb
 obtain ⟨n, hn⟩ : ∃ n, n = q.cs.length := ⟨_, rfl⟩
 have HN := iH hn
 rw [<- hn] at OV few ⊢
 clear ov k2 hn c0 c1 c2 c3 c4
 go_wp2
 go_loopw [3, 5, 12] (fun s3 _ s12 wr => ∃ (i : Nat) (ue : Option Addr) (ce : Nat) (ss : List Sn), s12 = .int .i64 i /\ s3 = .slice ue i ce /\ i <= n /\ RowKit.Hid (ss.length = i) /\ RowKit.Hid (StS w wr zb q (.slice ue i ce) ss i) /\ RowKit.Hid (Kept w2 wr [])) (fun _ _ s12 _ => n - (intOf s12).toNat)
 case atStart => exact ⟨0, none, 0, [], rfl, rfl, Nat.zero_le _, iH rfl, iH ⟨OwnK.nil _ _ _, by simp, rfl, K2.out⟩, iH (Kept.refl w2 [])⟩
 case round =>
 obtain ⟨i, ue, ce, ss, rfl, rfl, hi, HL, SS, KW⟩ := hrel
 by_cases hlt : i < n
 ·have x1 : (i : Int) < (n : Int) := by omega
  obtain ⟨x, hx⟩ : ∃ x, q.cs[i]? = some x := ⟨_, List.getElem?_eq_getElem (by rw [<- HN.out]; exact hlt)⟩
  have ov := OV.out.keep KW.out
  obtain ⟨g, rfl, hc⟩ := ov.at hx
  have q0 := (hc 0 (by decide)).1; have q1 := (hc 1 (by decide)).1; have q2 := (hc 2 (by decide)).1
  obtain ⟨b0, b1, b2⟩ := x
  change wr.cell? ⟨g, i * 3, none⟩ = some (.string b0) at q0
  change wr.cell? ⟨g, i * 3 + 1, none⟩ = some (.int .i64 b1) at q1
  change wr.cell? ⟨g, i * 3 + 2, none⟩ = some (.int .i64 b2) at q2
  have HX := iH hx
  obtain ⟨W3, hW3⟩ : ∃ W3, W3 = wr.alloc (.cells #[.string b0, .int .i64 b1, .int .i64 b2] cuE) := ⟨_, rfl⟩
  have k3 : Kept wr W3 [] := by rw [hW3]; exact (Kept.refl wr []).alloc _
  have g3 : W3.heap[wr.heap.size]? = some (.cells #[.string b0, .int .i64 b1, .int .i64 b2] cuE (0, 0)) := by rw [hW3]; exact heap_alloc_new wr _
  have r1 : W3.cell? ⟨wr.heap.size, 1, none⟩ = some (.int .i64 b1) := by rw [cell_of_row _ _ _ _ _ _ g3]; rfl
  have K3 := iH k3; have HW3 := iH hW3
  have S1 := iH (SN.out b1 W3 (SS.out.2.2.2.trans k3 (by simp)))
  obtain ⟨PA, hPA⟩ : ∃ P, P = tckP q b1 := ⟨_, rfl⟩
  rw [<- hPA] at S1
  have HPA := iH hPA
  clear ov hc hx k3 g3 hW3 hPA
  go_upto_region 5 with fail
  rw [<- HW3.out]
  clear q0 q1 q2
  go_wp2_with fail
  refine S1.out.mono ?_
  rintro e w5 ⟨va, vc, rfl, rt, k5⟩
  have RT := iH rt
  have K5 := iH (K3.out.trans k5 (by simp))
  obtain ⟨w6, hw6⟩ : ∃ w6, w6 = w5.alloc (.cells #[.int .i64 PA.M, .slice va PA.l.length vc] 36) := ⟨_, rfl⟩
  have k6 : Kept w5 w6 [] := by rw [hw6]; exact (Kept.refl w5 []).alloc _
  have SRC := xqQ (E := encSn) (P := Tryz.prog) (t := 36) w5 ⟨PA.M, va, PA.l, vc⟩ (tx := 157) Tryz.underlying157
  simp only [encSn, Sn.cs] at SRC
  rw [<- hw6] at SRC
  have SRC := iH SRC
  have OO := SS.out.1.keep (K5.out.trans k6 (by simp))
  unfold OwnK at OO
  rw [HL.out] at OO
  have OO := iH OO
  have K6 := iH (K5.out.trans k6 (by simp))
  have HS := iH (show zb <= w6.heap.size by have := (KW.out.trans K6.out (by simp)).size; rw [HZ.out]; exact this)
  have HW6 := iH hw6
  rw [hw6] at OO SRC HS
  clear rt k5 k6 hw6 r1
  go_wp2_with (at_builtin; refine xqa _ rfl (.tmp 16) (.tmp 21) 157 157 rfl zb 36 i0 _ 2 32 Tryz.underlying157 hi0 hz0 hz1 hz2 rfl (.slice ue i ce) i (kcs encSn ss) rfl OO.out (.slice (some ⟨w5.heap.size, 0, none⟩) 1 1) 1 _ rfl SRC.out (by unfold maxLen; omega) (by omega) HS.out ?nexta)
  case nexta =>
  intro v4 w4 hown _ hgrow _
  rw [<- HW6.out] at hgrow
  have o4 : OwnK encSn w4 zb 36 v4 (ss ++ [⟨PA.M, va, PA.l, vc⟩]) := by
   refine snoc_sn (w3 := w4) (v3 := v4) ?_
   rw [HL.out]
   exact hown
  have kg : Kept w2 w4 [] := (KW.out.trans K6.out (by simp)).grown hgrow (fun k hk => .inr (by have := (SS.out.1.lt k hk).1; rw [HZ.out] at this; exact this))
  have fg : Fo (fun k => (Value.slice ue i ce).ownBlock = some k) w6 w4 := (Fo.refl _ w6).grown hgrow (fun k hk => .inl hk)
  have ng : NoI w6 (fun k => (Value.slice ue i ce).ownBlock = some k) := fun k hk c2 f2 h2 => by
   obtain ⟨cur, hc⟩ := (SS.out.1.keep K6.out).tag hk
   exact absurd (xqA hc h2) (by decide)
  obtain ⟨u4, c4, e4⟩ := o4.shape
  rw [List.length_append, HL.out] at e4
  subst e4
  have S4 : RowKit.Hid (StS w w4 zb q (.slice u4 (i + 1) c4) (ss ++ [⟨PA.M, va, PA.l, vc⟩]) (i + 1)) := iH ⟨o4, fun s hs => by
    rcases List.mem_append.1 hs with hs | hs
    ·exact ((SS.out.2.1 s hs).keep K6.out).fo fg ng
    ·rw [List.mem_singleton] at hs; subst hs
     exact (RT.out.keep (show Kept w5 w6 [] by rw [HW6.out]; exact (Kept.refl w5 []).alloc _)).fo fg ng, by
    rw [List.take_add_one, HX.out, List.map_append, List.map_append, List.map_append, SS.out.2.2.1, HPA.out]; rfl, K2.out.trans kg (by simp)⟩
  have L4 : RowKit.Hid ((ss ++ [(⟨PA.M, va, PA.l, vc⟩ : Sn)]).length = i + 1) := iH (by rw [List.length_append, HL.out]; rfl)
  have KW4 := iH kg
  clear fg ng
  clear hown hgrow o4 kg
  go_wp2
  go_roundw
  case rel => exact ⟨i + 1, u4, c4, _, by go_num, rfl, by omega, L4, S4, KW4⟩
  case measure => simp [intOf]; omega
 have x1 : ¬ (i : Int) < (n : Int) := by omega
 have hin : i = n := by omega
 subst hin
 have SE : RowKit.Hid (ss.map Sn.ml = (q.cs.map fun x => tckP q x.la).map Pt.ml) := iH (by have := SS.out.2.2.1; rw [List.take_of_length_le (by rw [<- HN.out]; exact Nat.le_refl _)] at this; exact this)
 obtain ⟨c0, c1, c2, c3, c4⟩ := CL.out wr SS.out.2.2.2
 clear c0 c1 c3 c4
 obtain ⟨X, hX⟩ : ∃ X, X = xs.length := ⟨_, rfl⟩
 have TL1 := TL.out wr SS.out.2.2.2
 rw [<- hX] at TL1
 have TL1 := iH TL1
 have HXX := iH hX
 have X6 : X <= 64 := by rw [hX]; exact X64.out
 clear hX
 by_cases h0 : X = 0
 ·subst h0
  have hp : q.ps = [] := List.eq_nil_of_length_eq_zero (by rw [<- HXS.out, <- HXX.out])
  have RR : RowKit.Hid ((snpP q).map Pt.ml = (q.cs.map fun x => tckP q x.la).map Pt.ml) := iH (by simp [snpP, hp])
  clear hp X6
  go_wp2_with fail
  refine TL1.out.mono ?_
  rintro e w3 ⟨rfl, hw⟩
  have hw2 := hw.symm; clear hw; subst hw2
  go_wp2
  go_ret
  refine ⟨_, ss, rfl, SS.out.1.mono (by rw [HZ.out]; exact K2.out.size), SS.out.2.1, by rw [RR.out]; exact SE.out, SS.out.2.2.2⟩
 have hX0 : 0 < X := by omega
 have x3 : (0 : Int) < (X : Int) := by omega
 obtain ⟨p, hp⟩ : ∃ p, q.ps.getLast? = some p := by
  cases hq : q.ps.getLast? with
  | none => rw [List.getLast?_eq_none_iff] at hq; have h1 := HXS.out; have h2 := HXX.out; rw [hq, List.length_nil] at h1; omega
  | some p => exact ⟨p, rfl⟩
 have RR : RowKit.Hid ((snpP q).map Pt.ml = (q.cs.map fun x => tckP q x.la).map Pt.ml ++ [p.ml]) := iH (by simp [snpP, hp])
 have TP : RowKit.Hid (tckP q (xqk q.ps) = p) := iH (tckP_last RI.out hp)
 obtain ⟨LN, hLN⟩ : ∃ LN, LN = xqk q.ps := ⟨_, rfl⟩
 have LA1 := iH (LA.out wr SS.out.2.2.2)
 have SN1 := iH (fun (Z : World) (hZ : Kept wr Z []) => SN.out LN Z (SS.out.2.2.2.trans hZ (by simp)))
 rw [<- hLN] at LA1 TP
 rw [TP.out] at SN1
 clear hp h0 hX0 hLN
 go_wp2_with fail
 refine TL1.out.mono ?_
 rintro e w3 ⟨rfl, hw⟩
 have hw2 := hw.symm; clear hw; subst hw2
 go_wp2_with fail
 refine LA1.out.mono ?_
 rintro e w4 ⟨rfl, k4⟩
 have K4 := iH k4
 clear k4 c2
 go_wp2_with fail
 refine (SN1.out w4 K4.out).mono ?_
 rintro e w5 ⟨va, vc, rfl, rt, k5⟩
 have RT := iH rt
 have K5 := iH (K4.out.trans k5 (by simp))
 obtain ⟨w6, hw6⟩ : ∃ w6, w6 = w5.alloc (.cells #[.int .i64 p.M, .slice va p.l.length vc] 36) := ⟨_, rfl⟩
 have k6 : Kept w5 w6 [] := by rw [hw6]; exact (Kept.refl w5 []).alloc _
 have SRC := xqQ (E := encSn) (P := Tryz.prog) (t := 36) w5 ⟨p.M, va, p.l, vc⟩ (tx := 157) Tryz.underlying157
 simp only [encSn, Sn.cs] at SRC
 rw [<- hw6] at SRC
 have SRC := iH SRC
 have OO := SS.out.1.keep (K5.out.trans k6 (by simp))
 unfold OwnK at OO
 rw [HL.out] at OO
 have OO := iH OO
 have K6 := iH (K5.out.trans k6 (by simp))
 have HS := iH (show zb <= w6.heap.size by have := (KW.out.trans K6.out (by simp)).size; rw [HZ.out]; exact this)
 have HW6 := iH hw6
 rw [hw6] at OO SRC HS
 clear rt k5 k6 hw6
 go_wp2_with (at_builtin; refine xqa _ rfl (.tmp 30) (.tmp 38) 157 157 rfl zb 36 i0 _ 2 32 Tryz.underlying157 hi0 hz0 hz1 hz2 rfl (.slice ue i ce) i (kcs encSn ss) rfl OO.out (.slice (some ⟨w5.heap.size, 0, none⟩) 1 1) 1 _ rfl SRC.out (by unfold maxLen; omega) (by omega) HS.out ?nextb)
 case nextb =>
 intro v4 w7 hown _ hgrow _
 rw [<- HW6.out] at hgrow
 have o4 : OwnK encSn w7 zb 36 v4 (ss ++ [⟨p.M, va, p.l, vc⟩]) := by
  refine snoc_sn (w3 := w7) (v3 := v4) ?_
  rw [HL.out]
  exact hown
 have kg : Kept w2 w7 [] := (KW.out.trans K6.out (by simp)).grown hgrow (fun k hk => .inr (by have := (SS.out.1.lt k hk).1; rw [HZ.out] at this; exact this))
 have fg : Fo (fun k => (Value.slice ue i ce).ownBlock = some k) w6 w7 := (Fo.refl _ w6).grown hgrow (fun k hk => .inl hk)
 have ng : NoI w6 (fun k => (Value.slice ue i ce).ownBlock = some k) := fun k hk c2 f2 h2 => by
  obtain ⟨cur, hc⟩ := (SS.out.1.keep K6.out).tag hk
  exact absurd (xqA hc h2) (by decide)
 obtain ⟨u4, c4, e4⟩ := o4.shape
 rw [List.length_append, HL.out] at e4
 subst e4
 have R4 := iH (show ∀ s ∈ ss ++ [(⟨p.M, va, p.l, vc⟩ : Sn)], RdT w7 s.op s.l from fun s hs => by
  rcases List.mem_append.1 hs with hs | hs
  ·exact ((SS.out.2.1 s hs).keep K6.out).fo fg ng
  ·rw [List.mem_singleton] at hs; subst hs
   exact (RT.out.keep (show Kept w5 w6 [] by rw [HW6.out]; exact (Kept.refl w5 []).alloc _)).fo fg ng)
 have O4 := iH o4; have KG := iH kg
 clear hown hgrow o4 kg fg ng
 go_wp2
 go_ret
 exact ⟨_, _, rfl, O4.out.mono (by rw [HZ.out]; exact K2.out.size), R4.out, by rw [RR.out, List.map_append, SE.out]; rfl, K2.out.trans KG.out (by simp)⟩
theorem kfre_any (s : KS w B a st q O) {k : Nat} (z : SzQ k q) (hk : k <= 1000) : Calls Tryz.prog 44 #[.pointer (some ⟨a.h, 0, none⟩)] w fun e w' => e = .returned (.bool (freQ st q)) /\ Kept w w' [] := by
 have ST := iH (fun (Z : World) (hZ : Kept w Z []) => kstarts_any (s.keep hZ) z hk)
 have MAN := iH (fun (Z : World) (hZ : Kept w Z []) => (s.keep hZ).man)
 obtain ⟨b, u, d, xs, kq, g, e1, e2, rfl⟩ := s.ex
 have NX := iH (fun (Z : World) (hZ : Kept w Z []) => nextl_any (kq.keep hZ).sp (by have := z.tabs hk (nxt q.c) (xq1 q.c); omega))
 have CF : RowKit.Hid (∀ Z, Kept w Z [] -> Z.heap[a.h]? = some (.cells (kR a d) quT (0, 0))) := iH (fun Z hZ => (kq.keep hZ).hh)
 have LN := iH (z.tabs hk (nxt q.c) (xq1 q.c))
 have WF := iH (show ∀ e ∈ q.l (nxt q.c), (Lit.int .i64 e.tx).wf = true from fun e he => (z.ev e (xq9.2 ⟨_, xq1 q.c, he⟩)).wf)
 have FL := iH (show (snpP q).length <= 100 by
  have h1 := z.ok.okc.few
  rw [snpP, List.length_append, List.length_map]
  cases q.ps.getLast? <;> simp <;> omega)
 clear s z hk kq g e1 e2
 go_enter Tryz.func44, Tryz.ntmps44
 go_upto_region 3 with fail
 refine wp_region_held_drew (S := fun Z => Kept w Z []) (by kernel_rfl) (Kept.refl w []).drew (fun hJ => ?_)
 refine wx 0 5 (.pointer (some ⟨a.h, 0, none⟩)) rfl hJ ?_
 refine wx 1 6 (.pointer (some ⟨a.h, 0, none⟩)) rfl hJ ?_
 refine wx 2 7 (.pointer (some ⟨a.h, 1, none⟩)) rfl hJ ?_
 refine wx 3 8 (.pointer (some ⟨a.hs, 0, none⟩)) rfl hJ ?_ (hy := fun V hV => by (obtain ⟨q0, q1, q2, q3, q4⟩ := xqY (CF.out V hV); clear hV; go_simp))
 refine wx 5 10 (.pointer (some ⟨a.h, 0, none⟩)) rfl hJ ?_
 refine wx 6 11 (.pointer (some ⟨a.h, 0, none⟩)) rfl hJ ?_
 refine wx 7 12 (.pointer (some ⟨a.h, 0, none⟩)) rfl hJ ?_
 refine wx 8 13 (.pointer (some ⟨a.p, 0, none⟩)) rfl hJ ?_ (hy := fun V hV => by (obtain ⟨q0, q1, q2, q3, q4⟩ := xqY (CF.out V hV); clear hV; go_simp))
 refine wx 9 14 (.pointer (some ⟨a.h, 0, none⟩)) rfl hJ ?_
 refine wr1 4 rfl (fun K hK => ?_)
 go_simp
 go_at_call 109
 refine (NX.out _ (Kept.refl w []).drew).mono ?_
 rintro r wa ⟨v1, rfl, o1, ka⟩
 have KA := iH ((Kept.refl w []).drew.trans ka (by simp)); have O1 := iH o1
 clear o1 ka
 go_wp2_with fail
 refine hK.out _ _ KA.out (fun hJ => ?_)
 clear hK K
 refine wr1 10 rfl (fun K hK => ?_)
 go_simp
 go_at_call 110
 refine (ST.out _ KA.out).mono ?_
 rintro r wb ⟨v2, ss, rfl, o2, rd2, ml, kb⟩
 have KB := iH (KA.out.trans kb (by simp)); have O12 := iH (O1.out.kept kb (by simp))
 have BF := iH (bfree_any (st := st) (x := some ⟨a.p, 0, none⟩) O12.out.rd LN.out (MAN.out _ KB.out) (rdS_of o2 rd2) (by have h1 := congrArg List.length ml; rw [List.length_map, List.length_map] at h1; rw [List.length_map, h1]; have := FL.out; omega) WF.out)
 have EQ : RowKit.Hid (freeB st (ss.map Sn.sv) (q.l (nxt q.c)) = freQ st q) := iH (by unfold freeB freQ; congr 2; funext e; exact need_of ml st e)
 generalize freeB st (ss.map Sn.sv) (q.l (nxt q.c)) = fb at *
 clear o2 rd2 ml kb
 go_wp2_with fail
 refine hK.out _ _ KB.out (fun hJ => ?_)
 clear hK K
 refine wr1 11 rfl (fun K hK => ?_)
 go_simp
 go_at_call 108
 refine (BF.out).mono ?_
 rintro r wc ⟨rfl, kc⟩
 have KF := iH (KB.out.trans kc (by simp))
 clear kc
 go_wp2_with fail
 refine hK.out _ _ KF.out (fun hJ => ?_)
 clear hK K
 refine wx 12 2 (.bool fb) rfl hJ ?_
 refine wd ?_
 clear hJ
 go_wp2
 go_ret
 exact ⟨congrArg (fun x => Ending.returned (.bool x)) EQ.out, KF.out⟩
theorem krot_any (s : KS w B a st q O) {k : Nat} (z : SzQ k q) (hk : k <= 1000) : Calls Tryz.prog 24 #[.pointer (some ⟨a.h, 0, none⟩)] w fun e w' => e = .returned (.tuple #[.int .u8 (rotQ st q).1, .int .i64 (rotQ st q).2.1]) /\ KPost w B a st O (rotQ st q).2.2 w' := by
 have KP := iH (yqM s)
 have FR := iH (kfre_any s z hk)
 obtain ⟨b, u, d, xs, kq, g, e1, e2, rfl⟩ := s.ex
 have KQ := iH kq; have MG := iH g; have E1 := iH e1; have E2 := iH e2
 obtain ⟨f, hf⟩ : ∃ f, f = freQ st q := ⟨_, rfl⟩
 rw [<- hf] at FR
 have HR : RowKit.Hid (rotQ st q = ((rotS q.l q.c f).1, (rotS q.l q.c f).2.1, { q with l := (rotS q.l q.c f).2.2.1, c := (rotS q.l q.c f).2.2.2 })) := iH (by rw [hf]; rfl)
 rw [HR.out]
 clear s z hk kq g e1 e2 hf
 go_enter Tryz.func24, Tryz.ntmps24
 go_wp2_with fail
 refine KP.out.mono ?_
 rintro e w1 ⟨rfl, hw⟩
 have hw2 := hw.symm; clear hw; subst hw2
 go_wp2_with fail
 refine FR.out.mono ?_
 rintro e w2 ⟨rfl, k2⟩
 have K2 := iH k2; clear k2
 go_wp2_with fail
 refine (srotate_any (KQ.out.keep K2.out).sp KQ.out.ds f).mono ?_
 rintro e w3 ⟨rfl, V', h1, h2, h3⟩
 have PP := iH (KPost.of (q := { q with l := (rotS q.l q.c f).2.2.1, c := (rotS q.l q.c f).2.2.2 }) (KQ.out.keep K2.out) (MG.out.keep K2.out) ((KQ.out.keep K2.out).ofSpools h1 h2 h3) E1.out E2.out)
 obtain ⟨r1, hr1⟩ : ∃ r, r = (rotS q.l q.c f).1 := ⟨_, rfl⟩
 obtain ⟨r2, hr2⟩ : ∃ r, r = (rotS q.l q.c f).2.1 := ⟨_, rfl⟩
 rw [<- hr1, <- hr2]
 have HR1 := iH hr1; have HR2 := iH hr2
 clear hr1 hr2
 clear h1 h2 h3
 go_wp2
 (try simp only [Exit.inBlock, Exit.then])
 refine bodyPost_ret (v := .tuple #[.int .u8 r1, .int .i64 r2]) (by simp [results, Tryz.results24, go_sem]) rfl ?_
 obtain ⟨O', p1, p2⟩ := PP.out
 exact ⟨by rw [HR1.out, HR2.out], O', p1, p2.afterK K2.out⟩
variable {w w' : World} {B : Nat} {a : Hk} {st : List Nat} {q : Qs} {O : Nat -> Prop}
def begE (st : List Nat) : Int := if 6 <= (xqp st).length then 8 else 0
def begV (st : List Nat) : Int := if 6 <= (xqp st).length then 0 else (st.length : Int) + 1
def begS (st : List Nat) : List Nat := if 6 <= (xqp st).length then st else st ++ [1]
def endE (st : List Nat) (x : Int) : Int := if stAt st x = 1 then 0 else 7
def endS (st : List Nat) (x : Int) (s : Nat) : List Nat := if stAt st x = 1 then st.set (x.toNat - 1) s else st
theorem begS_len (st : List Nat) : (begS st).length <= st.length + 1 := by unfold begS; split <;> simp
theorem endS_len (st : List Nat) (x : Int) (s : Nat) : (endS st x s).length = st.length := by unfold endS; split <;> simp
def MPost (w : World) (B : Nat) (a : Hk) (st' : List Nat) (q : Qs) (O : Nat -> Prop) (w' : World) : Prop := KS w' B a st' q O /\ Fm B mts w w'
theorem KS.mg (s : KS w B a st q O) : ∃ (b : Nat) (u : Value), Mg w B a.p b u st := by
 obtain ⟨b, u, d, xs, kq, g, e1, e2, rfl⟩ := s.ex
 exact ⟨b, u, g⟩
theorem KS.mstep (s : KS w B a st q O) {b' : Nat} {u' : Value} {st' : List Nat} (m : Mg w' B a.p b' u' st') (f : Fm B mts w w') : MPost w B a st' q O w' := by
 obtain ⟨b, u, d, xs, kq, g, e1, e2, rfl⟩ := s.ex
 exact ⟨⟨b', u', d, xs, kq.mg f, m, e1, e2, rfl⟩, f⟩
theorem kbegin_any (s : KS w B a st q O) (hl : st.length <= 1000) : Calls Tryz.prog 18 #[.pointer (some ⟨a.p, 0, none⟩)] w fun e w' => e = .returned (.tuple #[.int .i64 (begV st), .int .i64 (begE st)]) /\ MPost w B a (begS st) q O w' := by
 obtain ⟨b, u, g⟩ := s.mg
 by_cases h : 6 <= (xqp st).length
 ·refine (mbegin_full g (.inl h)).mono ?_
  rintro e w' ⟨rfl, rfl⟩
  exact ⟨by rw [begV, begE, if_pos h, if_pos h], by rw [begS, if_pos h]; exact s.mstep g (Fm.refl _ _ _)⟩
 refine (mbegin_ok g (by omega) (by omega)).mono ?_
 rintro e w' ⟨rfl, v', m, f⟩
 exact ⟨by rw [begV, begE, if_neg h, if_neg h], by rw [begS, if_neg h]; exact s.mstep m f⟩
theorem kcommit_any (s : KS w B a st q O) (x : Int) (hx : (Lit.int .i64 x).wf = true) : Calls Tryz.prog 21 #[.pointer (some ⟨a.p, 0, none⟩), .int .i64 x] w fun e w' => e = .returned (.int .i64 (endE st x)) /\ MPost w B a (endS st x 2) q O w' := by
 obtain ⟨b, u, g⟩ := s.mg
 by_cases h : stAt st x = 1
 ·refine (mcommit_ok g x hx h).mono ?_
  rintro e w' ⟨rfl, m, f⟩
  exact ⟨by rw [endE, if_pos h], by rw [endS, if_pos h]; exact s.mstep m f⟩
 refine (mcommit_bad g x hx h).mono ?_
 rintro e w' ⟨rfl, rfl⟩
 exact ⟨by rw [endE, if_neg h], by rw [endS, if_neg h]; exact s.mstep g (Fm.refl _ _ _)⟩
theorem kabort_any (s : KS w B a st q O) (x : Int) (hx : (Lit.int .i64 x).wf = true) : Calls Tryz.prog 22 #[.pointer (some ⟨a.p, 0, none⟩), .int .i64 x] w fun e w' => e = .returned (.int .i64 (endE st x)) /\ MPost w B a (endS st x 3) q O w' := by
 obtain ⟨b, u, g⟩ := s.mg
 by_cases h : stAt st x = 1
 ·refine (mabort_ok g x hx h).mono ?_
  rintro e w' ⟨rfl, m, f⟩
  exact ⟨by rw [endE, if_pos h], by rw [endS, if_pos h]; exact s.mstep m f⟩
 refine (mabort_bad g x hx h).mono ?_
 rintro e w' ⟨rfl, rfl⟩
 exact ⟨by rw [endE, if_neg h], by rw [endS, if_neg h]; exact s.mstep g (Fm.refl _ _ _)⟩
def Kh (w0 w : World) (a : Hk) (st : List Nat) (q : Qs) : Prop := (∃ O, KS w w0.heap.size a st q O) /\ Kept w0 w []
variable {w0 : World}
theorem Kh.post {q' : Qs} (s : KS w w0.heap.size a st q O) (k0 : Kept w0 w []) (p : KPost w w0.heap.size a st O q' w') : Kh w0 w' a st q' := by
 obtain ⟨O', s', t⟩ := p
 exact ⟨⟨O', s'⟩, k0.foC t.1 (fun k hk => (s.lt k hk).1)⟩
theorem Kh.mpost {st' : List Nat} (k0 : Kept w0 w []) (p : MPost w w0.heap.size a st' q O w') : Kh w0 w' a st' q :=
 ⟨⟨O, p.1⟩, ((Fm.ofKept k0 w0.heap.size mts).trans p.2).kept (Nat.le_refl _)⟩
theorem kh_new (k0 : Kept w0 w []) : Calls Tryz.prog 13 #[] w fun e w1 => ∃ p, e = .returned (.pointer (some ⟨p, 0, none⟩)) /\ Kept w0 w1 [] /\
  Hid (∀ w2, Kept w1 w2 [] -> Calls Tryz.prog 14 #[.pointer (some ⟨p, 0, none⟩)] w2 fun e w' => ∃ a, e = .returned (.pointer (some ⟨a.h, 0, none⟩)) /\ a.p = p /\ Kh w0 w' a [] Qs.new /\ Kept w2 w' []) := by
 refine (mnew_any w).mono ?_
 rintro e w1 ⟨p, b, v, rfl, g, k1⟩
 refine ⟨p, rfl, k0.trans k1 (by simp), iH (fun w2 k2 => ?_)⟩
 refine (knew_any (B := w0.heap.size) (g.keep k2) k0.size (by have := (k0.trans (k1.trans k2 (by simp)) (by simp)).size; exact this)).mono ?_
 rintro e w3 ⟨a, O, rfl, rfl, s, k3, _⟩
 exact ⟨a, rfl, rfl, ⟨⟨O, s⟩, k0.trans (k1.trans (k2.trans k3 (by simp)) (by simp)) (by simp)⟩, k3⟩
theorem early_any (w : World) : Calls Tryz.prog 9 #[] w fun e w' => e = .returned (.bool true) /\ Kept w w' [] := by
 go_enter Tryz.func9, Tryz.ntmps9
 go_wp2_with fail
 refine (kh_new (Kept.refl w [])).mono ?_
 rintro e w1 ⟨p, rfl, k1, hn⟩
 have K1 := iH k1; clear k1
 go_wp2_with fail
 refine (hn.out w1 (Kept.refl _ _)).mono ?_
 rintro e w2 ⟨a, rfl, rfl, c, k2⟩
 obtain ⟨⟨O, s⟩, k0⟩ := c
 have S := iH s; have K0 := iH k0
 have RG := iH (krgs_any s SzQ.new (by omega) ⟨#[97]⟩)
 have r1 : rgsE Qs.new ⟨#[97]⟩ = 9 := rfl
 have r2 : rgsQ Qs.new ⟨#[97]⟩ = Qs.new := rfl
 rw [r1, r2] at RG
 clear s k0 hn k2 r1 r2
 go_wp2_with fail
 refine RG.out.mono ?_
 rintro e w3 ⟨rfl, p3⟩
 obtain ⟨⟨O3, s3⟩, k3⟩ := Kh.post S.out K0.out p3
 have S3 := iH s3; have K3 := iH k3
 have NI := iH (knid_any s3); have TK := iH (yqn s3)
 obtain ⟨b, u, d, xs, kq, mg, e1, e2, hO⟩ := s3.ex
 have hx : xs = [] := List.map_eq_nil_iff.1 e1
 subst hx
 have LA := iH (xq2 kq.tk (by simp))
 have r3 : xqk (List.map Tk.pl []) = 0 := rfl
 have r4 : Qs.new.nx = 1 := rfl
 rw [r3] at LA
 rw [r4] at NI
 clear p3 s3 k3 kq mg e1 e2 hO r3 r4
 go_wp2_with fail
 refine NI.out.mono ?_
 rintro e w4 ⟨rfl, hw⟩
 have hw2 := hw.symm; clear hw; subst hw2
 go_wp2_with fail
 refine TK.out.mono ?_
 rintro e w4 ⟨rfl, hw⟩
 have hw2 := hw.symm; clear hw; subst hw2
 go_wp2_with fail
 refine LA.out.mono ?_
 rintro e w4 ⟨rfl, k4⟩
 have K4 := iH (K3.out.trans k4 (by simp)); clear k4
 go_wp2
 go_ret
 exact ⟨rfl, K4.out⟩
end Go.Proofs.YticiofkiffgclaaGreat
