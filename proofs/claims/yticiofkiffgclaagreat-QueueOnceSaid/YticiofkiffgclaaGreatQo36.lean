/-
  Zqh in one text.
-/
import Derived.Test.YticiofkiffgclaaGreatQo35
namespace Go.Proofs.YticiofkiffgclaaGreat
set_option linter.unusedVariables false
open Go.RowKit

variable {w w' : World} {B : Nat} {a : Hk} {st : List Nat} {q : Qs} {O : Nat → Prop}

theorem Tryz.infoSn : (Tryz.prog.info? 36).map (fun i => (i.zero, i.size, i.bytes)) = some (some (.agg #[.int .i64 0, .slice none 0 0]), 2, 32) := by kernel_rfl

structure Sn where
  M : Int
  a : Option Addr
  l : List Int
  c : Nat
def Sn.op (x : Sn) : Value := .slice x.a x.l.length x.c
def Sn.sv (x : Sn) : Sv := ⟨x.M, x.op, x.l⟩
def Sn.cs (x : Sn) : Array Value := #[.int .i64 x.M, .slice x.a x.l.length x.c]
def encSn : Enc Sn where
  k := 2
  cs := Sn.cs
  size := fun _ => rfl
  one := fun x u h => by
    simp only [Sn.cs, List.mem_cons, List.not_mem_nil, or_false] at h
    rcases h with rfl | rfl <;> rfl
  pos := by decide
def Sn.ml (x : Sn) : Int × List Int := (x.M, x.l)
def Pt.ml (x : Pt) : Int × List Int := (x.M, x.l)
theorem rdS_of {base : Nat} {e : TypeId} {v : Value} {ss : List Sn} (h : OwnK encSn w base e v ss) (hr : ∀ s ∈ ss, RdT w s.op s.l) : RdS w v (ss.map Sn.sv) := by
  obtain ⟨u, c, rfl⟩ := h.shape
  refine ⟨u, c, by rw [List.length_map], fun i s hs => ?_, fun s hs => ?_⟩
  · rw [List.getElem?_map] at hs
    cases hx : ss[i]? with
    | none => rw [hx] at hs; cases hs
    | some y =>
      rw [hx] at hs
      simp only [Option.map_some, Option.some.injEq] at hs
      subst hs
      obtain ⟨g, rfl, hc⟩ := h.at hx
      refine ⟨g, 0, rfl, ?_, ?_⟩
      · rw [Nat.zero_add]; exact (hc 0 (by decide)).1
      · rw [Nat.zero_add]; exact (hc 1 (by decide)).1
  · obtain ⟨y, hy, rfl⟩ := List.mem_map.1 hs
    exact (hr y hy).1
theorem need_of {ss : List Sn} {ps : List Pt} (h : ss.map Sn.ml = ps.map Pt.ml) (st : List Nat) (e : Ev) : needB st (ss.map Sn.sv) e = needP st ps e := by
  rw [needB_map]
  refine needP_congr (fun p => ?_) e
  have k : ∀ m : Int × List Int, (m ∈ ss.map Sn.ml) ↔ m ∈ ps.map Pt.ml := fun m => by rw [h]
  have k2 := k (p.M, p.l)
  simp only [List.mem_map] at k2
  constructor
  · rintro ⟨x, hx, e1, e2⟩
    simp only [List.map_map, List.mem_map] at hx
    obtain ⟨y, hy, rfl⟩ := hx
    obtain ⟨z, hz, e3⟩ := k2.1 ⟨y, hy, by show (y.M, y.l) = _; rw [← e1, ← e2]; rfl⟩
    simp only [Pt.ml, Prod.mk.injEq] at e3
    exact ⟨z, hz, e3.1, e3.2⟩
  · rintro ⟨x, hx, e1, e2⟩
    obtain ⟨z, hz, e3⟩ := k2.2 ⟨x, hx, by show (x.M, x.l) = _; rw [e1, e2]⟩
    simp only [Sn.ml, Prod.mk.injEq] at e3
    refine ⟨_, List.mem_map_of_mem (List.mem_map_of_mem hz), e3.1, e3.2⟩
theorem tckP_last (h : RiseN q.ps) {p : Pt} (hp : q.ps.getLast? = some p) : tckP q (lastN q.ps) = p := by
  have e : lastN q.ps = p.n := by unfold lastN; rw [hp]
  rw [e, tckP, h.get (List.mem_of_getLast? hp)]
  rfl

def StS (w wr : World) (zb : Nat) (q : Qs) (v : Value) (ss : List Sn) (k : Nat) : Prop :=
  OwnK encSn wr zb 36 v ss ∧ (∀ s ∈ ss, RdT wr s.op s.l) ∧ ss.map Sn.ml = ((q.cs.take k).map fun x => tckP q x.la).map Pt.ml ∧ Kept w wr []

theorem snoc_sn {w3 w4 : World} {base : Nat} {v3 v4 : Value} {ss : List Sn} {x : Sn} (hn : w4.ownsRow base 36 2 v4 (ss.length + 1) (kcs encSn ss ++ (encSn.cs x).toList)) : OwnK encSn w4 base 36 v4 (ss ++ [x]) := by
  unfold OwnK
  rw [kcs_append, kcs_single, List.length_append]
  exact hn

set_option maxHeartbeats 4000000 in
set_option maxRecDepth 100000 in
theorem kstarts_any (s : KS w B a st q O) {k : Nat} (z : SzQ k q) (hk : k ≤ 1000) : Calls Tryz.prog 110 #[.pointer (some ⟨a.h, 0, none⟩)] w fun e w' => ∃ (v : Value) (ss : List Sn), e = .returned v ∧ OwnK encSn w' w.heap.size 36 v ss ∧ (∀ s ∈ ss, RdT w' s.op s.l) ∧ ss.map Sn.ml = (snpP q).map Pt.ml ∧ Kept w w' [] := by
  obtain ⟨i0, hi0, hz0, hz1, hz2⟩ := info_parts Tryz.infoSn
  have SN := Lib.hid (fun (m : Int) (Z : World) (hZ : Kept w Z []) => ksnap_any (s.keep hZ) z m)
  have CL := Lib.hid (fun (Z : World) (hZ : Kept w Z []) => (s.keep hZ).cells.1)
  have RI := Lib.hid z.ok.rise
  have few := z.ok.okc.few
  obtain ⟨b, u, d, xs, kq, g, e1, e2, rfl⟩ := s.ex
  have AL := Lib.hid (call_any kq.cu (by omega))
  have hxs : xs.length = q.ps.length := by rw [← e1, List.length_map]
  have x64 : xs.length ≤ 64 := by rw [hxs]; exact z.ok.okp.size
  have X64 := Lib.hid x64; have HXS := Lib.hid hxs
  have TL := Lib.hid (fun (Z : World) (hZ : Kept w Z []) => tklen_any (kq.keep hZ).tk)
  have LA := Lib.hid (fun (Z : World) (hZ : Kept w Z []) => (show Calls Tryz.prog 41 #[.pointer (some ⟨a.ht, 0, none⟩)] Z fun e w' => e = .returned (.int .i64 (lastN q.ps)) ∧ Kept Z w' [] from by rw [← e1]; exact tklast_any (kq.keep hZ).tk (by omega)))
  obtain ⟨c0, c1, c2, c3, c4⟩ := CL.out w (Kept.refl w [])
  clear s z hk kq g e1 e2 hxs x64
  go_enter Tryz.func110, Tryz.ntmps110
  go_wp2_with fail
  refine AL.out.mono ?_
  rintro e w2 ⟨v, rfl, ov, k2⟩
  obtain ⟨uc, cc, hv⟩ := ov.shape
  subst hv
  have OV := Lib.hid ov; have K2 := Lib.hid k2
  obtain ⟨zb, hzb⟩ : ∃ zb, zb = w2.heap.size := ⟨_, rfl⟩
  have HZ := Lib.hid hzb
  clear hzb
  obtain ⟨n, hn⟩ : ∃ n, n = q.cs.length := ⟨_, rfl⟩
  have HN := Lib.hid hn
  rw [← hn] at OV few ⊢
  clear ov k2 hn c0 c1 c2 c3 c4
  go_wp2
  go_loopw [3, 5, 12] (fun s3 _ s12 wr => ∃ (i : Nat) (ue : Option Addr) (ce : Nat) (ss : List Sn), s12 = .int .i64 i ∧ s3 = .slice ue i ce ∧ i ≤ n ∧ RowKit.Hid (ss.length = i) ∧ RowKit.Hid (StS w wr zb q (.slice ue i ce) ss i) ∧ RowKit.Hid (Kept w2 wr [])) (fun _ _ s12 _ => n - (intOf s12).toNat)
  case atStart => exact ⟨0, none, 0, [], rfl, rfl, Nat.zero_le _, Lib.hid rfl, Lib.hid ⟨OwnK.nil _ _ _, by simp, rfl, K2.out⟩, Lib.hid (Kept.refl w2 [])⟩
  case round =>
    obtain ⟨i, ue, ce, ss, rfl, rfl, hi, HL, SS, KW⟩ := hrel
    by_cases hlt : i < n
    · have x1 : (i : Int) < (n : Int) := by omega
      obtain ⟨x, hx⟩ : ∃ x, q.cs[i]? = some x := ⟨_, List.getElem?_eq_getElem (by rw [← HN.out]; exact hlt)⟩
      have ov := OV.out.keep KW.out
      obtain ⟨g, rfl, hc⟩ := ov.at hx
      have q0 := (hc 0 (by decide)).1; have q1 := (hc 1 (by decide)).1; have q2 := (hc 2 (by decide)).1
      obtain ⟨b0, b1, b2⟩ := x
      change wr.cell? ⟨g, i * 3, none⟩ = some (.string b0) at q0
      change wr.cell? ⟨g, i * 3 + 1, none⟩ = some (.int .i64 b1) at q1
      change wr.cell? ⟨g, i * 3 + 2, none⟩ = some (.int .i64 b2) at q2
      have HX := Lib.hid hx
      obtain ⟨W3, hW3⟩ : ∃ W3, W3 = wr.alloc (.cells #[.string b0, .int .i64 b1, .int .i64 b2] cuE) := ⟨_, rfl⟩
      have k3 : Kept wr W3 [] := by rw [hW3]; exact (Kept.refl wr []).alloc _
      have g3 : W3.heap[wr.heap.size]? = some (.cells #[.string b0, .int .i64 b1, .int .i64 b2] cuE (0, 0)) := by rw [hW3]; exact heap_alloc_new wr _
      have r1 : W3.cell? ⟨wr.heap.size, 1, none⟩ = some (.int .i64 b1) := by rw [cell_of_row _ _ _ _ _ _ g3]; rfl
      have K3 := Lib.hid k3; have HW3 := Lib.hid hW3
      have S1 := Lib.hid (SN.out b1 W3 (SS.out.2.2.2.trans k3 (by simp)))
      obtain ⟨PA, hPA⟩ : ∃ P, P = tckP q b1 := ⟨_, rfl⟩
      rw [← hPA] at S1
      have HPA := Lib.hid hPA
      clear ov hc hx k3 g3 hW3 hPA
      go_upto_region 5 with fail
      rw [← HW3.out]
      clear q0 q1 q2
      go_wp2_with fail
      refine S1.out.mono ?_
      rintro e w5 ⟨va, vc, rfl, rt, k5⟩
      have RT := Lib.hid rt
      have K5 := Lib.hid (K3.out.trans k5 (by simp))
      obtain ⟨w6, hw6⟩ : ∃ w6, w6 = w5.alloc (.cells #[.int .i64 PA.M, .slice va PA.l.length vc] 36) := ⟨_, rfl⟩
      have k6 : Kept w5 w6 [] := by rw [hw6]; exact (Kept.refl w5 []).alloc _
      have SRC := src_kone (E := encSn) (P := Tryz.prog) (t := 36) w5 ⟨PA.M, va, PA.l, vc⟩ (tx := 157) Tryz.underlying157
      simp only [encSn, Sn.cs] at SRC
      rw [← hw6] at SRC
      have SRC := Lib.hid SRC
      have OO := SS.out.1.keep (K5.out.trans k6 (by simp))
      unfold OwnK at OO
      rw [HL.out] at OO
      have OO := Lib.hid OO
      have K6 := Lib.hid (K5.out.trans k6 (by simp))
      have HS := Lib.hid (show zb ≤ w6.heap.size by have := (KW.out.trans K6.out (by simp)).size; rw [HZ.out]; exact this)
      have HW6 := Lib.hid hw6
      rw [hw6] at OO SRC HS
      clear rt k5 k6 hw6 r1
      go_wp2_with (at_builtin; refine wpList_append_all _ rfl (.tmp 16) (.tmp 21) 157 157 rfl zb 36 i0 _ 2 32 Tryz.underlying157 hi0 hz0 hz1 hz2 rfl (.slice ue i ce) i (kcs encSn ss) rfl OO.out (.slice (some ⟨w5.heap.size, 0, none⟩) 1 1) 1 _ rfl SRC.out (by unfold maxLen; omega) (by omega) HS.out ?nexta)
      case nexta =>
        intro v4 w4 hown _ hgrow _
        rw [← HW6.out] at hgrow
        have o4 : OwnK encSn w4 zb 36 v4 (ss ++ [⟨PA.M, va, PA.l, vc⟩]) := by
          refine snoc_sn (w3 := w4) (v3 := v4) ?_
          rw [HL.out]
          exact hown
        have kg : Kept w2 w4 [] := (KW.out.trans K6.out (by simp)).grown hgrow (fun k hk => .inr (by have := (SS.out.1.lt k hk).1; rw [HZ.out] at this; exact this))
        have fg : Fo (fun k => (Value.slice ue i ce).ownBlock = some k) w6 w4 := (Fo.refl _ w6).grown hgrow (fun k hk => .inl hk)
        have ng : NoI w6 (fun k => (Value.slice ue i ce).ownBlock = some k) := fun k hk c2 f2 h2 => by
          obtain ⟨cur, hc⟩ := (SS.out.1.keep K6.out).tag hk
          exact absurd (tag_one hc h2) (by decide)
        obtain ⟨u4, c4, e4⟩ := o4.shape
        rw [List.length_append, HL.out] at e4
        subst e4
        have S4 : RowKit.Hid (StS w w4 zb q (.slice u4 (i + 1) c4) (ss ++ [⟨PA.M, va, PA.l, vc⟩]) (i + 1)) := Lib.hid ⟨o4, fun s hs => by
            rcases List.mem_append.1 hs with hs | hs
            · exact ((SS.out.2.1 s hs).keep K6.out).fo fg ng
            · rw [List.mem_singleton] at hs; subst hs
              exact (RT.out.keep (show Kept w5 w6 [] by rw [HW6.out]; exact (Kept.refl w5 []).alloc _)).fo fg ng, by
            rw [List.take_add_one, HX.out, List.map_append, List.map_append, List.map_append, SS.out.2.2.1, HPA.out]; rfl, K2.out.trans kg (by simp)⟩
        have L4 : RowKit.Hid ((ss ++ [(⟨PA.M, va, PA.l, vc⟩ : Sn)]).length = i + 1) := Lib.hid (by rw [List.length_append, HL.out]; rfl)
        have KW4 := Lib.hid kg
        clear fg ng
        clear hown hgrow o4 kg
        go_wp2
        go_roundw
        case rel => exact ⟨i + 1, u4, c4, _, by go_num, rfl, by omega, L4, S4, KW4⟩
        case measure => simp [intOf]; omega
    · have x1 : ¬ (i : Int) < (n : Int) := by omega
      have hin : i = n := by omega
      subst hin
      have SE : RowKit.Hid (ss.map Sn.ml = (q.cs.map fun x => tckP q x.la).map Pt.ml) := Lib.hid (by have := SS.out.2.2.1; rw [List.take_of_length_le (by rw [← HN.out]; exact Nat.le_refl _)] at this; exact this)
      obtain ⟨c0, c1, c2, c3, c4⟩ := CL.out wr SS.out.2.2.2
      clear c0 c1 c3 c4
      obtain ⟨X, hX⟩ : ∃ X, X = xs.length := ⟨_, rfl⟩
      have TL1 := TL.out wr SS.out.2.2.2
      rw [← hX] at TL1
      have TL1 := Lib.hid TL1
      have HXX := Lib.hid hX
      have X6 : X ≤ 64 := by rw [hX]; exact X64.out
      clear hX
      by_cases h0 : X = 0
      · subst h0
        have hp : q.ps = [] := List.eq_nil_of_length_eq_zero (by rw [← HXS.out, ← HXX.out])
        have RR : RowKit.Hid ((snpP q).map Pt.ml = (q.cs.map fun x => tckP q x.la).map Pt.ml) := Lib.hid (by simp [snpP, hp])
        clear hp X6
        go_wp2_with fail
        refine TL1.out.mono ?_
        rintro e w3 ⟨rfl, hw⟩
        have hw2 := hw.symm; clear hw; subst hw2
        go_wp2
        go_ret
        refine ⟨_, ss, rfl, SS.out.1.mono (by rw [HZ.out]; exact K2.out.size), SS.out.2.1, by rw [RR.out]; exact SE.out, SS.out.2.2.2⟩
      · have hX0 : 0 < X := by omega
        have x3 : (0 : Int) < (X : Int) := by omega
        obtain ⟨p, hp⟩ : ∃ p, q.ps.getLast? = some p := by
          cases hq : q.ps.getLast? with
          | none => rw [List.getLast?_eq_none_iff] at hq; have h1 := HXS.out; have h2 := HXX.out; rw [hq, List.length_nil] at h1; omega
          | some p => exact ⟨p, rfl⟩
        have RR : RowKit.Hid ((snpP q).map Pt.ml = (q.cs.map fun x => tckP q x.la).map Pt.ml ++ [p.ml]) := Lib.hid (by simp [snpP, hp])
        have TP : RowKit.Hid (tckP q (lastN q.ps) = p) := Lib.hid (tckP_last RI.out hp)
        obtain ⟨LN, hLN⟩ : ∃ LN, LN = lastN q.ps := ⟨_, rfl⟩
        have LA1 := Lib.hid (LA.out wr SS.out.2.2.2)
        have SN1 := Lib.hid (fun (Z : World) (hZ : Kept wr Z []) => SN.out LN Z (SS.out.2.2.2.trans hZ (by simp)))
        rw [← hLN] at LA1 TP
        rw [TP.out] at SN1
        clear hp h0 hX0 hLN
        go_wp2_with fail
        refine TL1.out.mono ?_
        rintro e w3 ⟨rfl, hw⟩
        have hw2 := hw.symm; clear hw; subst hw2
        go_wp2_with fail
        refine LA1.out.mono ?_
        rintro e w4 ⟨rfl, k4⟩
        have K4 := Lib.hid k4
        clear k4 c2
        go_wp2_with fail
        refine (SN1.out w4 K4.out).mono ?_
        rintro e w5 ⟨va, vc, rfl, rt, k5⟩
        have RT := Lib.hid rt
        have K5 := Lib.hid (K4.out.trans k5 (by simp))
        obtain ⟨w6, hw6⟩ : ∃ w6, w6 = w5.alloc (.cells #[.int .i64 p.M, .slice va p.l.length vc] 36) := ⟨_, rfl⟩
        have k6 : Kept w5 w6 [] := by rw [hw6]; exact (Kept.refl w5 []).alloc _
        have SRC := src_kone (E := encSn) (P := Tryz.prog) (t := 36) w5 ⟨p.M, va, p.l, vc⟩ (tx := 157) Tryz.underlying157
        simp only [encSn, Sn.cs] at SRC
        rw [← hw6] at SRC
        have SRC := Lib.hid SRC
        have OO := SS.out.1.keep (K5.out.trans k6 (by simp))
        unfold OwnK at OO
        rw [HL.out] at OO
        have OO := Lib.hid OO
        have K6 := Lib.hid (K5.out.trans k6 (by simp))
        have HS := Lib.hid (show zb ≤ w6.heap.size by have := (KW.out.trans K6.out (by simp)).size; rw [HZ.out]; exact this)
        have HW6 := Lib.hid hw6
        rw [hw6] at OO SRC HS
        clear rt k5 k6 hw6
        go_wp2_with (at_builtin; refine wpList_append_all _ rfl (.tmp 30) (.tmp 38) 157 157 rfl zb 36 i0 _ 2 32 Tryz.underlying157 hi0 hz0 hz1 hz2 rfl (.slice ue i ce) i (kcs encSn ss) rfl OO.out (.slice (some ⟨w5.heap.size, 0, none⟩) 1 1) 1 _ rfl SRC.out (by unfold maxLen; omega) (by omega) HS.out ?nextb)
        case nextb =>
          intro v4 w7 hown _ hgrow _
          rw [← HW6.out] at hgrow
          have o4 : OwnK encSn w7 zb 36 v4 (ss ++ [⟨p.M, va, p.l, vc⟩]) := by
            refine snoc_sn (w3 := w7) (v3 := v4) ?_
            rw [HL.out]
            exact hown
          have kg : Kept w2 w7 [] := (KW.out.trans K6.out (by simp)).grown hgrow (fun k hk => .inr (by have := (SS.out.1.lt k hk).1; rw [HZ.out] at this; exact this))
          have fg : Fo (fun k => (Value.slice ue i ce).ownBlock = some k) w6 w7 := (Fo.refl _ w6).grown hgrow (fun k hk => .inl hk)
          have ng : NoI w6 (fun k => (Value.slice ue i ce).ownBlock = some k) := fun k hk c2 f2 h2 => by
            obtain ⟨cur, hc⟩ := (SS.out.1.keep K6.out).tag hk
            exact absurd (tag_one hc h2) (by decide)
          obtain ⟨u4, c4, e4⟩ := o4.shape
          rw [List.length_append, HL.out] at e4
          subst e4
          have R4 := Lib.hid (show ∀ s ∈ ss ++ [(⟨p.M, va, p.l, vc⟩ : Sn)], RdT w7 s.op s.l from fun s hs => by
            rcases List.mem_append.1 hs with hs | hs
            · exact ((SS.out.2.1 s hs).keep K6.out).fo fg ng
            · rw [List.mem_singleton] at hs; subst hs
              exact (RT.out.keep (show Kept w5 w6 [] by rw [HW6.out]; exact (Kept.refl w5 []).alloc _)).fo fg ng)
          have O4 := Lib.hid o4; have KG := Lib.hid kg
          clear hown hgrow o4 kg fg ng
          go_wp2
          go_ret
          exact ⟨_, _, rfl, O4.out.mono (by rw [HZ.out]; exact K2.out.size), R4.out, by rw [RR.out, List.map_append, SE.out]; rfl, K2.out.trans KG.out (by simp)⟩

set_option maxHeartbeats 4000000 in
set_option maxRecDepth 100000 in
theorem kfre_any (s : KS w B a st q O) {k : Nat} (z : SzQ k q) (hk : k ≤ 1000) : Calls Tryz.prog 44 #[.pointer (some ⟨a.h, 0, none⟩)] w fun e w' => e = .returned (.bool (freQ st q)) ∧ Kept w w' [] := by
  have ST := Lib.hid (fun (Z : World) (hZ : Kept w Z []) => kstarts_any (s.keep hZ) z hk)
  have MAN := Lib.hid (fun (Z : World) (hZ : Kept w Z []) => (s.keep hZ).man)
  obtain ⟨b, u, d, xs, kq, g, e1, e2, rfl⟩ := s.ex
  have NX := Lib.hid (fun (Z : World) (hZ : Kept w Z []) => nextl_any (kq.keep hZ).sp (by have := z.tabs hk (nxt q.c) (nxt_lt q.c); omega))
  have CF : RowKit.Hid (∀ Z, Kept w Z [] → Z.heap[a.h]? = some (.cells (kR a d) quT (0, 0))) := Lib.hid (fun Z hZ => (kq.keep hZ).hh)
  have LN := Lib.hid (z.tabs hk (nxt q.c) (nxt_lt q.c))
  have WF := Lib.hid (show ∀ e ∈ q.l (nxt q.c), (Lit.int .i64 e.tx).wf = true from fun e he => (z.ev e (mem_pre3.2 ⟨_, nxt_lt q.c, he⟩)).wf)
  have FL := Lib.hid (show (snpP q).length ≤ 100 by
    have h1 := z.ok.okc.few
    rw [snpP, List.length_append, List.length_map]
    cases q.ps.getLast? <;> simp <;> omega)
  clear s z hk kq g e1 e2
  go_enter Tryz.func44, Tryz.ntmps44
  go_upto_region 3 with fail
  refine wp_region_held_drew (S := fun Z => Kept w Z []) (by kernel_rfl) (Kept.refl w []).drew (fun hHeld => ?_)
  refine wpAnyH_take (i := 0) (oi := _) (v := .pointer (some ⟨a.h, 0, none⟩)) rfl (by kernel_rfl) (by kernel_rfl) (by kernel_rfl) (fun _ _ _ h => h) (Or.inl ⟨by rfl, fun V hV => by go_simp⟩) hHeld ?_
  change wpAnyH _ _ _ _ _ _ _ (Act.put _ (some 5) _) _
  simp only [Act.put, List.setIfInBounds_toArray, List.set_cons_zero, List.set_cons_succ]
  refine wpAnyH_take (i := 1) (oi := _) (v := .pointer (some ⟨a.h, 0, none⟩)) rfl (by kernel_rfl) (by kernel_rfl) (by kernel_rfl) (fun _ _ _ h => h) (Or.inl ⟨by rfl, fun V hV => by go_simp⟩) hHeld ?_
  change wpAnyH _ _ _ _ _ _ _ (Act.put _ (some 6) _) _
  simp only [Act.put, List.setIfInBounds_toArray, List.set_cons_zero, List.set_cons_succ]
  refine wpAnyH_take (i := 2) (oi := _) (v := .pointer (some ⟨a.h, 1, none⟩)) rfl (by kernel_rfl) (by kernel_rfl) (by kernel_rfl) (fun _ _ _ h => h) (Or.inl ⟨by rfl, fun V hV => by go_simp⟩) hHeld ?_
  change wpAnyH _ _ _ _ _ _ _ (Act.put _ (some 7) _) _
  simp only [Act.put, List.setIfInBounds_toArray, List.set_cons_zero, List.set_cons_succ]
  refine wpAnyH_take (i := 3) (oi := _) (v := .pointer (some ⟨a.hs, 0, none⟩)) rfl (by kernel_rfl) (by kernel_rfl) (by kernel_rfl) (fun _ _ _ h => h) (Or.inl ⟨by rfl, fun V hV => by (obtain ⟨q0, q1, q2, q3, q4⟩ := kR_cells (CF.out V hV); clear hV; go_simp)⟩) hHeld ?_
  change wpAnyH _ _ _ _ _ _ _ (Act.put _ (some 8) _) _
  simp only [Act.put, List.setIfInBounds_toArray, List.set_cons_zero, List.set_cons_succ]
  refine wpAnyH_take (i := 5) (oi := _) (v := .pointer (some ⟨a.h, 0, none⟩)) rfl (by kernel_rfl) (by kernel_rfl) (by kernel_rfl) (fun _ _ _ h => h) (Or.inl ⟨by rfl, fun V hV => by go_simp⟩) hHeld ?_
  change wpAnyH _ _ _ _ _ _ _ (Act.put _ (some 10) _) _
  simp only [Act.put, List.setIfInBounds_toArray, List.set_cons_zero, List.set_cons_succ]
  refine wpAnyH_take (i := 6) (oi := _) (v := .pointer (some ⟨a.h, 0, none⟩)) rfl (by kernel_rfl) (by kernel_rfl) (by kernel_rfl) (fun _ _ _ h => h) (Or.inl ⟨by rfl, fun V hV => by go_simp⟩) hHeld ?_
  change wpAnyH _ _ _ _ _ _ _ (Act.put _ (some 11) _) _
  simp only [Act.put, List.setIfInBounds_toArray, List.set_cons_zero, List.set_cons_succ]
  refine wpAnyH_take (i := 7) (oi := _) (v := .pointer (some ⟨a.h, 0, none⟩)) rfl (by kernel_rfl) (by kernel_rfl) (by kernel_rfl) (fun _ _ _ h => h) (Or.inl ⟨by rfl, fun V hV => by go_simp⟩) hHeld ?_
  change wpAnyH _ _ _ _ _ _ _ (Act.put _ (some 12) _) _
  simp only [Act.put, List.setIfInBounds_toArray, List.set_cons_zero, List.set_cons_succ]
  refine wpAnyH_take (i := 8) (oi := _) (v := .pointer (some ⟨a.p, 0, none⟩)) rfl (by kernel_rfl) (by kernel_rfl) (by kernel_rfl) (fun _ _ _ h => h) (Or.inl ⟨by rfl, fun V hV => by (obtain ⟨q0, q1, q2, q3, q4⟩ := kR_cells (CF.out V hV); clear hV; go_simp)⟩) hHeld ?_
  change wpAnyH _ _ _ _ _ _ _ (Act.put _ (some 13) _) _
  simp only [Act.put, List.setIfInBounds_toArray, List.set_cons_zero, List.set_cons_succ]
  refine wpAnyH_take (i := 9) (oi := _) (v := .pointer (some ⟨a.h, 0, none⟩)) rfl (by kernel_rfl) (by kernel_rfl) (by kernel_rfl) (fun _ _ _ h => h) (Or.inl ⟨by rfl, fun V hV => by go_simp⟩) hHeld ?_
  change wpAnyH _ _ _ _ _ _ _ (Act.put _ (some 14) _) _
  simp only [Act.put, List.setIfInBounds_toArray, List.set_cons_zero, List.set_cons_succ]
  refine wpAnyH_ready (rs := [4]) (by kernel_rfl) (by simp) ?_
  refine AllReadyH.cons (o := _) rfl (fun K hK => ?_) AllReadyH.nil
  go_simp
  go_at_call 109
  refine (NX.out _ (Kept.refl w []).drew).mono ?_
  rintro r wa ⟨v1, rfl, o1, ka⟩
  have KA := Lib.hid ((Kept.refl w []).drew.trans ka (by simp)); have O1 := Lib.hid o1
  clear o1 ka
  go_wp2_with fail
  refine hK.out _ _ KA.out (fun hHeld => ?_)
  clear hK K
  refine wpAnyH_ready (rs := [10]) (by kernel_rfl) (by simp) ?_
  refine AllReadyH.cons (o := _) rfl (fun K hK => ?_) AllReadyH.nil
  go_simp
  go_at_call 110
  refine (ST.out _ KA.out).mono ?_
  rintro r wb ⟨v2, ss, rfl, o2, rd2, ml, kb⟩
  have KB := Lib.hid (KA.out.trans kb (by simp)); have O12 := Lib.hid (O1.out.kept kb (by simp))
  have BF := Lib.hid (bfree_any (st := st) (x := some ⟨a.p, 0, none⟩) O12.out.rd LN.out (MAN.out _ KB.out) (rdS_of o2 rd2) (by have h1 := congrArg List.length ml; rw [List.length_map, List.length_map] at h1; rw [List.length_map, h1]; have := FL.out; omega) WF.out)
  have EQ : RowKit.Hid (freeB st (ss.map Sn.sv) (q.l (nxt q.c)) = freQ st q) := Lib.hid (by unfold freeB freQ; congr 2; funext e; exact need_of ml st e)
  generalize freeB st (ss.map Sn.sv) (q.l (nxt q.c)) = fb at *
  clear o2 rd2 ml kb
  go_wp2_with fail
  refine hK.out _ _ KB.out (fun hHeld => ?_)
  clear hK K
  refine wpAnyH_ready (rs := [11]) (by kernel_rfl) (by simp) ?_
  refine AllReadyH.cons (o := _) rfl (fun K hK => ?_) AllReadyH.nil
  go_simp
  go_at_call 108
  refine (BF.out).mono ?_
  rintro r wc ⟨rfl, kc⟩
  have KF := Lib.hid (KB.out.trans kc (by simp))
  clear kc
  go_wp2_with fail
  refine hK.out _ _ KF.out (fun hHeld => ?_)
  clear hK K
  refine wpAnyH_take (i := 12) (oi := _) (v := .bool fb) rfl (by kernel_rfl) (by kernel_rfl) (by kernel_rfl) (fun _ _ _ h => h) (Or.inl ⟨by rfl, fun V hV => by go_simp⟩) hHeld ?_
  change wpAnyH _ _ _ _ _ _ _ (Act.put _ (some 2) _) _
  simp only [Act.put, List.setIfInBounds_toArray, List.set_cons_zero, List.set_cons_succ]
  refine wpAnyH_done (by kernel_rfl) ?_ _
  clear hHeld
  go_wp2
  go_ret
  exact ⟨congrArg (fun x => Ending.returned (.bool x)) EQ.out, KF.out⟩

set_option maxHeartbeats 1000000 in
theorem krot_any (s : KS w B a st q O) {k : Nat} (z : SzQ k q) (hk : k ≤ 1000) : Calls Tryz.prog 24 #[.pointer (some ⟨a.h, 0, none⟩)] w fun e w' => e = .returned (.tuple #[.int .u8 (rotQ st q).1, .int .i64 (rotQ st q).2.1]) ∧ KPost w B a st O (rotQ st q).2.2 w' := by
  have KP := Lib.hid (kspools_any s)
  have FR := Lib.hid (kfre_any s z hk)
  obtain ⟨b, u, d, xs, kq, g, e1, e2, rfl⟩ := s.ex
  have KQ := Lib.hid kq; have MG := Lib.hid g; have E1 := Lib.hid e1; have E2 := Lib.hid e2
  obtain ⟨f, hf⟩ : ∃ f, f = freQ st q := ⟨_, rfl⟩
  rw [← hf] at FR
  have HR : RowKit.Hid (rotQ st q = ((rotS q.l q.c f).1, (rotS q.l q.c f).2.1, { q with l := (rotS q.l q.c f).2.2.1, c := (rotS q.l q.c f).2.2.2 })) := Lib.hid (by rw [hf]; rfl)
  rw [HR.out]
  clear s z hk kq g e1 e2 hf
  go_enter Tryz.func24, Tryz.ntmps24
  go_wp2_with fail
  refine KP.out.mono ?_
  rintro e w1 ⟨rfl, hw⟩
  have hw2 := hw.symm; clear hw; subst hw2
  go_wp2_with fail
  refine FR.out.mono ?_
  rintro e w2 ⟨rfl, k2⟩
  have K2 := Lib.hid k2; clear k2
  go_wp2_with fail
  refine (srotate_any (KQ.out.keep K2.out).sp KQ.out.ds f).mono ?_
  rintro e w3 ⟨rfl, V', h1, h2, h3⟩
  have PP := Lib.hid (KPost.of (q := { q with l := (rotS q.l q.c f).2.2.1, c := (rotS q.l q.c f).2.2.2 }) (KQ.out.keep K2.out) (MG.out.keep K2.out) ((KQ.out.keep K2.out).ofSpools h1 h2 h3) E1.out E2.out)
  obtain ⟨r1, hr1⟩ : ∃ r, r = (rotS q.l q.c f).1 := ⟨_, rfl⟩
  obtain ⟨r2, hr2⟩ : ∃ r, r = (rotS q.l q.c f).2.1 := ⟨_, rfl⟩
  rw [← hr1, ← hr2]
  have HR1 := Lib.hid hr1; have HR2 := Lib.hid hr2
  clear hr1 hr2
  clear h1 h2 h3
  go_wp2
  (try simp only [Exit.inBlock, Exit.then])
  refine bodyPost_ret (v := .tuple #[.int .u8 r1, .int .i64 r2]) (by simp [results, Tryz.results24, go_sem]) rfl ?_
  obtain ⟨O', p1, p2⟩ := PP.out
  exact ⟨by rw [HR1.out, HR2.out], O', p1, p2.afterK K2.out⟩

end Go.Proofs.YticiofkiffgclaaGreat
