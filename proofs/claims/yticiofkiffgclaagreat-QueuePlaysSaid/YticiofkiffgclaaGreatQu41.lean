/-
  Zvp in one text.
-/
import Derived.Test.YticiofkiffgclaaGreatQu0
import Derived.Test.YticiofkiffgclaaGreatQu37
set_option linter.unusedVariables false
set_option maxHeartbeats 16000000
set_option maxRecDepth 100000
namespace Go.Proofs.YticiofkiffgclaaGreat
open Go.ChangeShapes Go.WideShapes Go.ChangeAt Go.RowKit
variable {w0 w w' : World} {a : Hk} {h m hx zb zr : Nat} {s1 s2 s1' s2' : List Nat} {q1 q2 q' : Qs} {O1 O2 : Nat -> Prop} {C R : Array Value}
theorem do_nxt {k : Nat} (bq : Bq w0 w a h m hx k) (hk : k < 1000) (D U Ky : Nat) (N : Int) (hD : D < 256) (hU : U < 256) (hK : Ky < 256) (hN : (Lit.int .i64 N).wf = true) (hc : D % 24 = 14 ∨ D % 24 = 15) : Calls Tryz.prog 11 #[.pointer (some ⟨hx, 0, none⟩), .agg #[.int .u8 D, .int .u8 U, .int .u8 Ky, .int .i64 N]] w fun e w' => e = .returned (.bool true) /\ Bq w0 w' a h m hx (k + 1) := by
 obtain ⟨r4, hr4⟩ : ∃ r4, r4 = U % 4 := ⟨_, rfl⟩
 obtain ⟨r5, hr5⟩ : ∃ r5, r5 = Ky % 5 := ⟨_, rfl⟩
 obtain ⟨st, q, w1, w2, w3, w4, hw1, hw2, hw3, hw4, ⟨O2, d2⟩, s2, g3, g4, z, hl⟩ := do_in bq D U Ky r5 N
 obtain ⟨zb, hzb⟩ : ∃ zb, zb = w.heap.size := ⟨_, rfl⟩
 obtain ⟨zr, hzr⟩ : ∃ zr, zr = zb + 1 := ⟨_, rfl⟩
 rw [<- hzb] at s2 g3 g4
 rw [<- hzr] at g3 g4
 obtain ⟨ow, how⟩ : ∃ ow : Int, ow = (st.length : Int) - (r4 : Nat) := ⟨_, rfl⟩
 have hob : -100 <= ow /\ ow <= 100000 := by omega
 have wow : IntKind.i64.wrap ((st.length : Int) - (r4 : Nat)) = ow := by rw [<- how, IntKind.wrap_i64]; omega
 have wst : IntKind.i64.wrap ((st.length : Int) + 1 - 1) = (st.length : Int) := by rw [IntKind.wrap_i64]; omega
 have wst2 : IntKind.i64.wrap (st.length : Int) = (st.length : Int) := by rw [IntKind.wrap_i64]; omega
 obtain ⟨xu, xut, wu4, wu4'⟩ := tm4 hr4
 obtain ⟨xk, xkt, wk5, wk5'⟩ := tm5 hr5
 obtain ⟨xd, xdt⟩ := tm24 D
 have hz2 : zr = w2.heap.size := by rw [hw2, hw1, hzr, hzb]; show _ = (w.alloc _).heap.size; simp
 have OB := iH hob; have HSL := iH (show st.length <= 1000 by omega); have HKL := iH (show k <= 1000 by omega); have Z := iH z; have HL := iH hl; have D2 := iH d2; have S2 := iH s2; have G3 := iH g3; have G4 := iH g4
 have HW1 := iH hw1; have HW2 := iH hw2; have HW3 := iH hw3; have HW4 := iH hw4; have HZB := iH hzb; have HZR := iH hz2; have WN := iH hN; have HK := iH hk
 obtain ⟨nm, hnm⟩ : ∃ nm, nm = nmQ U := ⟨_, rfl⟩
 have NM := iH hnm
 clear hnm
 obtain ⟨TE, hTE⟩ : ∃ x, x = nxtE q nm := ⟨_, rfl⟩
 obtain ⟨TP, hTP⟩ : ∃ x, x = nxtP q nm := ⟨_, rfl⟩
 obtain ⟨TQ, hTQ⟩ : ∃ x, x = nxtQ q nm := ⟨_, rfl⟩
 have HTE := iH hTE; have HTP := iH hTP; have HTQ := iH hTQ
 clear hTE hTP hTQ
 clear bq z hl d2 s2 g3 g4 hw1 hw2 hw3 hw4 hzb hzr hz2 how hob hN hk hD hr4 hr5
 rcases hc with hc | hc
 all_goals
 as_aux_lemma =>
 first | have xc : ((D % 24 : Nat) : Int) = 14 := by omega | have xc : ((D % 24 : Nat) : Int) = 15 := by omega
 rw [xc] at xd xdt
 clear hc xc
 go_enter Tryz.func11, Tryz.ntmps11
 go_upto_region 1 with fail
 rw [<- HW1.out, <- HZB.out]
 refine wp_region_held_drew (S := fun Z => Z.heap[hx]? = some (.cells #[.pointer (some ⟨a.p, 0, none⟩), .pointer (some ⟨m, 0, none⟩), .pointer (some ⟨a.h, 0, none⟩), .pointer (some ⟨h, 0, none⟩)] runT (0, 0)) /\ Z.heap[zb]? = some (.cells #[.int .u8 D, .int .u8 U, .int .u8 Ky, .int .i64 N] 28 (0, 0))) (by kernel_rfl) (by rw [<- HW2.out]; exact S2.out) (fun hJ => ?_)
 rw [<- HW2.out] at hJ ⊢
 refine wx 0 32 (.pointer (some ⟨hx, 0, none⟩)) rfl hJ ?_
 refine wx 1 33 (.pointer (some ⟨hx, 0, none⟩)) rfl hJ ?_
 refine wx 2 34 (.pointer (some ⟨hx, 1, none⟩)) rfl hJ ?_
 refine wx 3 35 (.pointer (some ⟨m, 0, none⟩)) rfl hJ ?_ (hy := fun V hV => by (obtain ⟨u0, u1, u2, u3⟩ := xqd hV.1; go_simp))
 refine wx 6 38 (.pointer (some ⟨zb, 1, none⟩)) rfl hJ ?_
 refine wx 7 39 (.int .u8 U) rfl hJ ?_ (hy := fun V hV => by (obtain ⟨u0, u1, u2, u3⟩ := xqd hV.2; go_simp))
 refine wx 8 40 (.int .u8 (r4 : Nat)) rfl hJ ?_
 refine wx 9 41 (.int .i64 (r4 : Nat)) rfl hJ ?_
 refine wr1 4 rfl (fun K hK => ?_)
 go_simp
 go_at_call 48
 refine (dnext_any D2.out).mono ?_
 rintro e w2x ⟨rfl, hw⟩
 subst hw
 go_wp2_with fail
 refine hK.out _ _ S2.out (fun hJ => ?_)
 clear hK K
 refine wx 5 37 (.int .i64 (st.length : Int)) rfl hJ ?_
 refine wx 10 42 (.int .i64 ow) rfl hJ ?_
 refine wx 11 5 (.int .i64 ow) rfl hJ ?_
 refine wd ?_
 clear hJ
 clear wst wst2 wow wu4 wu4' xu xut
 obtain ⟨v0, v1, v2, v3⟩ := xqd S2.out.2
 go_upto_region 3 with fail
 rw [<- HW3.out, <- HZR.out]
 clear v0 v1 v2 v3 wk5 wk5' xk xkt
 obtain ⟨v0, v1, v2, v3⟩ := xqd G3.out.sg.2.1
 go_upto_region 33 with fail
 clear v0 v1 v2 v3
 go_cut [15, 16] (fun sb so wx => ∃ (wq : World) (zt : Nat) (y0 y1 : Int) (y2 : Option Addr) (y3 : Nat) (y4 : List Int) (y5 : Int) (P1 P2 : Nat -> Prop), wq = wx /\ sb = .pointer (some ⟨zt, 0, none⟩) /\ so = .int .i64 TE /\ RowKit.Hid (Gx w0 wq a h m hx st st TQ q zb #[.int .u8 D, .int .u8 U, .int .u8 Ky, .int .i64 N] zr #[.int .i64 (r5 : Nat), .string ⟨#[116]⟩] P1 P2) /\ RowKit.Hid (P2 zt) /\ RowKit.Hid (wq.heap[zt]? = some (.cells #[.int .i64 y0, .int .i64 y1, .slice y2 y4.length y3, .int .i64 y5] 38 (0, 0))) /\ RowKit.Hid (RdT wq (.slice y2 y4.length y3) y4) /\ RowKit.Hid ((⟨y0, y1, y4, y5⟩ : Pt) = TP))
 case first =>
  as_aux_lemma =>
  have X4 := iH (Gx.of G4.out)
  refine wp_region_held_drew (S := Sg a h m hx zb #[.int .u8 D, .int .u8 U, .int .u8 Ky, .int .i64 N] zr #[.int .i64 (r5 : Nat), .string ⟨#[116]⟩]) (by kernel_rfl) (by rw [<- HW4.out]; exact G4.out.sg) (fun hJ => ?_)
  rw [<- HW4.out] at hJ ⊢
  refine wx 0 242 (.pointer (some ⟨hx, 0, none⟩)) rfl hJ ?_
  refine wx 1 243 (.pointer (some ⟨hx, 0, none⟩)) rfl hJ ?_
  refine wx 2 244 (.pointer (some ⟨hx, 2, none⟩)) rfl hJ ?_
  refine wx 3 245 (.pointer (some ⟨a.h, 0, none⟩)) rfl hJ ?_ (hy := fun V hV => by (obtain ⟨u0, u1, u2, u3⟩ := xqd hV.1; go_simp))
  refine wx 4 246 (.agg #[.int .u8 D, .int .u8 U, .int .u8 Ky, .int .i64 N]) rfl hJ ?_ (hy := fun V hV => by (obtain ⟨u0, u1, u2, u3⟩ := xqd hV.2.1; go_simp))
  refine wpAnyH_ready (rs := [5, 10]) (by kernel_rfl) (by simp) ?_
  refine (AllReadyH.cons (o := _) rfl (fun K hK => ?_) (AllReadyH.cons (o := _) rfl (fun K hK => ?_) AllReadyH.nil))
  focus
   have c5 := xqO ⟨D, U, Ky, N⟩ hU w4
   simp only [ActQ.cs] at c5
   rw [<- NM.out] at c5
   have C5 := iH c5
   clear c5
   go_simp
   go_at_call 57
   refine (C5.out).mono ?_
   rintro e w5 ⟨rfl, p⟩
   have X5 := iH (X4.out.keep p)
   clear p hJ
   go_wp2_with fail
   refine hK.out _ _ X5.out.sg (fun hJ => ?_)
   clear hK K
   refine wpAnyH_ready (rs := [6, 10]) (by kernel_rfl) (by simp) ?_
   refine (AllReadyH.cons (o := _) rfl (fun K hK => ?_) (AllReadyH.cons (o := _) rfl (fun K hK => ?_) AllReadyH.nil))
   focus
    obtain ⟨O6, k6, f6⟩ := X5.out.c
    have c6 := knxt_any k6 Z.out nm
    rw [<- HTE.out, <- HTP.out, <- HTQ.out] at c6
    have C6 := iH c6; have F6 := iH f6
    clear k6 f6 c6
    go_simp
    go_at_call 29
    refine (C6.out).mono ?_
    rintro e w6 ⟨y, rfl, hpl, hry, p⟩
    obtain ⟨y0, y1, y2, y3, y4, y5⟩ := y
    simp only [Tk.cs, Tk.op] at *
    obtain ⟨x, hp, rp⟩ := F6.out _ _ p
    have X6 := iH x; have RY6 := iH hry; have HPL := iH hpl
    clear hpl hry p x hp rp hJ
    go_wp2_with fail
    refine hK.out _ _ X6.out.sg (fun hJ => ?_)
    clear hK K
    refine wx 7 241 (.tuple #[.agg #[.int .i64 y0, .int .i64 y1, .slice y2 y4.length y3, .int .i64 y5], .int .i64 TE]) rfl hJ ?_
    refine wx 8 249 (.agg #[.int .i64 y0, .int .i64 y1, .slice y2 y4.length y3, .int .i64 y5]) rfl hJ ?_
    refine wx 9 250 (.int .i64 TE) rfl hJ ?_
    refine wr1 10 rfl (fun K hK => ?_)
    go_simp
    refine hK.out _ _ (X6.out.sg.keep ((Kept.refl w6 []).alloc zT4)) (fun hJ => ?_)
    clear hK K
    obtain ⟨zt, hz⟩ : ∃ z, z = w6.heap.size := ⟨_, rfl⟩
    obtain ⟨w7, hw⟩ : ∃ w', w' = w6.alloc zT4 := ⟨_, rfl⟩
    obtain ⟨x, g, hb, p⟩ := X6.out.made hz hw
    have X7 := iH x; have GT7 := iH g; have HB := iH hb
    have RY7 := iH (RY6.out.keep p)
    rw [<- hw, <- hz]
    have hJ := X7.out.sg
    clear hw hz p x g hb
   rotate_left 1
   focus
    go_simp
    refine hK.out _ _ (X5.out.sg.keep ((Kept.refl w5 []).alloc zT4)) (fun hJ => ?_)
    clear hK K
    obtain ⟨zt, hz⟩ : ∃ z, z = w5.heap.size := ⟨_, rfl⟩
    obtain ⟨w6, hw⟩ : ∃ w', w' = w5.alloc zT4 := ⟨_, rfl⟩
    obtain ⟨x, g, hb, p⟩ := X5.out.made hz hw
    have X6 := iH x; have GT6 := iH g; have HB := iH hb
    rw [<- hw, <- hz]
    have hJ := X6.out.sg
    clear hw hz p x g hb
    refine wr1 6 rfl (fun K hK => ?_)
    obtain ⟨O7, k7, f7⟩ := X6.out.c
    have c7 := knxt_any k7 Z.out nm
    rw [<- HTE.out, <- HTP.out, <- HTQ.out] at c7
    have C7 := iH c7; have F7 := iH f7
    clear k7 f7 c7
    go_simp
    go_at_call 29
    refine (C7.out).mono ?_
    rintro e w7 ⟨y, rfl, hpl, hry, p⟩
    obtain ⟨y0, y1, y2, y3, y4, y5⟩ := y
    simp only [Tk.cs, Tk.op] at *
    obtain ⟨x, hp, rp⟩ := F7.out _ _ p
    have X7 := iH x; have RY7 := iH hry; have HPL := iH hpl
    have GT7 := iH (hp _ _ (by simp) GT6.out)
    clear hpl hry p x hp rp hJ
    go_wp2_with fail
    refine hK.out _ _ X7.out.sg (fun hJ => ?_)
    clear hK K
    refine wx 7 241 (.tuple #[.agg #[.int .i64 y0, .int .i64 y1, .slice y2 y4.length y3, .int .i64 y5], .int .i64 TE]) rfl hJ ?_
    refine wx 8 249 (.agg #[.int .i64 y0, .int .i64 y1, .slice y2 y4.length y3, .int .i64 y5]) rfl hJ ?_
    refine wx 9 250 (.int .i64 TE) rfl hJ ?_
   rotate_left 1
  rotate_left 2
  focus
   go_simp
   refine hK.out _ _ (X4.out.sg.keep ((Kept.refl w4 []).alloc zT4)) (fun hJ => ?_)
   clear hK K
   obtain ⟨zt, hz⟩ : ∃ z, z = w4.heap.size := ⟨_, rfl⟩
   obtain ⟨w5, hw⟩ : ∃ w', w' = w4.alloc zT4 := ⟨_, rfl⟩
   obtain ⟨x, g, hb, p⟩ := X4.out.made hz hw
   have X5 := iH x; have GT5 := iH g; have HB := iH hb
   rw [<- hw, <- hz]
   have hJ := X5.out.sg
   clear hw hz p x g hb
   refine wr1 5 rfl (fun K hK => ?_)
   have c6 := xqO ⟨D, U, Ky, N⟩ hU w5
   simp only [ActQ.cs] at c6
   rw [<- NM.out] at c6
   have C6 := iH c6
   clear c6
   go_simp
   go_at_call 57
   refine (C6.out).mono ?_
   rintro e w6 ⟨rfl, p⟩
   have X6 := iH (X5.out.keep p); have GT6 := iH (p.heap (by simp) GT5.out)
   clear p hJ
   go_wp2_with fail
   refine hK.out _ _ X6.out.sg (fun hJ => ?_)
   clear hK K
   refine wr1 6 rfl (fun K hK => ?_)
   obtain ⟨O7, k7, f7⟩ := X6.out.c
   have c7 := knxt_any k7 Z.out nm
   rw [<- HTE.out, <- HTP.out, <- HTQ.out] at c7
   have C7 := iH c7; have F7 := iH f7
   clear k7 f7 c7
   go_simp
   go_at_call 29
   refine (C7.out).mono ?_
   rintro e w7 ⟨y, rfl, hpl, hry, p⟩
   obtain ⟨y0, y1, y2, y3, y4, y5⟩ := y
   simp only [Tk.cs, Tk.op] at *
   obtain ⟨x, hp, rp⟩ := F7.out _ _ p
   have X7 := iH x; have RY7 := iH hry; have HPL := iH hpl
   have GT7 := iH (hp _ _ (by simp) GT6.out)
   clear hpl hry p x hp rp hJ
   go_wp2_with fail
   refine hK.out _ _ X7.out.sg (fun hJ => ?_)
   clear hK K
   refine wx 7 241 (.tuple #[.agg #[.int .i64 y0, .int .i64 y1, .slice y2 y4.length y3, .int .i64 y5], .int .i64 TE]) rfl hJ ?_
   refine wx 8 249 (.agg #[.int .i64 y0, .int .i64 y1, .slice y2 y4.length y3, .int .i64 y5]) rfl hJ ?_
   refine wx 9 250 (.int .i64 TE) rfl hJ ?_
  rotate_left 1
  all_goals
  as_aux_lemma =>
  refine wr1 11 rfl (fun K hK => ?_)
  obtain ⟨w8, hw⟩ : ∃ w', w' = xqo w7 zt 0 [.int .i64 y0, .int .i64 y1, .slice y2 y4.length y3, .int .i64 y5] := ⟨_, rfl⟩
  obtain ⟨x, g, r, q9⟩ := X7.out.stored GT7.out HB.out hw rfl (by simp) (by simp)
  have X8 := iH x; have GT8 := iH g; have RY8 := iH (r _ _ RY7.out); have HW := iH hw
  clear hw x g r q9
  obtain ⟨x0, x1, x2, x3⟩ := xqc GT7.out
  obtain ⟨f0, f1, f2, f3⟩ := xqf GT7.out
  go_simp
  refine hK.out _ (xqo w7 zt 0 [.int .i64 y0, .int .i64 y1, .slice y2 y4.length y3, .int .i64 y5]) (by rw [<- HW.out]; exact X8.out.sg) (fun hJ => ?_)
  clear hK K
  rw [<- HW.out] at hJ ⊢
  clear x0 x1 x2 x3 f0 f1 f2 f3
  refine wx 12 16 (.int .i64 TE) rfl hJ ?_
  refine wd ?_
  clear hJ
  go_wp2_with fail
  go_meet
  exact ⟨w8, zt, y0, y1, y2, y3, y4, y5, _, _, rfl, rfl, rfl, X8, iH (by simp), GT8, RY8, HPL⟩
 case' rest => obtain ⟨w10, zt, y0, y1, y2, y3, y4, y5, P1, P2, rfl, rfl, rfl, X10, HP, GZ10, RZ10, HPY⟩ := hcut
 as_aux_lemma =>
 go_upto_region 34 with fail
 go_cut [17, 18] (fun sb so wx => ∃ (wq : World) (zu : Nat) (z0 z1 : Int) (z2 : Option Addr) (z3 : Nat) (z4 : List Int) (z5 : Int), wq = wx /\ sb = .pointer (some ⟨zu, 0, none⟩) /\ so = .int .i64 TE /\ RowKit.Hid (Gd w0 wq a h m hx st st TQ TQ zb #[.int .u8 D, .int .u8 U, .int .u8 Ky, .int .i64 N] zr #[.int .i64 (r5 : Nat), .string ⟨#[116]⟩]) /\ RowKit.Hid (wq.heap[zt]? = some (.cells #[.int .i64 y0, .int .i64 y1, .slice y2 y4.length y3, .int .i64 y5] 38 (0, 0))) /\ RowKit.Hid (wq.heap[zu]? = some (.cells #[.int .i64 z0, .int .i64 z1, .slice z2 z4.length z3, .int .i64 z5] 38 (0, 0))) /\ RowKit.Hid (RdT wq (.slice y2 y4.length y3) y4) /\ RowKit.Hid (RdT wq (.slice z2 z4.length z3) z4) /\ RowKit.Hid ((⟨z0, z1, z4, z5⟩ : Pt) = TP))
 case first =>
  as_aux_lemma =>
  obtain ⟨w11, hw11⟩ : ∃ w', w' = w10.drew := ⟨_, rfl⟩
  have p : Kept w10 w11 [] := by rw [hw11]; exact (Kept.refl w10 []).drew
  have X11 := iH (X10.out.keep p); have GZ11 := iH (p.heap (by simp) GZ10.out); have RZ11 := iH (RZ10.out.keep p)
  refine wp_region_held_drew (S := Sg a h m hx zb #[.int .u8 D, .int .u8 U, .int .u8 Ky, .int .i64 N] zr #[.int .i64 (r5 : Nat), .string ⟨#[116]⟩]) (by kernel_rfl) (by rw [<- hw11]; exact X11.out.sg) (fun hJ => ?_)
  rw [<- hw11] at hJ ⊢
  clear hw11 p
  refine wx 0 252 (.pointer (some ⟨hx, 0, none⟩)) rfl hJ ?_
  refine wx 1 253 (.pointer (some ⟨hx, 0, none⟩)) rfl hJ ?_
  refine wx 2 254 (.pointer (some ⟨hx, 3, none⟩)) rfl hJ ?_
  refine wx 3 255 (.pointer (some ⟨h, 0, none⟩)) rfl hJ ?_ (hy := fun V hV => by (obtain ⟨u0, u1, u2, u3⟩ := xqd hV.1; go_simp))
  refine wx 4 256 (.agg #[.int .u8 D, .int .u8 U, .int .u8 Ky, .int .i64 N]) rfl hJ ?_ (hy := fun V hV => by (obtain ⟨u0, u1, u2, u3⟩ := xqd hV.2.1; go_simp))
  refine wpAnyH_ready (rs := [5, 10]) (by kernel_rfl) (by simp) ?_
  refine (AllReadyH.cons (o := _) rfl (fun K hK => ?_) (AllReadyH.cons (o := _) rfl (fun K hK => ?_) AllReadyH.nil))
  focus
   have c12 := xqO ⟨D, U, Ky, N⟩ hU w11
   simp only [ActQ.cs] at c12
   rw [<- NM.out] at c12
   have C12 := iH c12
   clear c12
   go_simp
   go_at_call 57
   refine (C12.out).mono ?_
   rintro e w12 ⟨rfl, p⟩
   have X12 := iH (X11.out.keep p); have GZ12 := iH (p.heap (by simp) GZ11.out); have RZ12 := iH (RZ11.out.keep p)
   clear p hJ
   go_wp2_with fail
   refine hK.out _ _ X12.out.sg (fun hJ => ?_)
   clear hK K
   refine wpAnyH_ready (rs := [6, 10]) (by kernel_rfl) (by simp) ?_
   refine (AllReadyH.cons (o := _) rfl (fun K hK => ?_) (AllReadyH.cons (o := _) rfl (fun K hK => ?_) AllReadyH.nil))
   focus
    obtain ⟨O13, k13, f13⟩ := X12.out.d
    have c13 := dopn_any k13 Z.out nm
    rw [<- HTE.out, <- HTP.out, <- HTQ.out] at c13
    have C13 := iH c13; have F13 := iH f13
    clear k13 f13 c13
    go_simp
    go_at_call 60
    refine (C13.out).mono ?_
    rintro e w13 ⟨y, rfl, hpl, hry, p⟩
    obtain ⟨z0, z1, z2, z3, z4, z5⟩ := y
    simp only [Tk.cs, Tk.op] at *
    obtain ⟨x, hp, rp, -⟩ := F13.out _ _ p
    have X13 := iH x; have RY13 := iH hry; have HPL := iH hpl
    have GZ13 := iH (hp _ _ (by simp [HP.out]) GZ12.out)
    have RZ13 := iH (rp _ _ RZ12.out)
    clear hpl hry p x hp rp hJ
    go_wp2_with fail
    refine hK.out _ _ X13.out.sg (fun hJ => ?_)
    clear hK K
    refine wx 7 251 (.tuple #[.agg #[.int .i64 z0, .int .i64 z1, .slice z2 z4.length z3, .int .i64 z5], .int .i64 TE]) rfl hJ ?_
    refine wx 8 259 (.agg #[.int .i64 z0, .int .i64 z1, .slice z2 z4.length z3, .int .i64 z5]) rfl hJ ?_
    refine wx 9 260 (.int .i64 TE) rfl hJ ?_
    refine wr1 10 rfl (fun K hK => ?_)
    go_simp
    refine hK.out _ _ (X13.out.sg.keep ((Kept.refl w13 []).alloc zT4)) (fun hJ => ?_)
    clear hK K
    obtain ⟨zu, hz⟩ : ∃ z, z = w13.heap.size := ⟨_, rfl⟩
    obtain ⟨w14, hw⟩ : ∃ w', w' = w13.alloc zT4 := ⟨_, rfl⟩
    obtain ⟨x, g, hb, p⟩ := X13.out.made hz hw
    have X14 := iH x; have GT14 := iH g; have HB := iH hb
    have GZ14 := iH (p.heap (by simp) GZ13.out); have RZ14 := iH (RZ13.out.keep p); have RY14 := iH (RY13.out.keep p)
    have HNE := iH (show zt ≠ zu by have := xqh GZ13.out; omega)
    rw [<- hw, <- hz]
    have hJ := X14.out.sg
    clear hw hz p x g hb
   rotate_left 1
   focus
    go_simp
    refine hK.out _ _ (X12.out.sg.keep ((Kept.refl w12 []).alloc zT4)) (fun hJ => ?_)
    clear hK K
    obtain ⟨zu, hz⟩ : ∃ z, z = w12.heap.size := ⟨_, rfl⟩
    obtain ⟨w13, hw⟩ : ∃ w', w' = w12.alloc zT4 := ⟨_, rfl⟩
    obtain ⟨x, g, hb, p⟩ := X12.out.made hz hw
    have X13 := iH x; have GT13 := iH g; have HB := iH hb
    have GZ13 := iH (p.heap (by simp) GZ12.out); have RZ13 := iH (RZ12.out.keep p)
    have HNE := iH (show zt ≠ zu by have := xqh GZ12.out; omega)
    rw [<- hw, <- hz]
    have hJ := X13.out.sg
    clear hw hz p x g hb
    refine wr1 6 rfl (fun K hK => ?_)
    obtain ⟨O14, k14, f14⟩ := X13.out.d
    have c14 := dopn_any k14 Z.out nm
    rw [<- HTE.out, <- HTP.out, <- HTQ.out] at c14
    have C14 := iH c14; have F14 := iH f14
    clear k14 f14 c14
    go_simp
    go_at_call 60
    refine (C14.out).mono ?_
    rintro e w14 ⟨y, rfl, hpl, hry, p⟩
    obtain ⟨z0, z1, z2, z3, z4, z5⟩ := y
    simp only [Tk.cs, Tk.op] at *
    obtain ⟨x, hp, rp, -⟩ := F14.out _ _ p
    have X14 := iH x; have RY14 := iH hry; have HPL := iH hpl
    have GZ14 := iH (hp _ _ (by simp [HP.out]) GZ13.out)
    have GT14 := iH (hp _ _ (by simp) GT13.out)
    have RZ14 := iH (rp _ _ RZ13.out)
    clear hpl hry p x hp rp hJ
    go_wp2_with fail
    refine hK.out _ _ X14.out.sg (fun hJ => ?_)
    clear hK K
    refine wx 7 251 (.tuple #[.agg #[.int .i64 z0, .int .i64 z1, .slice z2 z4.length z3, .int .i64 z5], .int .i64 TE]) rfl hJ ?_
    refine wx 8 259 (.agg #[.int .i64 z0, .int .i64 z1, .slice z2 z4.length z3, .int .i64 z5]) rfl hJ ?_
    refine wx 9 260 (.int .i64 TE) rfl hJ ?_
   rotate_left 1
  rotate_left 2
  focus
   go_simp
   refine hK.out _ _ (X11.out.sg.keep ((Kept.refl w11 []).alloc zT4)) (fun hJ => ?_)
   clear hK K
   obtain ⟨zu, hz⟩ : ∃ z, z = w11.heap.size := ⟨_, rfl⟩
   obtain ⟨w12, hw⟩ : ∃ w', w' = w11.alloc zT4 := ⟨_, rfl⟩
   obtain ⟨x, g, hb, p⟩ := X11.out.made hz hw
   have X12 := iH x; have GT12 := iH g; have HB := iH hb
   have GZ12 := iH (p.heap (by simp) GZ11.out); have RZ12 := iH (RZ11.out.keep p)
   have HNE := iH (show zt ≠ zu by have := xqh GZ11.out; omega)
   rw [<- hw, <- hz]
   have hJ := X12.out.sg
   clear hw hz p x g hb
   refine wr1 5 rfl (fun K hK => ?_)
   have c13 := xqO ⟨D, U, Ky, N⟩ hU w12
   simp only [ActQ.cs] at c13
   rw [<- NM.out] at c13
   have C13 := iH c13
   clear c13
   go_simp
   go_at_call 57
   refine (C13.out).mono ?_
   rintro e w13 ⟨rfl, p⟩
   have X13 := iH (X12.out.keep p); have GZ13 := iH (p.heap (by simp) GZ12.out); have GT13 := iH (p.heap (by simp) GT12.out); have RZ13 := iH (RZ12.out.keep p)
   clear p hJ
   go_wp2_with fail
   refine hK.out _ _ X13.out.sg (fun hJ => ?_)
   clear hK K
   refine wr1 6 rfl (fun K hK => ?_)
   obtain ⟨O14, k14, f14⟩ := X13.out.d
   have c14 := dopn_any k14 Z.out nm
   rw [<- HTE.out, <- HTP.out, <- HTQ.out] at c14
   have C14 := iH c14; have F14 := iH f14
   clear k14 f14 c14
   go_simp
   go_at_call 60
   refine (C14.out).mono ?_
   rintro e w14 ⟨y, rfl, hpl, hry, p⟩
   obtain ⟨z0, z1, z2, z3, z4, z5⟩ := y
   simp only [Tk.cs, Tk.op] at *
   obtain ⟨x, hp, rp, -⟩ := F14.out _ _ p
   have X14 := iH x; have RY14 := iH hry; have HPL := iH hpl
   have GZ14 := iH (hp _ _ (by simp [HP.out]) GZ13.out)
   have GT14 := iH (hp _ _ (by simp) GT13.out)
   have RZ14 := iH (rp _ _ RZ13.out)
   clear hpl hry p x hp rp hJ
   go_wp2_with fail
   refine hK.out _ _ X14.out.sg (fun hJ => ?_)
   clear hK K
   refine wx 7 251 (.tuple #[.agg #[.int .i64 z0, .int .i64 z1, .slice z2 z4.length z3, .int .i64 z5], .int .i64 TE]) rfl hJ ?_
   refine wx 8 259 (.agg #[.int .i64 z0, .int .i64 z1, .slice z2 z4.length z3, .int .i64 z5]) rfl hJ ?_
   refine wx 9 260 (.int .i64 TE) rfl hJ ?_
  rotate_left 1
  all_goals
  as_aux_lemma =>
  refine wr1 11 rfl (fun K hK => ?_)
  obtain ⟨w15, hw⟩ : ∃ w', w' = xqo w14 zu 0 [.int .i64 z0, .int .i64 z1, .slice z2 z4.length z3, .int .i64 z5] := ⟨_, rfl⟩
  obtain ⟨x, g, r, q9⟩ := X14.out.stored GT14.out HB.out hw rfl (by simp) (by simp)
  have X15 := iH x; have GT15 := iH g; have RY15 := iH (r _ _ RY14.out); have HW := iH hw
  have RZ15 := iH (r _ _ RZ14.out); have GZ15 := iH (q9 _ _ HNE.out GZ14.out)
  clear hw x g r q9
  obtain ⟨x0, x1, x2, x3⟩ := xqc GT14.out
  obtain ⟨f0, f1, f2, f3⟩ := xqf GT14.out
  go_simp
  refine hK.out _ (xqo w14 zu 0 [.int .i64 z0, .int .i64 z1, .slice z2 z4.length z3, .int .i64 z5]) (by rw [<- HW.out]; exact X15.out.sg) (fun hJ => ?_)
  clear hK K
  rw [<- HW.out] at hJ ⊢
  clear x0 x1 x2 x3 f0 f1 f2 f3
  refine wx 12 18 (.int .i64 TE) rfl hJ ?_
  refine wd ?_
  clear hJ
  go_wp2_with fail
  go_meet
  exact ⟨w15, zu, z0, z1, z2, z3, z4, z5, rfl, rfl, rfl, iH X15.out.gd, GZ15, GT15, RZ15, RY15, HPL⟩
 case' rest => obtain ⟨w20, zu, z0, z1, z2, z3, z4, z5, rfl, rfl, rfl, G20, GZ20, GT20, RZ20, RY20, HPZ⟩ := hcut
 as_aux_lemma =>
 have cS := rsame_any ⟨y0, y1, y2, y3, y4, y5⟩ ⟨z0, z1, z2, z3, z4, z5⟩ w20 (HPY.out.trans HPZ.out.symm) RZ20.out.1 RY20.out.1
 simp only [Tk.cs] at cS
 have CS := iH cS
 clear cS
 obtain ⟨x0, x1, x2, x3⟩ := xqc GZ20.out
 obtain ⟨g0, g1, g2, g3⟩ := xqc GT20.out
 go_wp2_with fail
 refine CS.out.mono ?_
 rintro e w21 ⟨rfl, p⟩
 have G21 := iH (G20.out.keep p)
 clear p x0 x1 x2 x3 g0 g1 g2 g3
 go_wp2
 go_ret
 exact ⟨rfl, G21.out.bq ((by rw [HTQ.out]; exact (Z.out.nxt nm).mono (by omega))) (by have := HL.out; omega)⟩
end Go.Proofs.YticiofkiffgclaaGreat
