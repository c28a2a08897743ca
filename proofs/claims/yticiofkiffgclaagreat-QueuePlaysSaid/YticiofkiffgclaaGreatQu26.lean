/-
 Kqo, SoiB, SojB, Bb, Bc in one text.
-/
import Derived.Test.YticiofkiffgclaaGreatQu0
import Derived.Test.YticiofkiffgclaaGreatQu25
import Derived.Test.YticiofkiffgclaaGreatQu16
import Derived.Test.YticiofkiffgclaaGreatQu13
import Derived.Test.YticiofkiffgclaaGreatShelfS
import Derived.Test.YticiofkiffgclaaGreatQu11
import Derived.Test.YticiofkiffgclaaGreatQu20
import Derived.Test.YticiofkiffgclaaGreatQu19
import Derived.Test.YticiofkiffgclaaGreatQu18
import Derived.Test.YticiofkiffgclaaGreatQu17
import Derived.Test.YticiofkiffgclaaGreatQu9
import Derived.Laws.StructEq
import Derived.BigQuiet
import Derived.Deep.DeepCutAuto
import Derived.Lib.SliceRun
import Derived.LoopTactic
import Derived.Test.YticiofkiffgclaaGreatQu15
import Derived.Test.YticiofkiffgclaaGreatQu14
import Derived.Test.YticiofkiffgclaaGreatQu2
set_option linter.unusedVariables false
set_option maxHeartbeats 16000000
set_option maxRecDepth 100000
namespace Go.Proofs.YticiofkiffgclaaGreat
open Go.RowKit
variable {T : TypeId} {F : Nat -> Option Value} {w w' : World} {B h oo : Nat} {V : Value} {xs : List Tk}
def RAddPost (T : TypeId) (F : Nat -> Option Value) (w : World) (B h oo : Nat) (V : Value) (xs : List Tk) (M : Int) (l : List Int) (t : Int) (e : Ending) (w' : World) : Prop :=
 ∃ (y : Tk) (V' : Value) (xs' : List Tk), e = .returned (.tuple #[.agg y.cs, .int .i64 (addE (xs.map Tk.pl) M l t)]) /\ y.pl = addP (xs.map Tk.pl) M l t /\ RdT w' y.op y.l /\ To T F (.int .i64 (xqk (addS (xs.map Tk.pl) M l t))) w' B h oo V' xs' /\ xs'.map Tk.pl = addS (xs.map Tk.pl) M l t /\ Stp (xqx h V) (xqx h V') w w'
theorem RAddPost.no {M : Int} {l : List Int} {t : Int} {E : Int} {wr : World} (hE : addE (xs.map Tk.pl) M l t = E) (h0 : E ≠ 0) (a : To T F (.int .i64 (xqk (xs.map Tk.pl))) w B h oo V xs) (k : Kept w wr []) (gz : wr.heap[w.heap.size + 1]? = some zT4) (u0 u1 u2 u3 : Value) :
 RAddPost T F w B h oo V xs M l t (.returned (.tuple #[.agg #[.int .i64 0, .int .i64 0, .slice none 0 0, .int .i64 0], .int .i64 E])) ((((wr.setCell ⟨w.heap.size + 1, 0, none⟩ u0).setCell ⟨w.heap.size + 1, 1, none⟩ u1).setCell ⟨w.heap.size + 1, 2, none⟩ u2).setCell ⟨w.heap.size + 1, 3, none⟩ u3) := by
 have kf := k.four (g := w.heap.size + 1) (.inr (by omega)) u0 u1 u2 u3
 exact ⟨Tk.zero, V, xs, by rw [hE]; rfl, by unfold addP; rw [hE, if_neg h0]; rfl, RdT.nil _, by unfold addS; rw [hE, if_neg h0]; exact a.keep kf, by unfold addS; rw [hE, if_neg h0], Stp.ofKept kf⟩
theorem RAddPost.yes {M : Int} {l : List Int} {t L : Int} {wc w7 : World} {v9 : Value} {x1 : Tk} (hE : addE (xs.map Tk.pl) M l t = 0) (hL : L = xqk (xs.map Tk.pl)) (hwf : Kept w wc []) (hz : w.heap.size + 1 < wc.heap.size) (NF : ¬ xqx h V (w.heap.size + 1)) (T9 : To T F (.int .i64 (L + 1)) w7 B h oo v9 (xs ++ [x1])) (hx1 : x1.pl = ⟨L + 1, M, l, t⟩)
 (P9 : Stp (xqx h V) (xqx h v9) wc w7) (G7 : w7.heap[w.heap.size + 1]? = some zT4) (u0 u1 u2 u3 : Value) : RAddPost T F w B h oo V xs M l t (.returned (.tuple #[.agg x1.cs, .int .i64 0])) ((((w7.setCell ⟨w.heap.size + 1, 0, none⟩ u0).setCell ⟨w.heap.size + 1, 1, none⟩ u1).setCell ⟨w.heap.size + 1, 2, none⟩ u2).setCell ⟨w.heap.size + 1, 3, none⟩ u3) := by
 have f7 : Fo (fun k => k = w.heap.size + 1) w7 ((((w7.setCell ⟨w.heap.size + 1, 0, none⟩ u0).setCell ⟨w.heap.size + 1, 1, none⟩ u1).setCell ⟨w.heap.size + 1, 2, none⟩ u2).setCell ⟨w.heap.size + 1, 3, none⟩ u3) := Fo.four (O := fun k => k = w.heap.size + 1) (Fo.refl _ w7) (g := w.heap.size + 1) (.inl rfl) u0 u1 u2 u3
 have n7 : NoI w7 (fun k => k = w.heap.size + 1) := by
  rintro k rfl cs fz hg
  rw [G7] at hg
  simp only [zT4, Option.some.injEq, Obj.cells.injEq] at hg
  exact absurd hg.2.1 (by decide)
 have dis : ∀ k, xqx h v9 k -> ¬ k = w.heap.size + 1 := by
  rintro k hk rfl
  rcases P9.2 _ hk with h1 | h1
  ·exact NF h1
  omega
 have s := (Stp.ofKept (O := xqx h V) hwf).trans P9
 have eS : addS (xs.map Tk.pl) M l t = xs.map Tk.pl ++ [⟨L + 1, M, l, t⟩] := by rw [addS, hE, if_pos rfl, <- hL]
 refine ⟨x1, v9, xs ++ [x1], by rw [hE], by rw [addP, hE, if_pos rfl, <- hL]; exact hx1, (T9.rd x1 (by simp)).fo f7 n7, ?_, by rw [eS, List.map_append]; simp [hx1], ⟨s.1.four (g := w.heap.size + 1) (.inr (by omega)) u0 u1 u2 u3, s.2⟩⟩
 rw [eS, xq4]
 exact T9.fo f7 dis n7
theorem rkadd_any (a : To T F (.int .i64 (xqk (xs.map Tk.pl))) w B h oo V xs) (ok : Okp (xs.map Tk.pl)) (M : Int) (va : Option Addr) (vc : Nat) (l : List Int) (t : Int) (hr : RdT w (.slice va l.length vc) l) (hM : M <= 9223372036854775807) (hll : l.length <= 1000) (hlast : xqk (xs.map Tk.pl) <= 1099511627776) :
 Calls Tryz.prog 54 #[.pointer (some ⟨h, oo, none⟩), .agg #[.int .i64 M, .slice va l.length vc], .int .i64 t] w (RAddPost T F w B h oo V xs M l t) := by
 have hsz : xs.length <= 64 := by have := ok.size; simpa using this
 have hn0 := ok.n0
 have EE : RowKit.Hid (addE (xs.map Tk.pl) M l t = if 64 <= xs.length then 8 else if xqn M l = false then 1 else if folB (xs.map Tk.pl) M l t = true then 0 else 1) := iH (by unfold addE; rw [List.length_map])
 obtain ⟨i0, hi0, hz0, hz1, hzb⟩ := info_parts Tryz.infoTk
 have I := iH (And.intro hi0 (And.intro hz0 (And.intro hz1 hzb)))
 obtain ⟨W1, hW1⟩ : ∃ W1, W1 = (w.alloc (.cells #[.int .i64 M, .slice va l.length vc] 36)).alloc zT4 := ⟨_, rfl⟩
 have k1 : Kept w W1 [] := by rw [hW1]; exact ((Kept.refl w []).alloc _).alloc _
 have e1 : (w.alloc (.cells #[.int .i64 M, .slice va l.length vc] 36)).heap.size = w.heap.size + 1 := by simp
 have sW1 : W1.heap.size = w.heap.size + 2 := by rw [hW1]; simp
 have g0 : W1.heap[w.heap.size]? = some (.cells #[.int .i64 M, .slice va l.length vc] 36 (0, 0)) := by rw [hW1]; exact (Below.heap_alloc _ _ _ (by simp)).trans (heap_alloc_new w _)
 have g1 : W1.heap[w.heap.size + 1]? = some zT4 := by rw [hW1, <- e1]; exact heap_alloc_new _ _
 have NF : RowKit.Hid (¬ xqx h V (w.heap.size + 1) /\ ¬ xqx h V w.heap.size) := iH ⟨fun hk => by have := (a.lt _ hk).2; omega, fun hk => by have := (a.lt _ hk).2; omega⟩
 have a1 := a.keep k1
 have r1 := hr.keep k1
 have HR := iH (rright_any M _ l W1 r1.1)
 obtain ⟨u, cp, hV⟩ := a1.shape
 subst hV
 have K1 := iH k1; have HW1 := iH hW1; have G0 := iH g0; have G1 := iH g1; have A0 := iH a; have A1 := iH a1; have R1 := iH r1; have SW := iH sW1; have OK := iH ok
 obtain ⟨L, hL⟩ : ∃ L, L = xqk (xs.map Tk.pl) := ⟨_, rfl⟩
 have HL := iH hL
 have cv := a1.cell.1
 have hlast2 : 0 <= L /\ L <= 1099511627776 := by rw [hL]; exact ⟨hn0, hlast⟩
 clear hi0 hz0 hz1 hzb k1 hW1 e1 g0 g1 a1 r1 a hr ok sW1 hL hlast hn0
 by_cases h64 : 64 <= xs.length
 ·have x1 : (64 : Int) <= (xs.length : Int) := by omega
  rw [if_pos h64] at EE
  clear h64
  obtain ⟨c0, c1, c2, c3⟩ := xqc G1.out
  obtain ⟨f0, f1, f2, f3⟩ := xqf G1.out
  go_enter Tryz.func54, Tryz.ntmps54
  go_upto_region 1 with fail
  rw [<- HW1.out]
  go_wp2
  refine bodyPost_ret (v := .tuple #[.agg #[.int .i64 0, .int .i64 0, .slice none 0 0, .int .i64 0], .int .i64 8]) (by simp [results, Tryz.results54, go_sem, *]) rfl ?_
  exact RAddPost.no EE.out (by decide) A0.out K1.out G1.out _ _ _ _
 have x1 : ¬ (64 : Int) <= (xs.length : Int) := by omega
 rw [if_neg h64] at EE
 cases hR : xqn M l with
 | false =>
 rw [hR, if_pos rfl] at EE
 rw [hR] at HR
 clear h64 hR
 go_enter Tryz.func54, Tryz.ntmps54
 go_upto_region 1 with fail
 rw [<- HW1.out]
 obtain ⟨j0, j1⟩ := xqq G0.out
 go_wp2_with fail
 refine HR.out.mono ?_
 rintro e w2 ⟨rfl, k2⟩
 have K2 := iH k2
 have g2 := k2.heap (by simp) G1.out
 have G2 := iH g2
 obtain ⟨c0, c1, c2, c3⟩ := xqc g2
 obtain ⟨f0, f1, f2, f3⟩ := xqf g2
 clear g2 k2 cv j0 j1
 go_wp2
 refine bodyPost_ret (v := .tuple #[.agg #[.int .i64 0, .int .i64 0, .slice none 0 0, .int .i64 0], .int .i64 1]) (by simp [results, Tryz.results54, go_sem, *]) rfl ?_
 exact RAddPost.no EE.out (by decide) A0.out (K1.out.trans K2.out (by simp)) G2.out _ _ _ _
 | true =>
  have HRT := iH hR
  rw [hR, if_neg (by simp)] at EE
  rw [hR] at HR
  clear hR h64
  by_cases hne : xs = []
  ·subst hne
   have HE : RowKit.Hid (addE (List.map Tk.pl []) M l t = 0) := iH (by rw [EE.out]; rfl)
   clear EE
   go_enter Tryz.func54, Tryz.ntmps54
   go_upto_region 1 with fail
   rw [<- HW1.out]
   obtain ⟨j0, j1⟩ := xqq G0.out
   go_wp2_with fail
   refine HR.out.mono ?_
   rintro e wr ⟨rfl, k2⟩
   have K2 := iH k2
   clear cv j0 j1
   obtain ⟨cv, fv⟩ := (A1.out.keep k2).cell
   clear k2
   have KR := K2
   obtain ⟨cv1, fv1⟩ := (A1.out.keep KR.out).cell1
   have m1 : IntKind.i64.wrap (L + 1) = L + 1 := by rw [IntKind.wrap_i64]; omega
   have m2 : wrap64 (L + 1) = L + 1 := by simp only [wrap64]; omega
   rw [<- HL.out] at cv1
   obtain ⟨w9, hw9⟩ : ∃ w9, w9 = wr.setCell ⟨h, oo + 1, none⟩ (.int .i64 (L + 1)) := ⟨_, rfl⟩
   have hs9 := (A1.out.keep KR.out).set1 (.int .i64 (L + 1))
   rw [<- hw9] at hs9
   have o9 : Fo (fun k => k = h) wr w9 := by rw [hw9]; exact Fo.setCell (O := fun k => k = h) (Fo.refl _ wr) (p := ⟨h, oo + 1, none⟩) (.inl rfl) _
   have nz0 : w.heap.size ≠ h := fun e => NF.out.2 (.inl e)
   have nz1 : w.heap.size + 1 ≠ h := fun e => NF.out.1 (.inl e)
   have gs9 := o9.heap nz0 (KR.out.heap (by simp) G0.out)
   have gz9 := o9.heap nz1 (KR.out.heap (by simp) G1.out)
   have r9 := (R1.out.keep KR.out).fo o9 (fun k e => (A1.out.keep KR.out).noI k (.inl e))
   have A9 := iH hs9.1; have P9 := iH hs9.2; have GS9 := iH gs9; have GZ9 := iH gz9; have R9 := iH r9; have HW9 := iH hw9
   have SZ9 : RowKit.Hid (w.heap.size + 1 < wr.heap.size) := iH (by have := SW.out; have := KR.out.size; omega)
   clear hw9 hs9 o9 nz0 nz1 gs9 gz9 r9
   go_upto_region 10 with fail
   rw [<- HW9.out]
   clear cv fv cv1 fv1
   obtain ⟨cv, fv⟩ := A9.out.cell
   obtain ⟨cv1, fv1⟩ := A9.out.cell1
   have C1 := iH cv1
   clear cv1 fv1
   refine wp_region_held_drew (S := fun V => Kept w9 V []) (by kernel_rfl) (Kept.refl w9 []).drew (fun hJ => ?_)
   refine wx 0 59 (.pointer (some ⟨h, oo, none⟩)) rfl hJ ?_
   refine wx 1 60 (.pointer (some ⟨h, oo, none⟩)) rfl hJ ?_
   refine wx 2 61 (.pointer (some ⟨h, oo + 1, none⟩)) rfl hJ ?_
   refine wx 3 62 (.int .i64 (L + 1)) rfl hJ ?_ (hy := fun V hV => by (have c1 := hV.cell (p := ⟨h, oo + 1, none⟩) (by simp) C1.out; clear hV; go_simp))
   refine wx 4 63 (.agg #[.int .i64 M, .slice va l.length vc]) rfl hJ ?_ (hy := fun V hV => by (obtain ⟨c0, c1⟩ := xqq (hV.heap (by simp) GS9.out); clear hV; go_simp))
   refine wx 5 64 (.int .i64 t) rfl hJ ?_
   refine wx 6 65 (.agg #[.int .i64 (L + 1), .int .i64 M, .slice va l.length vc, .int .i64 t]) rfl hJ ?_
   refine wr1 7 rfl (fun K hK => ?_)
   go_simp
   refine hK.out _ _ ((Kept.refl w9 []).alloc zT4).drew (fun hJ => ?_)
   clear hK K
   obtain ⟨wA, hwA⟩ : ∃ wA, wA = (w9.alloc zT4).drew := ⟨_, rfl⟩
   have kA : Kept w9 wA [] := by rw [hwA]; exact ((Kept.refl w9 []).alloc zT4).drew
   have gA : wA.heap[w9.heap.size]? = some zT4 := by rw [hwA]; exact heap_alloc_new w9 zT4
   rw [<- hwA]
   clear hwA
   obtain ⟨p, hp⟩ : ∃ p, p = w9.heap.size := ⟨_, rfl⟩
   rw [<- hp] at gA ⊢
   have sp : w9.heap.size <= p := by omega
   clear hp
   refine wr1 8 rfl (fun K hK => ?_)
   obtain ⟨c0, c1, c2, c3⟩ := xqc gA
   obtain ⟨f0, f1, f2, f3⟩ := xqf gA
   go_simp
   clear c0 c1 c2 c3 f0 f1 f2 f3
   refine hK.out _ (set4 wA p (.int .i64 (L + 1)) (.int .i64 M) (.slice va l.length vc) (.int .i64 t)) (xqG kA sp _ _ _ _) (fun hJ => ?_)
   clear hK K
   obtain ⟨wX, hwX⟩ : ∃ wX, wX = set4 wA p (.int .i64 (L + 1)) (.int .i64 M) (.slice va l.length vc) (.int .i64 t) := ⟨_, rfl⟩
   have kX : Kept w9 wX [] := by rw [hwX]; exact xqG kA sp _ _ _ _
   have gX : wX.heap[p]? = some (.cells #[.int .i64 (L + 1), .int .i64 M, .slice va l.length vc, .int .i64 t] 38 (0, 0)) := by rw [hwX]; exact set4_at gA _ _ _ _
   rw [<- hwX]
   have KX := iH kX; have GX := iH gX; have SP := iH sp
   clear hwX kA gA sp kX gX cv fv
   refine wd ?_
   obtain ⟨cv, fv⟩ := (A9.out.keep KX.out).cell
   have hA0 : wX.ownsRow B 38 4 (.slice none 0 0) 0 [] := World.ownsRow_nil wX B 38 4
   have hBX : B <= wX.heap.size := (A9.out.keep KX.out).size
   have SRC := iH ((A9.out.keep KX.out).own.rd.src (P := Tryz.prog) (tx := 76) Tryz.underlying76)
   go_wp2_with (at_builtin; refine xqa _ rfl (.tmp 66) (.tmp 70) 76 76 rfl B 38 i0 _ 4 48 Tryz.underlying76 I.out.1 I.out.2.1 I.out.2.2.1 I.out.2.2.2 rfl (.slice none 0 0) 0 [] rfl hA0 (.slice u 0 cp) 0 (tcs []) rfl SRC.out (by unfold maxLen; omega) (by omega) hBX ?nextA)
   intro v2 w2 hown hf2 hg2 hl2
   have k2 : Kept wX w2 [] := (Kept.refl wX []).grown hg2 (fun k hk => by simp [Value.ownBlock] at hk)
   have o2 : OwnT w2 B 38 v2 [] := by unfold OwnT; simpa using hown
   have b2 : ∀ k, v2.ownBlock = some k -> wX.heap.size <= k := fun k hk => by
    rcases hl2 with h1 | ⟨g, h1, h2⟩
    ·rw [h1] at hk; simp [Value.ownBlock] at hk
    ·rw [h1] at hk; simp only [Option.some.injEq] at hk; omega
   obtain ⟨v2a, v2c, hv2⟩ := o2.shape
   subst hv2
   have K22 := iH k2; have O2 := iH o2; have B2 := iH b2
   obtain ⟨d0, d1, d2, d3⟩ := xqc (k2.heap (by simp) GX.out)
   have oB : (w2.alloc (.cells (Tk.cs ⟨L + 1, M, va, vc, l, t⟩) 38)).ownsRow B 38 4 (.slice v2a 0 v2c) 0 (tcs []) := o2.kept ((Kept.refl w2 []).alloc _) (by simp)
   have bB : B <= (w2.alloc (.cells (Tk.cs ⟨L + 1, M, va, vc, l, t⟩) 38)).heap.size := by have := k2.size; simp; omega
   have kB : Kept w2 (w2.alloc (.cells (Tk.cs ⟨L + 1, M, va, vc, l, t⟩) 38)) [] := (Kept.refl w2 []).alloc _
   have OB := iH oB; have BB := iH bB; have KB := iH kB
   clear hA0 hBX hown hf2 hg2 hl2 k2 o2 b2 oB bB kB cv fv
   go_wp2_with (first | (at_builtin; refine xqa _ rfl (.tmp 73) (.tmp 75) 76 76 rfl B 38 i0 _ 4 48 Tryz.underlying76 I.out.1 I.out.2.1 I.out.2.2.1 I.out.2.2.2 rfl (.slice v2a 0 v2c) 0 (tcs []) rfl OB.out _ 1 (Tk.cs ⟨L + 1, M, va, vc, l, t⟩).toList rfl (src_tk ⟨L + 1, M, va, vc, l, t⟩ w2) (by unfold maxLen; omega) (by omega) BB.out ?nxtA) | (refine xqF _ rfl 76 (.tmp 74) rfl 38 i0 _ 4 Tryz.underlying76 I.out.1 I.out.2.1 I.out.2.2.1 (by decide) (by decide) (Tk.cs ⟨L + 1, M, va, vc, l, t⟩).toList rfl rfl ?_))
   intro v3 w3 hown hf3 hg3 hl3
   have kX3 : Kept wX w3 [] := (K22.out.trans KB.out (by simp)).grown hg3 (fun k hk => .inr (B2.out k hk))
   have k93 : Kept w9 w3 [] := KX.out.trans kX3 (by simp)
   have o3 : OwnT w3 B 38 v3 ([] ++ [⟨L + 1, M, va, vc, l, t⟩]) := by unfold OwnT; rw [<- tcs_snoc, List.length_append]; exact hown
   have hv3 : ∀ k, v3.ownBlock = some k -> (Value.slice u 0 cp).ownBlock = some k ∨ w9.heap.size <= k := fun k hk => by
    have s0 := KX.out.size
    rcases hl3 with h1 | ⟨g, h1, h2⟩
    ·rw [h1] at hk; have := B2.out k hk; exact .inr (by omega)
    ·rw [h1] at hk; simp only [Option.some.injEq] at hk; have := K22.out.size; have := KB.out.size; exact .inr (by omega)
   have rd3 : ∀ x ∈ [] ++ [(⟨L + 1, M, va, vc, l, t⟩ : Tk)], RdT w3 x.op x.l := by
    intro x hx
    rcases List.mem_append.1 hx with hx | hx
    ·exact (A9.out.rd x hx).keep k93
    obtain rfl := List.mem_singleton.1 hx
    exact R9.out.keep k93
   obtain ⟨⟨c9, f9⟩, t9, s9⟩ := A9.out.lay (Fo.ofKept k93 _) o3 rd3 hv3
   obtain ⟨v3a, v3c, hsv3⟩ := o3.shape
   subst hsv3
   obtain ⟨w4, hw4⟩ : ∃ w4, w4 = w3.setCell ⟨h, oo, none⟩ (.slice v3a ([] ++ [(⟨L + 1, M, va, vc, l, t⟩ : Tk)]).length v3c) := ⟨_, rfl⟩
   rw [<- hw4] at t9 s9
   have o4 : Fo (fun k => k = h) w3 w4 := by rw [hw4]; exact Fo.setCell (O := fun k => k = h) (Fo.refl _ w3) (p := ⟨h, oo, none⟩) (.inl rfl) _
   have nph : p ≠ h := fun e => by have h1 := (A9.out.lt h (.inl rfl)).2; have := SP.out; omega
   have gp4 := o4.heap nph (kX3.heap (by simp) GX.out)
   have gz4 := o4.heap (fun e => NF.out.1 (.inl e)) (k93.heap (by simp) GZ9.out)
   have elen : ([] ++ [(⟨L + 1, M, va, vc, l, t⟩ : Tk)]).length = 1 := by simp
   rw [elen] at hw4
   have T9 := iH t9; have S9 := iH (P9.out.trans s9); have GP4 := iH gp4; have GZ4 := iH gz4; have HW4 := iH hw4
   rw [elen]
   clear hown hf3 hg3 hl3 kX3 k93 o3 hv3 rd3 t9 s9 hw4 o4 nph gp4 gz4 elen d0 d1 d2 d3
   go_upto_region 14 with fail
   rw [<- HW4.out]
   clear c9 f9
   obtain ⟨d0, d1, d2, d3⟩ := xqc GP4.out
   obtain ⟨c0, c1, c2, c3⟩ := xqc GZ4.out
   obtain ⟨f0, f1, f2, f3⟩ := xqf GZ4.out
   go_wp2
   refine bodyPost_ret (v := .tuple #[.agg #[.int .i64 (L + 1), .int .i64 M, .slice va l.length vc, .int .i64 t], .int .i64 0]) (by simp [results, Tryz.results54, go_sem, *]) rfl ?_
   exact RAddPost.yes (x1 := ⟨L + 1, M, va, vc, l, t⟩) HE.out HL.out (K1.out.trans KR.out (by simp)) SZ9.out NF.out.1 T9.out rfl S9.out GZ4.out _ _ _ _
  obtain ⟨ys, y, hxs⟩ : ∃ ys y, xs = ys ++ [y] := by
   rcases List.eq_nil_or_concat xs with h1 | ⟨ys, y, h1⟩
   ·exact absurd h1 hne
   exact ⟨ys, y, by rw [h1, List.concat_eq_append]⟩
  have HXS := iH hxs
  have HF : RowKit.Hid (folB (xs.map Tk.pl) M l t = (decide (y.t <= t) && covB M y.M l y.l)) := iH (by rw [hxs]; exact folB_snoc ys y M l t)
  obtain ⟨rY, hyM, hyl⟩ := Okp.lastT (ys := ys) (y := y) (by rw [<- hxs]; exact OK.out)
  have al := A1.out
  rw [hxs] at al
  obtain ⟨g, c', eV, q0, q1, q2, q3, hry⟩ := al.last
  have hlen : xs.length = ys.length + 1 := by rw [hxs]; simp
  have hsl : (Value.slice u (ys ++ [y]).length cp) = .slice u xs.length cp := by rw [hxs]
  rw [hsl] at eV
  simp only [Value.slice.injEq] at eV
  obtain ⟨eu, en, ec⟩ := eV
  clear en
  subst eu ec
  obtain ⟨N, hN⟩ : ∃ N, N = ys.length := ⟨_, rfl⟩
  have hN1 : xs.length = N + 1 := by rw [hN]; exact hlen
  rw [<- hN] at q0 q1 q2 q3
  obtain ⟨y0, y1, ya, yc, y4, y5⟩ := y
  simp only [Tk.op] at *
  have Q : RowKit.Hid (W1.cell? ⟨h, oo, none⟩ = some (.slice (some ⟨g, 0, none⟩) xs.length cp) /\ W1.cell? ⟨g, N * 4, none⟩ = some (.int .i64 y0) /\ W1.cell? ⟨g, N * 4 + 1, none⟩ = some (.int .i64 y1) /\ W1.cell? ⟨g, N * 4 + 2, none⟩ = some (.slice ya y4.length yc) /\ W1.cell? ⟨g, N * 4 + 3, none⟩ = some (.int .i64 y5)) := iH ⟨cv, q0, q1, q2, q3⟩
  have RY := iH rY; have HRY := iH hry; have HN1 := iH hN1
  have hpos : (0 : Int) < (xs.length : Int) := by omega
  clear al q0 q1 q2 q3 hry rY hlen hsl hN hN1 hxs hne
  go_enter Tryz.func54, Tryz.ntmps54
  go_upto_region 1 with fail
  rw [<- HW1.out]
  obtain ⟨j0, j1⟩ := xqq G0.out
  go_wp2_with fail
  refine HR.out.mono ?_
  rintro e w2 ⟨rfl, k2⟩
  have K2 := iH k2
  clear cv j0 j1
  have cv := k2.cell (p := ⟨h, oo, none⟩) (by simp) Q.out.1
  clear k2
  go_upto_region 6 with fail
  go_cut [8] (fun s8 wx => ∃ p, s8 = .pointer (some ⟨p, 0, none⟩) /\ RowKit.Hid (Kept w2 wx [] /\ wx.heap[p]? = some (.cells #[.int .i64 y0, .int .i64 y1, .slice ya y4.length yc, .int .i64 y5] 38 (0, 0))))
  case first =>
   have n1 := HN1.out
   have m3 : (N : Int) < (xs.length : Int) := by omega
   have m4 : IntKind.i64.wrap ((xs.length : Int) - 1) = (N : Int) := by rw [IntKind.wrap_i64]; omega
   have m5 : (xs.length : Int) - 1 = (N : Int) := by omega
   have m6 : IntKind.i64.wrap (N : Int) = (N : Int) := by rw [IntKind.wrap_i64]; omega
   clear n1
   refine wp_region_held_drew (S := fun V => Kept w2 V []) (by kernel_rfl) (Kept.refl w2 []).drew (fun hJ => ?_)
   refine wx 0 28 (.pointer (some ⟨h, oo, none⟩)) rfl hJ ?_
   refine wx 1 29 (.pointer (some ⟨h, oo, none⟩)) rfl hJ ?_
   refine wx 2 30 (.pointer (some ⟨h, oo, none⟩)) rfl hJ ?_
   refine wx 3 31 (.slice (some ⟨g, 0, none⟩) xs.length cp) rfl hJ ?_ (hy := fun V hV => by (have c0 := hV.cell (p := ⟨h, oo, none⟩) (by simp) (K2.out.cell (p := ⟨h, oo, none⟩) (by simp) Q.out.1); clear hV; go_simp))
   refine wx 4 32 (.pointer (some ⟨h, oo, none⟩)) rfl hJ ?_
   refine wx 5 33 (.pointer (some ⟨h, oo, none⟩)) rfl hJ ?_
   refine wx 6 34 (.pointer (some ⟨h, oo, none⟩)) rfl hJ ?_
   refine wx 7 35 (.slice (some ⟨g, 0, none⟩) xs.length cp) rfl hJ ?_ (hy := fun V hV => by (have c0 := hV.cell (p := ⟨h, oo, none⟩) (by simp) (K2.out.cell (p := ⟨h, oo, none⟩) (by simp) Q.out.1); clear hV; go_simp))
   refine wx 8 36 (.int .i64 xs.length) rfl hJ ?_
   refine wx 9 37 (.int .i64 N) rfl hJ ?_
   refine wx 10 38 (.pointer (some ⟨g, N * 4, none⟩)) rfl hJ ?_
   refine wx 11 39 (.agg #[.int .i64 y0, .int .i64 y1, .slice ya y4.length yc, .int .i64 y5]) rfl hJ ?_ (hy := fun V hV => by (obtain ⟨_, e0, e1, e2, e3⟩ := Q.out; have c0 := hV.cell (p := ⟨g, N * 4, none⟩) (by simp) (K2.out.cell (by simp) e0); have c1 := hV.cell (p := ⟨g, N * 4 + 1, none⟩) (by simp) (K2.out.cell (by simp) e1); have c2 := hV.cell (p := ⟨g, N * 4 + 2, none⟩) (by simp) (K2.out.cell (by simp) e2); have c3 := hV.cell (p := ⟨g, N * 4 + 3, none⟩) (by simp) (K2.out.cell (by simp) e3); clear hV e0 e1 e2 e3; go_simp))
   refine wr1 12 rfl (fun K hK => ?_)
   go_simp
   refine hK.out _ _ ((Kept.refl w2 []).alloc zT4).drew (fun hJ => ?_)
   clear hK K
   obtain ⟨wA, hwA⟩ : ∃ wA, wA = (w2.alloc zT4).drew := ⟨_, rfl⟩
   have kA : Kept w2 wA [] := by rw [hwA]; exact ((Kept.refl w2 []).alloc zT4).drew
   have gA : wA.heap[w2.heap.size]? = some zT4 := by rw [hwA]; exact heap_alloc_new w2 zT4
   rw [<- hwA]
   clear hwA
   obtain ⟨p, hp⟩ : ∃ p, p = w2.heap.size := ⟨_, rfl⟩
   rw [<- hp] at gA ⊢
   have sp : w2.heap.size <= p := by omega
   clear hp
   refine wr1 13 rfl (fun K hK => ?_)
   obtain ⟨c0, c1, c2, c3⟩ := xqc gA
   obtain ⟨f0, f1, f2, f3⟩ := xqf gA
   go_simp
   clear c0 c1 c2 c3 f0 f1 f2 f3
   refine hK.out _ (set4 wA p (.int .i64 y0) (.int .i64 y1) (.slice ya y4.length yc) (.int .i64 y5)) (xqG kA sp _ _ _ _) (fun hJ => ?_)
   clear hK K
   refine wd ?_
   go_wp2_with fail
   go_meet
   exact ⟨p, rfl, xqG kA sp _ _ _ _, set4_at gA _ _ _ _⟩
  case rest =>
  obtain ⟨pq, rfl, HP⟩ := hcut
  have hg0 := (K2.out.trans HP.out.1 (by simp)).heap (by simp) G0.out
  obtain ⟨j0, j1⟩ := xqq hg0
  obtain ⟨d0, d1, d2, d3⟩ := xqc HP.out.2
  have CV := iH (rcovers_any M y1 _ _ l y4 wc ((R1.out.keep K2.out).keep HP.out.1).1 ((HRY.out.keep K2.out).keep HP.out.1).1 HRT.out RY.out hM hyM hll hyl)
  clear cv hg0
  obtain ⟨C, hC⟩ : ∃ C, C = covB M y1 l y4 := ⟨_, rfl⟩
  have HC := iH hC
  clear hC
  go_wp2_with fail
  refine CV.out.mono ?_
  rintro e w3 ⟨r, rfl, hr, k3⟩
  obtain rfl : r = C := by rw [Bool.eq_iff_iff, hr, HC.out, covB_iff HRT.out RY.out]
  have K3 := iH ((K2.out.trans HP.out.1 (by simp)).trans k3 (by simp))
  have hgp := k3.heap (by simp) HP.out.2
  clear hr k3 j0 j1 d0 d1 d2 d3
  obtain ⟨d0, d1, d2, d3⟩ := xqc hgp
  clear hgp
  have gz3 := K3.out.heap (by simp) G1.out
  have GZ3 := iH gz3
  cases r with
  | false =>
  have HE : RowKit.Hid (addE (xs.map Tk.pl) M l t = 1) := iH (by rw [EE.out, HF.out, <- HC.out]; simp)
  obtain ⟨c0, c1, c2, c3⟩ := xqc gz3
  obtain ⟨f0, f1, f2, f3⟩ := xqf gz3
  clear gz3
  go_wp2
  refine bodyPost_ret (v := .tuple #[.agg #[.int .i64 0, .int .i64 0, .slice none 0 0, .int .i64 0], .int .i64 1]) (by simp [results, Tryz.results54, go_sem, *]) rfl ?_
  exact RAddPost.no HE.out (by decide) A0.out (K1.out.trans K3.out (by simp)) GZ3.out _ _ _ _
  | true =>
  by_cases hge : y5 <= t
  ·have HE : RowKit.Hid (addE (xs.map Tk.pl) M l t = 0) := iH (by rw [EE.out, HF.out, <- HC.out]; simp [hge])
   have hgt : ¬ t < y5 := by omega
   obtain ⟨wr, hwr⟩ : ∃ wr, wr = w3 := ⟨_, rfl⟩
   subst hwr
   have KR := K3
   obtain ⟨cv, fv⟩ := (A1.out.keep KR.out).cell
   clear gz3 EE HF HXS
   obtain ⟨cv1, fv1⟩ := (A1.out.keep KR.out).cell1
   have m1 : IntKind.i64.wrap (L + 1) = L + 1 := by rw [IntKind.wrap_i64]; omega
   have m2 : wrap64 (L + 1) = L + 1 := by simp only [wrap64]; omega
   rw [<- HL.out] at cv1
   obtain ⟨w9, hw9⟩ : ∃ w9, w9 = wr.setCell ⟨h, oo + 1, none⟩ (.int .i64 (L + 1)) := ⟨_, rfl⟩
   have hs9 := (A1.out.keep KR.out).set1 (.int .i64 (L + 1))
   rw [<- hw9] at hs9
   have o9 : Fo (fun k => k = h) wr w9 := by rw [hw9]; exact Fo.setCell (O := fun k => k = h) (Fo.refl _ wr) (p := ⟨h, oo + 1, none⟩) (.inl rfl) _
   have nz0 : w.heap.size ≠ h := fun e => NF.out.2 (.inl e)
   have nz1 : w.heap.size + 1 ≠ h := fun e => NF.out.1 (.inl e)
   have gs9 := o9.heap nz0 (KR.out.heap (by simp) G0.out)
   have gz9 := o9.heap nz1 (KR.out.heap (by simp) G1.out)
   have r9 := (R1.out.keep KR.out).fo o9 (fun k e => (A1.out.keep KR.out).noI k (.inl e))
   have A9 := iH hs9.1; have P9 := iH hs9.2; have GS9 := iH gs9; have GZ9 := iH gz9; have R9 := iH r9; have HW9 := iH hw9
   have SZ9 : RowKit.Hid (w.heap.size + 1 < wr.heap.size) := iH (by have := SW.out; have := KR.out.size; omega)
   clear hw9 hs9 o9 nz0 nz1 gs9 gz9 r9
   go_upto_region 10 with fail
   rw [<- HW9.out]
   clear cv fv cv1 fv1
   obtain ⟨cv, fv⟩ := A9.out.cell
   obtain ⟨cv1, fv1⟩ := A9.out.cell1
   have C1 := iH cv1
   clear cv1 fv1
   refine wp_region_held_drew (S := fun V => Kept w9 V []) (by kernel_rfl) (Kept.refl w9 []).drew (fun hJ => ?_)
   refine wx 0 59 (.pointer (some ⟨h, oo, none⟩)) rfl hJ ?_
   refine wx 1 60 (.pointer (some ⟨h, oo, none⟩)) rfl hJ ?_
   refine wx 2 61 (.pointer (some ⟨h, oo + 1, none⟩)) rfl hJ ?_
   refine wx 3 62 (.int .i64 (L + 1)) rfl hJ ?_ (hy := fun V hV => by (have c1 := hV.cell (p := ⟨h, oo + 1, none⟩) (by simp) C1.out; clear hV; go_simp))
   refine wx 4 63 (.agg #[.int .i64 M, .slice va l.length vc]) rfl hJ ?_ (hy := fun V hV => by (obtain ⟨c0, c1⟩ := xqq (hV.heap (by simp) GS9.out); clear hV; go_simp))
   refine wx 5 64 (.int .i64 t) rfl hJ ?_
   refine wx 6 65 (.agg #[.int .i64 (L + 1), .int .i64 M, .slice va l.length vc, .int .i64 t]) rfl hJ ?_
   refine wr1 7 rfl (fun K hK => ?_)
   go_simp
   refine hK.out _ _ ((Kept.refl w9 []).alloc zT4).drew (fun hJ => ?_)
   clear hK K
   obtain ⟨wA, hwA⟩ : ∃ wA, wA = (w9.alloc zT4).drew := ⟨_, rfl⟩
   have kA : Kept w9 wA [] := by rw [hwA]; exact ((Kept.refl w9 []).alloc zT4).drew
   have gA : wA.heap[w9.heap.size]? = some zT4 := by rw [hwA]; exact heap_alloc_new w9 zT4
   rw [<- hwA]
   clear hwA
   obtain ⟨p, hp⟩ : ∃ p, p = w9.heap.size := ⟨_, rfl⟩
   rw [<- hp] at gA ⊢
   have sp : w9.heap.size <= p := by omega
   clear hp
   refine wr1 8 rfl (fun K hK => ?_)
   obtain ⟨c0, c1, c2, c3⟩ := xqc gA
   obtain ⟨f0, f1, f2, f3⟩ := xqf gA
   go_simp
   clear c0 c1 c2 c3 f0 f1 f2 f3
   refine hK.out _ (set4 wA p (.int .i64 (L + 1)) (.int .i64 M) (.slice va l.length vc) (.int .i64 t)) (xqG kA sp _ _ _ _) (fun hJ => ?_)
   clear hK K
   obtain ⟨wX, hwX⟩ : ∃ wX, wX = set4 wA p (.int .i64 (L + 1)) (.int .i64 M) (.slice va l.length vc) (.int .i64 t) := ⟨_, rfl⟩
   have kX : Kept w9 wX [] := by rw [hwX]; exact xqG kA sp _ _ _ _
   have gX : wX.heap[p]? = some (.cells #[.int .i64 (L + 1), .int .i64 M, .slice va l.length vc, .int .i64 t] 38 (0, 0)) := by rw [hwX]; exact set4_at gA _ _ _ _
   rw [<- hwX]
   have KX := iH kX; have GX := iH gX; have SP := iH sp
   clear hwX kA gA sp kX gX cv fv
   refine wd ?_
   obtain ⟨cv, fv⟩ := (A9.out.keep KX.out).cell
   have hA0 : wX.ownsRow B 38 4 (.slice none 0 0) 0 [] := World.ownsRow_nil wX B 38 4
   have hBX : B <= wX.heap.size := (A9.out.keep KX.out).size
   have SRC := iH ((A9.out.keep KX.out).own.rd.src (P := Tryz.prog) (tx := 76) Tryz.underlying76)
   go_wp2_with (at_builtin; refine xqa _ rfl (.tmp 66) (.tmp 70) 76 76 rfl B 38 i0 _ 4 48 Tryz.underlying76 I.out.1 I.out.2.1 I.out.2.2.1 I.out.2.2.2 rfl (.slice none 0 0) 0 [] rfl hA0 (.slice (some ⟨g, 0, none⟩) xs.length cp) xs.length (tcs xs) rfl SRC.out (by unfold maxLen; omega) (by omega) hBX ?nextB)
   intro v2 w2 hown hf2 hg2 hl2
   have k2 : Kept wX w2 [] := (Kept.refl wX []).grown hg2 (fun k hk => by simp [Value.ownBlock] at hk)
   have o2 : OwnT w2 B 38 v2 xs := by unfold OwnT; simpa using hown
   have b2 : ∀ k, v2.ownBlock = some k -> wX.heap.size <= k := fun k hk => by
    rcases hl2 with h1 | ⟨g, h1, h2⟩
    ·rw [h1] at hk; simp [Value.ownBlock] at hk
    ·rw [h1] at hk; simp only [Option.some.injEq] at hk; omega
   obtain ⟨v2a, v2c, hv2⟩ := o2.shape
   subst hv2
   have K22 := iH k2; have O2 := iH o2; have B2 := iH b2
   obtain ⟨d0, d1, d2, d3⟩ := xqc (k2.heap (by simp) GX.out)
   have oB : (w2.alloc (.cells (Tk.cs ⟨L + 1, M, va, vc, l, t⟩) 38)).ownsRow B 38 4 (.slice v2a xs.length v2c) xs.length (tcs xs) := o2.kept ((Kept.refl w2 []).alloc _) (by simp)
   have bB : B <= (w2.alloc (.cells (Tk.cs ⟨L + 1, M, va, vc, l, t⟩) 38)).heap.size := by have := k2.size; simp; omega
   have kB : Kept w2 (w2.alloc (.cells (Tk.cs ⟨L + 1, M, va, vc, l, t⟩) 38)) [] := (Kept.refl w2 []).alloc _
   have OB := iH oB; have BB := iH bB; have KB := iH kB
   clear hA0 hBX hown hf2 hg2 hl2 k2 o2 b2 oB bB kB cv fv
   go_wp2_with (first | (at_builtin; refine xqa _ rfl (.tmp 73) (.tmp 75) 76 76 rfl B 38 i0 _ 4 48 Tryz.underlying76 I.out.1 I.out.2.1 I.out.2.2.1 I.out.2.2.2 rfl (.slice v2a xs.length v2c) xs.length (tcs xs) rfl OB.out _ 1 (Tk.cs ⟨L + 1, M, va, vc, l, t⟩).toList rfl (src_tk ⟨L + 1, M, va, vc, l, t⟩ w2) (by unfold maxLen; omega) (by omega) BB.out ?nxtB) | (refine xqF _ rfl 76 (.tmp 74) rfl 38 i0 _ 4 Tryz.underlying76 I.out.1 I.out.2.1 I.out.2.2.1 (by decide) (by decide) (Tk.cs ⟨L + 1, M, va, vc, l, t⟩).toList rfl rfl ?_))
   intro v3 w3 hown hf3 hg3 hl3
   have kX3 : Kept wX w3 [] := (K22.out.trans KB.out (by simp)).grown hg3 (fun k hk => .inr (B2.out k hk))
   have k93 : Kept w9 w3 [] := KX.out.trans kX3 (by simp)
   have o3 : OwnT w3 B 38 v3 (xs ++ [⟨L + 1, M, va, vc, l, t⟩]) := by unfold OwnT; rw [<- tcs_snoc, List.length_append]; exact hown
   have hv3 : ∀ k, v3.ownBlock = some k -> (Value.slice (some ⟨g, 0, none⟩) xs.length cp).ownBlock = some k ∨ w9.heap.size <= k := fun k hk => by
    have s0 := KX.out.size
    rcases hl3 with h1 | ⟨g, h1, h2⟩
    ·rw [h1] at hk; have := B2.out k hk; exact .inr (by omega)
    ·rw [h1] at hk; simp only [Option.some.injEq] at hk; have := K22.out.size; have := KB.out.size; exact .inr (by omega)
   have rd3 : ∀ x ∈ xs ++ [(⟨L + 1, M, va, vc, l, t⟩ : Tk)], RdT w3 x.op x.l := by
    intro x hx
    rcases List.mem_append.1 hx with hx | hx
    ·exact (A9.out.rd x hx).keep k93
    obtain rfl := List.mem_singleton.1 hx
    exact R9.out.keep k93
   obtain ⟨⟨c9, f9⟩, t9, s9⟩ := A9.out.lay (Fo.ofKept k93 _) o3 rd3 hv3
   obtain ⟨v3a, v3c, hsv3⟩ := o3.shape
   subst hsv3
   obtain ⟨w4, hw4⟩ : ∃ w4, w4 = w3.setCell ⟨h, oo, none⟩ (.slice v3a (xs ++ [(⟨L + 1, M, va, vc, l, t⟩ : Tk)]).length v3c) := ⟨_, rfl⟩
   rw [<- hw4] at t9 s9
   have o4 : Fo (fun k => k = h) w3 w4 := by rw [hw4]; exact Fo.setCell (O := fun k => k = h) (Fo.refl _ w3) (p := ⟨h, oo, none⟩) (.inl rfl) _
   have nph : p ≠ h := fun e => by have h1 := (A9.out.lt h (.inl rfl)).2; have := SP.out; omega
   have gp4 := o4.heap nph (kX3.heap (by simp) GX.out)
   have gz4 := o4.heap (fun e => NF.out.1 (.inl e)) (k93.heap (by simp) GZ9.out)
   have elen : (xs ++ [(⟨L + 1, M, va, vc, l, t⟩ : Tk)]).length = xs.length + 1 := by simp
   rw [elen] at hw4
   have T9 := iH t9; have S9 := iH (P9.out.trans s9); have GP4 := iH gp4; have GZ4 := iH gz4; have HW4 := iH hw4
   rw [elen]
   clear hown hf3 hg3 hl3 kX3 k93 o3 hv3 rd3 t9 s9 hw4 o4 nph gp4 gz4 elen d0 d1 d2 d3
   go_upto_region 14 with fail
   rw [<- HW4.out]
   clear c9 f9
   obtain ⟨d0, d1, d2, d3⟩ := xqc GP4.out
   obtain ⟨c0, c1, c2, c3⟩ := xqc GZ4.out
   obtain ⟨f0, f1, f2, f3⟩ := xqf GZ4.out
   go_wp2
   refine bodyPost_ret (v := .tuple #[.agg #[.int .i64 (L + 1), .int .i64 M, .slice va l.length vc, .int .i64 t], .int .i64 0]) (by simp [results, Tryz.results54, go_sem, *]) rfl ?_
   exact RAddPost.yes (x1 := ⟨L + 1, M, va, vc, l, t⟩) HE.out HL.out (K1.out.trans KR.out (by simp)) SZ9.out NF.out.1 T9.out rfl S9.out GZ4.out _ _ _ _
  have HE : RowKit.Hid (addE (xs.map Tk.pl) M l t = 1) := iH (by rw [EE.out, HF.out, <- HC.out]; simp [hge])
  have hgt : t < y5 := by omega
  obtain ⟨c0, c1, c2, c3⟩ := xqc gz3
  obtain ⟨f0, f1, f2, f3⟩ := xqf gz3
  clear gz3 hge
  go_wp2
  refine bodyPost_ret (v := .tuple #[.agg #[.int .i64 0, .int .i64 0, .slice none 0 0, .int .i64 0], .int .i64 1]) (by simp [results, Tryz.results54, go_sem, *]) rfl ?_
  exact RAddPost.no HE.out (by decide) A0.out (K1.out.trans K3.out (by simp)) GZ3.out _ _ _ _
end Go.Proofs.YticiofkiffgclaaGreat
namespace Go.Proofs.YticiofkiffgclaaGreat
open Go.Shelf Go.RowKit Go.Lib Go.Sort
instance : Inhabited Ev := ⟨Ev.zero⟩
theorem compare_any_g8 (x y : Int) (W : World) : Calls Tryz.prog 89 #[.int .i64 x, .int .i64 y] W fun e w' => e = .returned (.int .i64 (if x < y then -1 else if y < x then 1 else 0)) /\ w' = W := by
 by_cases h1 : x < y
 ·rw [if_pos h1]
  go_enter Tryz.func89, Tryz.ntmps89
  go_wp2_with (go_at_call 146; refine (yqE _ _).mono ?_; rintro e w' ⟨rfl, rfl⟩)
  go_ret
  exact ⟨rfl, rfl⟩
 by_cases h2 : y < x
 ·rw [if_neg h1, if_pos h2]
  go_enter Tryz.func89, Tryz.ntmps89
  go_wp2_with (go_at_call 146; refine (yqE _ _).mono ?_; rintro e w' ⟨rfl, rfl⟩)
  go_ret
  exact ⟨rfl, rfl⟩
 rw [if_neg h1, if_neg h2]
 go_enter Tryz.func89, Tryz.ntmps89
 go_wp2_with (go_at_call 146; refine (yqE _ _).mono ?_; rintro e w' ⟨rfl, rfl⟩)
 go_ret
 exact ⟨rfl, rfl⟩
theorem closure_any_g8 (x y : Ev) (W : World) : Calls Tryz.prog 152 #[.agg x.cs, .agg y.cs] W fun e w' => e = .returned (.int .i64 (cmpE x y)) /\ ∃ q os', w' = grow (W.drewN q) os' := by
 have hcon := fun W' => compare_any_g8 x.id y.id W'
 change ∀ W', Calls _ _ _ _ fun e w' => e = .returned (.int .i64 (cmpE x y)) /\ w' = W' at hcon
 generalize cmpE x y = r at hcon ⊢
 unfold Ev.cs
 go_enter Tryz.func152, Tryz.ntmps152
 go_wp2_with (go_at_call 89; refine (hcon _).mono ?_; rintro e w' ⟨rfl, rfl⟩)
 go_ret
 exact ⟨rfl, 0, _, by rw [alloc_eq_grow, alloc_eq_grow, grow_grow]; rfl⟩
theorem cmpLays_g8 (g off size : Nat) (w : World) : CmpLays Tryz.prog 152 #[] encE 8 cmpE g off size w :=
 fun _ _ _ _ x y => closure_any_g8 x y _
theorem insE_g8 {w0 : World} {blk off : Nat} {d0 : Array Ev} (R : RowK encE 8 w0 blk off d0) (cap : Nat) : InsAt Tryz.prog encE 8 w0 blk off d0 byId 152 #[] cap := by
 intro A M B d w hd hs S hsz sz a b hz ha hb
 have hab : A.length + M.length <= d.size := by rw [<- Array.length_toList, hd]; simp
 have h := AnyQ.insertionSortCmpFunc Tryz.insE 8 Tryz.isAgg50 Tryz.sizeOf50 encE yqO encE_one cmpE 152 #[] blk off cap a b d w (enters_of Tryz.func152 (by kernel_rfl) rfl) (cmpLays_g8 _ _ _ _) (S.holds R.hblk R.hH hs) (S.lt R.hblk) (by omega) (by omega) hsz
 rw [hz]
 refine Calls.mono h ?_
 rintro e w' ⟨rfl, n, os, rfl⟩
 have e1 : ltOf cmpE = ltB byId := by
  funext x y
  have := cmpE_lt x y
  unfold ltOf ltB
  cases h : byId y x with
  | false => simp [this, h]
  | true => simp [this, h]
 rw [e1, ha, hb, ha]
 exact ⟨rfl, _, yqa xq8 hd, S.on R.hblk n _ os (yqd (by rw [yqa xq8 hd, hd]; simp [xqs]))⟩
theorem ins_nil_g8 (W : World) : Calls Tryz.prog 185 #[.slice none 0 0, .int .i64 0, .int .i64 0, .func (.func 152) #[] #[]] W fun e w' => e = .returned (.tuple #[]) /\ w' = W := by
 go_enter Tryz.func185, Tryz.ntmps185
 go_wp2
 go_loopg [8] 0 (fun kx s8 wr => s8 = .int .i64 1 /\ wr = W)
 case atStart => exact ⟨rfl, rfl⟩
 case round =>
 obtain ⟨rfl, rfl⟩ := hrel
 go_wp2
 go_end0
 exact ⟨rfl, rfl⟩
theorem stable_nil_g8 (W : World) : Calls Tryz.prog 145 #[.slice none 0 0, .int .i64 0, .func (.func 152) #[] #[]] W fun e w' => e = .returned (.tuple #[]) /\ w' = W := by
 go_enter Tryz.func145, Tryz.ntmps145
 go_wp2
 go_loopg [7, 8] 0 (fun kx s7 s8 wr => s7 = .int .i64 0 /\ s8 = .int .i64 20 /\ wr = W)
 case atStart => exact ⟨rfl, rfl, rfl⟩
 case round =>
 obtain ⟨rfl, rfl, rfl⟩ := hrel
 go_wp2_with (go_at_call 185; refine (ins_nil_g8 _).mono ?_; rintro e w' ⟨rfl, rfl⟩)
 go_loopg [6] 0 (fun kx s6 wr => s6 = .int .i64 20 /\ wr = w')
 case atStart => exact ⟨rfl, rfl⟩
 case round =>
 obtain ⟨rfl, rfl⟩ := hrel
 go_wp2
 go_end0
 exact ⟨rfl, rfl⟩
theorem sort_any_g8 {W : World} {base : Nat} {V : Value} {l : List Ev} (h : OwnE W base 50 V l) (hl : l.length < 1152921504606846976) :
 Calls Tryz.prog 87 #[V, .func (.func 152) #[] #[]] W fun e w' => e = .returned (.tuple #[]) /\ OwnE w' base 50 V (srt byId l) /\ Fo (fun k => V.ownBlock = some k) W w' := by
 rcases h.2 with ⟨rfl, hn⟩ | ⟨g, cap, cur, rfl, hb, hg, hnc, hcm, hcs, ht⟩
 ·have : l = [] := List.eq_nil_of_length_eq_zero hn
  subst this
  go_enter Tryz.func87, Tryz.ntmps87
  go_wp2_with (go_at_call 145; refine (stable_nil_g8 _).mono ?_; rintro e w' ⟨rfl, rfl⟩)
  go_end0
  exact ⟨rfl, h, Fo.refl _ _⟩
 ·have R := own_row h
  have hc := stable_any slE R xq8 cmpE_lt 152 #[] (enters_of Tryz.func152 (by kernel_rfl) rfl) (cmpLays_g8 _ _ _ _) cap (insE_g8 R cap) l.toArray W rfl (SWK.start R.hH) (by simpa using hl) l.length (by simp)
  have HC := iH hc
  have H := iH h
  clear hc h hb hg hnc hcm hcs ht R
  generalize hn : l.length = n at HC
  have HN := iH hn
  clear hn hl
  go_enter Tryz.func87, Tryz.ntmps87
  go_wp2_with (go_at_call 145; refine HC.out.mono ?_; rintro e w' ⟨rfl, d', hd', S'⟩)
  go_end0
  have hn := HN.out
  subst hn
  have hs : d'.size = l.length := by rw [<- Array.length_toList, hd', xqs]
  obtain ⟨r1, r2⟩ := own_sorted H.out hs S'
  rw [hd'] at r1
  refine ⟨rfl, r1, ?_⟩
  have := Fo.ofKept1 r2
  exact this.mono (fun k hk => by subst hk; rfl)
end Go.Proofs.YticiofkiffgclaaGreat
namespace Go.Proofs.YticiofkiffgclaaGreat
open Go.RowKit
variable {w w' : World} {base : Nat} {l : List Ev}
theorem yqr {w : World} {g : Nat} {cs : Array Value} {T : TypeId} (h : w.heap[g]? = some (.cells cs T (0, 0))) : w.frozen? ⟨g, 0, none⟩ = false /\ w.frozen? ⟨g, 1, none⟩ = false /\ w.frozen? ⟨g, 2, none⟩ = false /\ w.frozen? ⟨g, 3, none⟩ = false /\ w.frozen? ⟨g, 4, none⟩ = false /\ w.frozen? ⟨g, 5, none⟩ = false /\ w.frozen? ⟨g, 6, none⟩ = false /\ w.frozen? ⟨g, 7, none⟩ = false :=
 ⟨frozen_of_row _ _ _ _ _ h, frozen_of_row _ _ _ _ _ h, frozen_of_row _ _ _ _ _ h, frozen_of_row _ _ _ _ _ h, frozen_of_row _ _ _ _ _ h, frozen_of_row _ _ _ _ _ h, frozen_of_row _ _ _ _ _ h, frozen_of_row _ _ _ _ _ h⟩
theorem ret_bool {a b : Bool} (h : a = b) : Ending.returned (.bool a) = .returned (.bool b) := by rw [h]
def dueB (o b : ByteArray) : Bool := o.toList.isEmpty || o.toList == b.toList
theorem dueB_empty {o : ByteArray} (h : o.toList = []) (b : ByteArray) : dueB o b = true := by simp [dueB, h]
theorem size_isEmpty (o : ByteArray) : (((o.size : Nat) : Int) == 0) = o.toList.isEmpty := by
 have : o.toList.length = o.size := by rw [ByteArray.toList_eq, Array.length_toList]; rfl
 rw [<- this]
 cases o.toList <;> simp
 omega
theorem due_any (e : Ev) (b : ByteArray) (w : World) :
 Calls Tryz.prog 150 #[.agg e.cs, .string b] w fun en w' => en = .returned (.bool (dueB e.ow b)) /\ Kept w w' [] := by
 change Calls Tryz.prog 150 #[.agg #[.int .i64 e.id, .int .i64 e.tx, .string e.ow, .int .i64 e.tr, .int .i64 e.tb, .int .u8 e.kd, .int .i64 e.key, .string e.t], .string b] w _
 go_enter Tryz.func150, Tryz.ntmps150
 go_wp2
 ·go_ret
  exact ⟨ret_bool (dueB_empty (by assumption) b).symm, (Kept.refl w []).alloc _⟩
 ·go_ret
  exact ⟨rfl, (Kept.refl w []).alloc _⟩
theorem refdue_any (e : Ev) (b : ByteArray) (w : World) :
 Calls Tryz.prog 169 #[.agg e.cs, .string b] w fun en w' => en = .returned (.bool (dueB e.ow b)) /\ Kept w w' [] := by
 change Calls Tryz.prog 169 #[.agg #[.int .i64 e.id, .int .i64 e.tx, .string e.ow, .int .i64 e.tr, .int .i64 e.tb, .int .u8 e.kd, .int .i64 e.key, .string e.t], .string b] w _
 go_enter Tryz.func169, Tryz.ntmps169
 go_wp2
 ·go_ret
  exact ⟨ret_bool (dueB_empty (by rename_i h; rw [h]; exact (by rw [ByteArray.toList_eq]; rfl)) b).symm, (Kept.refl w []).alloc _⟩
 ·go_ret
  exact ⟨ret_bool (by rw [size_isEmpty]; rfl), (Kept.refl w []).alloc _⟩
end Go.Proofs.YticiofkiffgclaaGreat
