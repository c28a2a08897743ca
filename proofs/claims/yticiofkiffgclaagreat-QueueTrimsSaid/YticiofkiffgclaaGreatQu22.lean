/-
 Kd, Ke in one text.
-/
import Derived.Test.YticiofkiffgclaaGreatQu0
import Derived.Test.YticiofkiffgclaaGreatQu14
import Derived.Test.YticiofkiffgclaaGreatQu21
import Derived.Deep.RegionHeld3
import Derived.Deep.DeepCutAuto
import Derived.LoopTactic
import Derived.Test.YticiofkiffgclaaGreatQu17
set_option linter.unusedVariables false
set_option maxHeartbeats 16000000
set_option maxRecDepth 100000
namespace Go.Proofs.YticiofkiffgclaaGreat
open Go.RowKit
def set4 (w : World) (g : Nat) (u0 u1 u2 u3 : Value) : World := (((w.setCell ⟨g, 0, none⟩ u0).setCell ⟨g, 1, none⟩ u1).setCell ⟨g, 2, none⟩ u2).setCell ⟨g, 3, none⟩ u3
theorem xqG {a w : World} {bs : List Nat} (h : Kept a w bs) {g : Nat} (hg : a.heap.size <= g) (u0 u1 u2 u3 : Value) : Kept a (set4 w g u0 u1 u2 u3) bs := h.four (.inr hg) u0 u1 u2 u3
theorem set4_at {w : World} {g : Nat} {z0 z1 z2 z3 : Value} {T : TypeId} (h : w.heap[g]? = some (.cells #[z0, z1, z2, z3] T (0, 0))) (u0 u1 u2 u3 : Value) : (set4 w g u0 u1 u2 u3).heap[g]? = some (.cells #[u0, u1, u2, u3] T (0, 0)) := by
 unfold set4
 rw [xqb (xqb (xqb (xqb h 0 u0) 1 u1) 2 u2) 3 u3]
 simp only [List.setIfInBounds_toArray, List.set_cons_zero, List.set_cons_succ]
abbrev zT4 : Obj := .cells #[.int .i64 0, .int .i64 0, .slice none 0 0, .int .i64 0] 38
variable {w w' : World} {B h : Nat} {V : Value} {xs : List Tk}
theorem folB_snoc (ys : List Tk) (y : Tk) (M : Int) (l : List Int) (t : Int) : folB ((ys ++ [y]).map Tk.pl) M l t = (decide (y.t <= t) && covB M y.M l y.l) := by
 unfold folB
 rw [List.map_append]
 simp [Tk.pl]
theorem Okp.lastT {ys : List Tk} {y : Tk} (a : Okp ((ys ++ [y]).map Tk.pl)) : xqn y.M y.l = true /\ y.M <= 9223372036854775807 /\ y.l.length <= 1000 := by
 have hm : y.pl ∈ (ys ++ [y]).map Tk.pl := by simp
 exact ⟨a.right _ hm, a.wide _ hm, a.len _ hm⟩
theorem follows_any (a : Tc tkT [] w B h V xs) (ok : Okp (xs.map Tk.pl)) (hl : xs.length <= 1000) (M : Int) (va : Option Addr) (vc : Nat) (l : List Int) (t : Int) (hr : RdI w (.slice va l.length vc) l) (rM : xqn M l = true) (hM : M <= 9223372036854775807) (hll : l.length <= 1000) :
 Calls Tryz.prog 174 #[.pointer (some ⟨h, 0, none⟩), .agg #[.int .i64 M, .slice va l.length vc], .int .i64 t] w fun e w' => e = .returned (.bool (folB (xs.map Tk.pl) M l t)) /\ Kept w w' [] := by
 obtain ⟨z, hz⟩ : ∃ z, z = w.heap.size := ⟨_, rfl⟩
 obtain ⟨W1, hW1⟩ : ∃ W1, W1 = w.alloc (.cells #[.int .i64 M, .slice va l.length vc] 36) := ⟨_, rfl⟩
 have k1 : Kept w W1 [] := by rw [hW1]; exact (Kept.refl w []).alloc _
 have g0 : W1.heap[z]? = some (.cells #[.int .i64 M, .slice va l.length vc] 36 (0, 0)) := by rw [hW1, hz]; exact heap_alloc_new w _
 have a1 := a.keep k1
 have HL : RowKit.Hid (∀ U, Kept W1 U [] -> Calls Tryz.prog 73 #[.pointer (some ⟨h, 0, none⟩)] U fun e w' => e = .returned (.int .i64 xs.length) /\ w' = U) := iH (fun U hU => yqc (a1.keep hU))
 have R1 := iH (hr.keep k1)
 have K1 := iH k1; have HW1 := iH hW1; have HZ := iH hz; have G0 := iH g0
 have S0 := iH (show z + 1 = W1.heap.size by rw [hW1, hz]; simp)
 have RM := iH rM
 clear hr rM k1 hW1 g0 hz a
 rcases List.eq_nil_or_concat xs with rfl | ⟨ys, y, e⟩
 ·clear a1
  go_enter Tryz.func174, Tryz.ntmps174
  go_wp2_with fail
  rw [<- HW1.out]
  refine (HL.out _ (Kept.refl _ _)).mono ?_
  rintro e w2 ⟨rfl, rfl⟩
  go_wp2
  go_ret
  exact ⟨rfl, K1.out⟩
 ·rw [List.concat_eq_append] at e
  subst e
  rw [folB_snoc]
  obtain ⟨rY, hyM, hyl⟩ := ok.lastT
  obtain ⟨g, c, eV, q0, q1, q2, q3, hry⟩ := a1.last
  have cv := a1.cell.1
  rw [eV] at cv
  rw [List.length_append, List.length_singleton] at HL
  have hl2 : ys.length < 1000 := by simp at hl; omega
  have RY := iH rY; have HRY := iH hry
  obtain ⟨n', M', a', c', l', t'⟩ := y
  simp only [Tk.op] at *
  have Q : RowKit.Hid (W1.cell? ⟨h, 0, none⟩ = some (.slice (some ⟨g, 0, none⟩) (ys.length + 1) c) /\ W1.cell? ⟨g, ys.length * 4, none⟩ = some (.int .i64 n') /\ W1.cell? ⟨g, ys.length * 4 + 1, none⟩ = some (.int .i64 M') /\ W1.cell? ⟨g, ys.length * 4 + 2, none⟩ = some (.slice a' l'.length c') /\ W1.cell? ⟨g, ys.length * 4 + 3, none⟩ = some (.int .i64 t')) := iH ⟨cv, q0, q1, q2, q3⟩
  clear a1 ok rY hry cv q0 q1 q2 q3 eV hl
  have x0 : (((ys.length : Nat) : Int) + 1 == 0) = false := by rw [beq_eq_false_iff_ne]; omega
  obtain ⟨N, hN⟩ : ∃ N : Nat, N = ys.length := ⟨_, rfl⟩
  rw [<- hN] at HL x0 Q hl2
  clear hN
  go_enter Tryz.func174, Tryz.ntmps174
  go_wp2_with fail
  rw [<- HW1.out]
  refine (HL.out _ (Kept.refl _ _)).mono ?_
  rintro e w2 ⟨rfl, rfl⟩
  go_upto_region 3 with fail
  go_cut [7] (fun s7 wx => ∃ p, s7 = .pointer (some ⟨p, 0, none⟩) /\ RowKit.Hid (Kept w2 wx [] /\ wx.heap[p]? = some (.cells #[.int .i64 n', .int .i64 M', .slice a' l'.length c', .int .i64 t'] 38 (0, 0))))
  case first =>
   refine wp_region_held_drew (S := fun V => Kept w2 V []) (by kernel_rfl) (Kept.refl w2 []).drew (fun hJ => ?_)
   refine wx 0 11 (.pointer (some ⟨h, 0, none⟩)) rfl hJ ?_
   refine wx 1 12 (.pointer (some ⟨h, 0, none⟩)) rfl hJ ?_
   refine wx 2 13 (.pointer (some ⟨h, 0, none⟩)) rfl hJ ?_
   refine wx 3 14 (.slice (some ⟨g, 0, none⟩) (N + 1) c) rfl hJ ?_ (hy := fun V hV => by (have c0 := hV.cell (p := ⟨h, 0, none⟩) (by simp) Q.out.1; clear hV; go_simp))
   refine wx 4 15 (.pointer (some ⟨h, 0, none⟩)) rfl hJ ?_
   have m1 : IntKind.i64.wrap (((N : Int) + 1) - 1) = (N : Int) := by rw [IntKind.wrap_i64]; omega
   have m2 : ((N : Int) + 1) - 1 = (N : Int) := by omega
   have m5 : IntKind.i64.wrap (N : Int) = (N : Int) := by rw [IntKind.wrap_i64]; omega
   have m3 : (N : Int) < ((N + 1 : Nat) : Int) := by omega
   have m4 : (N : Int) < (N : Int) + 1 := by omega
   refine wpAnyH_ready (rs := [5, 9]) (by kernel_rfl) (by simp) ?_
   refine AllReadyH.cons (o := _) rfl (fun K hK => ?wayA) (AllReadyH.cons (o := _) rfl (fun K hK => ?wayB) AllReadyH.nil)
   case wayA =>
    go_simp
    go_at_call 73
    refine (HL.out _ (Kept.refl w2 []).drew).mono ?_
    rintro e w3 ⟨rfl, rfl⟩
    go_wp2_with fail
    refine hK.out _ _ (Kept.refl w2 []).drew (fun hJ => ?_)
    clear hK K
    refine wx 6 17 (.int .i64 N) rfl hJ ?_
    refine wx 7 18 (.pointer (some ⟨g, N * 4, none⟩)) rfl hJ ?_
    refine wx 8 19 (.agg #[.int .i64 n', .int .i64 M', .slice a' l'.length c', .int .i64 t']) rfl hJ ?_ (hy := fun V hV => by (obtain ⟨_, j0, j1, j2, j3⟩ := Q.out; have c0 := hV.cell (p := ⟨g, N * 4, none⟩) (by simp) j0; have c1 := hV.cell (p := ⟨g, N * 4 + 1, none⟩) (by simp) j1; have c2 := hV.cell (p := ⟨g, N * 4 + 2, none⟩) (by simp) j2; have c3 := hV.cell (p := ⟨g, N * 4 + 3, none⟩) (by simp) j3; clear hV j0 j1 j2 j3; go_simp))
    refine wr1 9 rfl (fun K hK => ?_)
    go_simp
    refine hK.out _ _ ((Kept.refl w2 []).alloc zT4).drew (fun hJ => ?_)
    clear hK K
    obtain ⟨wA, hwA⟩ : ∃ wA, wA = (w2.alloc zT4).drew := ⟨_, rfl⟩
    have kA : Kept w2 wA [] := by rw [hwA]; exact ((Kept.refl w2 []).alloc zT4).drew
    have gA : wA.heap[w2.heap.size]? = some zT4 := by rw [hwA]; exact heap_alloc_new w2 zT4
    rw [<- hwA]
    clear hwA
    obtain ⟨p, hp⟩ : ∃ p, p = w2.heap.size := ⟨_, rfl⟩
    rw [<- hp] at gA ⊢
    have sp : w2.heap.size <= p := by omega
    clear hp
    refine wr1 10 rfl (fun K hK => ?_)
    obtain ⟨c0, c1, c2, c3⟩ := xqc gA
    obtain ⟨f0, f1, f2, f3⟩ := xqf gA
    go_simp
    clear c0 c1 c2 c3 f0 f1 f2 f3
    refine hK.out _ (set4 wA p (.int .i64 n') (.int .i64 M') (.slice a' l'.length c') (.int .i64 t')) (xqG kA sp _ _ _ _) (fun hJ => ?_)
    clear hK K
    refine wd ?_
    go_wp2_with fail
    go_meet
    exact ⟨p, rfl, xqG kA sp _ _ _ _, set4_at gA _ _ _ _⟩
   case wayB =>
   go_simp
   refine hK.out _ _ ((Kept.refl w2 []).alloc zT4).drew (fun hJ => ?_)
   clear hK K
   refine wr1 5 rfl (fun K hK => ?_)
   go_simp
   go_at_call 73
   refine (HL.out _ ((Kept.refl w2 []).alloc zT4).drew).mono ?_
   rintro e w3 ⟨rfl, rfl⟩
   go_wp2_with fail
   refine hK.out _ _ ((Kept.refl w2 []).alloc zT4).drew (fun hJ => ?_)
   clear hK K
   refine wx 6 17 (.int .i64 N) rfl hJ ?_
   refine wx 7 18 (.pointer (some ⟨g, N * 4, none⟩)) rfl hJ ?_
   refine wx 8 19 (.agg #[.int .i64 n', .int .i64 M', .slice a' l'.length c', .int .i64 t']) rfl hJ ?_ (hy := fun V hV => by (obtain ⟨_, j0, j1, j2, j3⟩ := Q.out; have c0 := hV.cell (p := ⟨g, N * 4, none⟩) (by simp) j0; have c1 := hV.cell (p := ⟨g, N * 4 + 1, none⟩) (by simp) j1; have c2 := hV.cell (p := ⟨g, N * 4 + 2, none⟩) (by simp) j2; have c3 := hV.cell (p := ⟨g, N * 4 + 3, none⟩) (by simp) j3; clear hV j0 j1 j2 j3; go_simp))
   obtain ⟨wA, hwA⟩ : ∃ wA, wA = (w2.alloc zT4).drew := ⟨_, rfl⟩
   have kA : Kept w2 wA [] := by rw [hwA]; exact ((Kept.refl w2 []).alloc zT4).drew
   have gA : wA.heap[w2.heap.size]? = some zT4 := by rw [hwA]; exact heap_alloc_new w2 zT4
   rw [<- hwA]
   clear hwA
   obtain ⟨p, hp⟩ : ∃ p, p = w2.heap.size := ⟨_, rfl⟩
   rw [<- hp] at gA ⊢
   have sp : w2.heap.size <= p := by omega
   clear hp
   refine wr1 10 rfl (fun K hK => ?_)
   obtain ⟨c0, c1, c2, c3⟩ := xqc gA
   obtain ⟨f0, f1, f2, f3⟩ := xqf gA
   go_simp
   clear c0 c1 c2 c3 f0 f1 f2 f3
   refine hK.out _ (set4 wA p (.int .i64 n') (.int .i64 M') (.slice a' l'.length c') (.int .i64 t')) (xqG kA sp _ _ _ _) (fun hJ => ?_)
   clear hK K
   refine wd ?_
   go_wp2_with fail
   go_meet
   exact ⟨p, rfl, xqG kA sp _ _ _ _, set4_at gA _ _ _ _⟩
  case rest =>
  obtain ⟨p, rfl, HP⟩ := hcut
  have c0 := (HP.out.1.heap (by simp) G0.out)
  rw [HZ.out] at c0
  obtain ⟨j0, j1⟩ := xqq c0
  obtain ⟨d0, d1, d2, d3⟩ := xqc HP.out.2
  clear c0
  have C := iH (covers_any M M' _ _ l l' wc (R1.out.keep HP.out.1) (HRY.out.1.keep HP.out.1) RM.out RY.out hM hyM hll hyl)
  by_cases hge : t' <= t
  ·have x5 : decide (t' <= t) = true := decide_eq_true hge
   have X5 := iH x5
   clear hge
   go_wp2_with fail
   refine C.out.mono ?_
   rintro e w3 ⟨r, rfl, hr, k3⟩
   have K3 := iH k3
   have HR : RowKit.Hid (r = covB M M' l l') := iH (by rw [Bool.eq_iff_iff, hr, covB_iff RM.out RY.out])
   clear hr k3
   go_wp2
   go_ret
   exact ⟨retb (by rw [X5.out, Bool.true_and, HR.out]), (K1.out.trans HP.out.1 (by simp)).trans K3.out (by simp)⟩
  have x5 : decide (t' <= t) = false := decide_eq_false hge
  have X5 := iH x5
  clear C
  go_wp2
  go_ret
  exact ⟨retb (by first | rfl | (rw [X5.out]; rfl)), K1.out.trans HP.out.1 (by simp)⟩
theorem retn {a b : Int} (h : a = b) : Ending.returned (.int .i64 a) = .returned (.int .i64 b) := by rw [h]
theorem refusal_any (a : Tc tkT [] w B h V xs) (ok : Okp (xs.map Tk.pl)) (M : Int) (va : Option Addr) (vc : Nat) (l : List Int) (t : Int) (hr : RdI w (.slice va l.length vc) l) (hM : M <= 9223372036854775807) (hll : l.length <= 1000) :
 Calls Tryz.prog 132 #[.pointer (some ⟨h, 0, none⟩), .agg #[.int .i64 M, .slice va l.length vc], .int .i64 t] w fun e w' => e = .returned (.int .i64 (addE (xs.map Tk.pl) M l t)) /\ Kept w w' [] := by
 have hsz : xs.length <= 64 := by have := ok.size; simpa using this
 have EE : RowKit.Hid (addE (xs.map Tk.pl) M l t = if 64 <= xs.length then 8 else if xqn M l = false then 1 else if folB (xs.map Tk.pl) M l t = true then 0 else 1) := iH (by unfold addE; rw [List.length_map])
 obtain ⟨W1, hW1⟩ : ∃ W1, W1 = w.alloc (.cells #[.int .i64 M, .slice va l.length vc] 36) := ⟨_, rfl⟩
 have k1 : Kept w W1 [] := by rw [hW1]; exact (Kept.refl w []).alloc _
 have g0 : W1.heap[w.heap.size]? = some (.cells #[.int .i64 M, .slice va l.length vc] 36 (0, 0)) := by rw [hW1]; exact heap_alloc_new w _
 have a1 := a.keep k1
 have HL := iH (yqc a1)
 have r1 := hr.keep k1
 have HR := iH (right_any M _ l W1 r1)
 have HF : RowKit.Hid (∀ U, Kept W1 U [] -> xqn M l = true -> Calls Tryz.prog 174 #[.pointer (some ⟨h, 0, none⟩), .agg #[.int .i64 M, .slice va l.length vc], .int .i64 t] U fun e w' => e = .returned (.bool (folB (xs.map Tk.pl) M l t)) /\ Kept U w' []) := iH (fun U hU rM => follows_any (a1.keep hU) ok (by omega) M va vc l t (r1.keep hU) rM hM hll)
 have K1 := iH k1; have HW1 := iH hW1; have G0 := iH g0
 obtain ⟨j0, j1⟩ := xqq g0
 clear hr a a1 ok r1 k1 hW1 g0
 by_cases h64 : 64 <= xs.length
 ·have x1 : decide (64 <= (xs.length : Int)) = true := decide_eq_true (by omega)
  rw [if_pos h64] at EE
  clear h64
  go_enter Tryz.func132, Tryz.ntmps132
  go_wp2_with fail
  rw [<- HW1.out]
  refine HL.out.mono ?_
  rintro e w2 ⟨rfl, rfl⟩
  go_wp2
  go_ret
  exact ⟨retn EE.out.symm, K1.out⟩
 ·have x1 : decide (64 <= (xs.length : Int)) = false := decide_eq_false (by omega)
  rw [if_neg h64] at EE
  clear h64
  cases hR : xqn M l with
  | false =>
  rw [hR, if_pos rfl] at EE
  rw [hR] at HR
  clear HF hR
  go_enter Tryz.func132, Tryz.ntmps132
  go_wp2_with fail
  rw [<- HW1.out]
  refine HL.out.mono ?_
  rintro e w2 ⟨rfl, rfl⟩
  go_wp2_with fail
  refine HR.out.mono ?_
  rintro e w3 ⟨rfl, k3⟩
  have K3 := iH k3
  clear k3
  go_wp2
  go_ret
  exact ⟨retn EE.out.symm, K1.out.trans K3.out (by simp)⟩
  | true =>
  rw [hR, if_neg (by simp)] at EE
  rw [hR] at HR
  have HF2 := iH (fun U hU => HF.out U hU hR)
  clear HF hR
  cases hF : folB (xs.map Tk.pl) M l t with
  | false =>
  rw [hF, if_neg (by simp)] at EE
  rw [hF] at HF2
  clear hF
  go_enter Tryz.func132, Tryz.ntmps132
  go_wp2_with fail
  rw [<- HW1.out]
  refine HL.out.mono ?_
  rintro e w2 ⟨rfl, rfl⟩
  go_wp2_with fail
  refine HR.out.mono ?_
  rintro e w3 ⟨rfl, k3⟩
  have K3 := iH k3
  obtain ⟨j2, j3⟩ := xqq (k3.heap (by simp) G0.out)
  clear k3
  go_wp2_with fail
  refine (HF2.out _ K3.out).mono ?_
  rintro e w4 ⟨rfl, k4⟩
  have K4 := iH k4
  clear k4
  go_wp2
  go_ret
  exact ⟨retn EE.out.symm, (K1.out.trans K3.out (by simp)).trans K4.out (by simp)⟩
  | true =>
  rw [hF, if_pos rfl] at EE
  rw [hF] at HF2
  clear hF
  go_enter Tryz.func132, Tryz.ntmps132
  go_wp2_with fail
  rw [<- HW1.out]
  refine HL.out.mono ?_
  rintro e w2 ⟨rfl, rfl⟩
  go_wp2_with fail
  refine HR.out.mono ?_
  rintro e w3 ⟨rfl, k3⟩
  have K3 := iH k3
  obtain ⟨j2, j3⟩ := xqq (k3.heap (by simp) G0.out)
  clear k3
  go_wp2_with fail
  refine (HF2.out _ K3.out).mono ?_
  rintro e w4 ⟨rfl, k4⟩
  have K4 := iH k4
  clear k4
  go_wp2
  go_ret
  exact ⟨retn EE.out.symm, (K1.out.trans K3.out (by simp)).trans K4.out (by simp)⟩
variable {w w' : World} {B h : Nat} {V : Value} {xs : List Tk}
theorem tcs_snoc (l : List Tk) (e : Tk) : tcs l ++ e.cs.toList = tcs (l ++ [e]) := by rw [tcs_append]; simp [tcs]
theorem tk_one (e : Tk) : ∀ u ∈ e.cs.toList, u.oneCell' = true := by
 intro u hu
 simp only [Tk.cs, List.mem_cons, List.not_mem_nil, or_false] at hu
 rcases hu with rfl | rfl | rfl | rfl <;> rfl
theorem tkPush {T : TypeId} {r : List Value} (a : Tc T r w B h V xs) {w6 wB : World} (y : Tk) (k6 : Kept w w6 []) (hB : wB = w6.alloc (.cells y.cs 38)) (ry : RdT w6 y.op y.l) :
 wB.ownsRow B 38 4 V xs.length (tcs xs) /\ Src Tryz.prog 4 76 (.slice (some ⟨w6.heap.size, 0, none⟩) 1 1) 1 y.cs.toList wB /\ B <= wB.heap.size /\
 ∀ v9 w9, w9.ownsRow B 38 4 v9 (xs.length + 1) (tcs xs ++ y.cs.toList) -> wB.grownBy w9 V.ownBlock -> (v9.ownBlock = V.ownBlock ∨ ∃ g, v9.ownBlock = some g /\ wB.heap.size <= g) ->
  (w9.cell? ⟨h, 0, none⟩ = some V /\ w9.frozen? ⟨h, 0, none⟩ = false) /\ Tc T r (w9.setCell ⟨h, 0, none⟩ v9) B h v9 (xs ++ [y]) /\ Stp (xqx h V) (xqx h v9) w (w9.setCell ⟨h, 0, none⟩ v9) /\
  (∀ k o, ¬ xqx h V k -> wB.heap[k]? = some o -> w9.heap[k]? = some o /\ (w9.setCell ⟨h, 0, none⟩ v9).heap[k]? = some o) := by
 have kB : Kept w6 wB [] := by rw [hB]; exact (Kept.refl w6 []).alloc _
 have kwB : Kept w wB [] := k6.trans kB (by simp)
 have hb : wB.heap[w6.heap.size]? = some (.cells y.cs 38 (0, 0)) := by rw [hB]; exact heap_alloc_new w6 _
 refine ⟨(a.keep kwB).own, ?_, Nat.le_trans a.size kwB.size, ?_⟩
 ·refine Src.ofSlice wB Tryz.underlying76 ⟨w6.heap.size, 0, none⟩ 1 1 _ rfl (fun j x hx => ?_) (tk_one y)
  rw [Addr.add_lit, cell_of_row wB _ _ _ _ _ hb, Nat.zero_add]
  simpa using hx
 ·intro v9 w9 h1 h2 h3
  have f : Fo (fun k => V.ownBlock = some k) w w9 := (Fo.ofKept kwB _).grown h2 (fun k hk => .inl hk)
  have x9 : OwnT w9 B 38 v9 (xs ++ [y]) := by unfold OwnT; rw [<- tcs_snoc, List.length_append]; exact h1
  have n9 : NoI wB (fun k => V.ownBlock = some k) := fun k hk => (a.keep kwB).noI k (.inr hk)
  have f9 : Fo (fun k => V.ownBlock = some k) wB w9 := (Fo.refl _ wB).grown h2 (fun k hk => .inl hk)
  have rd9 : ∀ x ∈ xs ++ [y], RdT w9 x.op x.l := by
   intro x hx
   rcases List.mem_append.1 hx with hx | hx
   ·exact ((a.rd x hx).keep kwB).fo f9 n9
   obtain rfl := List.mem_singleton.1 hx
   exact (ry.keep kB).fo f9 n9
  obtain ⟨r1, r2, r3⟩ := a.lay f x9 rd9 (fun k hk => by
   rcases h3 with h3 | ⟨g, h3, h4⟩
   ·exact .inl (by rw [<- h3]; exact hk)
   ·rw [h3] at hk
    simp only [Option.some.injEq] at hk
    subst hk
    exact .inr (Nat.le_trans kwB.size h4))
  refine ⟨r1, r2, r3, fun k o hk ho => ?_⟩
  have g9 := f9.heap (fun e => hk (.inr e)) ho
  have k2 : Fo (fun k => k = h) w9 (w9.setCell ⟨h, 0, none⟩ v9) := Fo.setCell (O := fun k => k = h) (Fo.refl _ w9) (p := ⟨h, 0, none⟩) (.inl rfl) v9
  exact ⟨g9, k2.heap (fun e => hk (.inl e)) g9⟩
def Fresh (w : World) (xs xs' : List Tk) (y : Tk) : Prop := (∀ b, y.op.ownBlock = some b -> w.heap.size <= b /\ ∀ x ∈ xs', x.op.ownBlock ≠ some b) /\ ∀ x ∈ xs', x ∈ xs ∨ ∀ b, x.op.ownBlock = some b -> w.heap.size <= b
theorem RdT.lt {v : Value} {l : List Int} (h : RdT w v l) {b : Nat} (hb : v.ownBlock = some b) : b < w.heap.size := by
 obtain ⟨cs, hg⟩ := h.2 b hb
 exact xqh hg
def AddPost (w : World) (B h : Nat) (V : Value) (xs : List Tk) (M : Int) (l : List Int) (t : Int) (e : Ending) (w' : World) : Prop :=
 ∃ (y : Tk) (V' : Value) (xs' : List Tk), e = .returned (.tuple #[.agg y.cs, .int .i64 (addE (xs.map Tk.pl) M l t)]) /\ y.pl = addP (xs.map Tk.pl) M l t /\ RdT w' y.op y.l /\ Tc tkT [] w' B h V' xs' /\ xs'.map Tk.pl = addS (xs.map Tk.pl) M l t /\ Stp (xqx h V) (xqx h V') w w' /\ Fresh w xs xs' y
theorem AddPost.no {M : Int} {l : List Int} {t : Int} {E : Int} (hE : addE (xs.map Tk.pl) M l t = E) (h0 : E ≠ 0) (a : Tc tkT [] w' B h V xs) (s : Stp (xqx h V) (xqx h V) w w') : AddPost w B h V xs M l t (.returned (.tuple #[.agg #[.int .i64 0, .int .i64 0, .slice none 0 0, .int .i64 0], .int .i64 E])) w' := by
 refine ⟨Tk.zero, V, xs, by rw [hE]; rfl, by unfold addP; rw [hE, if_neg h0]; rfl, RdT.nil w', a, by unfold addS; rw [hE, if_neg h0], s, fun b hb => by simp [Tk.zero, Tk.op, Value.ownBlock] at hb, fun x hx => .inl hx⟩
theorem AddPost.yes {M : Int} {l : List Int} {t L : Int} {wf wc w7 : World} {v9 : Value} {x1 y : Tk} (hE : addE (xs.map Tk.pl) M l t = 0) (hL : L = xqk (xs.map Tk.pl)) (hwf : Kept w wf []) (T9 : Tc tkT [] wc B h v9 (xs ++ [x1])) (hx1 : x1.pl = ⟨L + 1, M, l, t⟩)
 (P9 : Stp (xqx h V) (xqx h v9) wf wc) (HF9 : ∀ b, x1.op.ownBlock = some b -> wf.heap.size <= b) (NF : ¬ xqx h V (w.heap.size + 1)) (zz : w.heap.size + 1 < wf.heap.size) (K7 : Kept wc w7 []) (hy : y.pl = ⟨L + 1, M, l, t⟩) (HRY : RdT w7 y.op y.l) (HFY : ∀ b, y.op.ownBlock = some b -> wc.heap.size <= b)
 (G7 : w7.heap[w.heap.size + 1]? = some zT4) (u0 u1 u2 u3 : Value) : AddPost w B h V xs M l t (.returned (.tuple #[.agg y.cs, .int .i64 0])) ((((w7.setCell ⟨w.heap.size + 1, 0, none⟩ u0).setCell ⟨w.heap.size + 1, 1, none⟩ u1).setCell ⟨w.heap.size + 1, 2, none⟩ u2).setCell ⟨w.heap.size + 1, 3, none⟩ u3) := by
 have f7 : Fo (fun k => k = w.heap.size + 1) w7 ((((w7.setCell ⟨w.heap.size + 1, 0, none⟩ u0).setCell ⟨w.heap.size + 1, 1, none⟩ u1).setCell ⟨w.heap.size + 1, 2, none⟩ u2).setCell ⟨w.heap.size + 1, 3, none⟩ u3) := Fo.four (O := fun k => k = w.heap.size + 1) (Fo.refl _ w7) (g := w.heap.size + 1) (.inl rfl) u0 u1 u2 u3
 have n7 : NoI w7 (fun k => k = w.heap.size + 1) := by
  rintro k rfl cs fz hg
  rw [G7] at hg
  simp only [zT4, Option.some.injEq, Obj.cells.injEq] at hg
  exact absurd hg.2.1 (by decide)
 have dis : ∀ k, xqx h v9 k -> ¬ k = w.heap.size + 1 := by
  rintro k hk rfl
  rcases P9.2 _ hk with h1 | h1
  ·exact NF h1
  omega
 have s := ((Stp.ofKept (O := xqx h V) hwf).trans P9).then K7
 refine ⟨y, v9, xs ++ [x1], by rw [hE], by rw [addP, hE, if_pos rfl, <- hL]; exact hy, HRY.fo f7 n7, (T9.keep K7).fo f7 dis n7, by rw [addS, hE, if_pos rfl, <- hL, List.map_append]; simp [hx1], ⟨s.1.four (g := w.heap.size + 1) (.inr (by omega)) u0 u1 u2 u3, s.2⟩, fun b hb => ⟨?_, fun x hx hb2 => ?_⟩, fun x hx => ?_⟩
 ·have := HFY b hb; have := P9.1.size; have := hwf.size; omega
 ·have := HFY b hb; have := (T9.rd x hx).lt hb2; omega
 ·rcases List.mem_append.1 hx with hx | hx
  ·exact .inl hx
  obtain rfl := List.mem_singleton.1 hx
  exact .inr (fun b hb => by have := HF9 b hb; have := hwf.size; omega)
theorem tkadd_any (a : Tc tkT [] w B h V xs) (ok : Okp (xs.map Tk.pl)) (M : Int) (va : Option Addr) (vc : Nat) (l : List Int) (t : Int) (hr : RdT w (.slice va l.length vc) l) (hM : M <= 9223372036854775807) (hll : l.length <= 1000) (hlast : xqk (xs.map Tk.pl) <= 1099511627776) :
 Calls Tryz.prog 78 #[.pointer (some ⟨h, 0, none⟩), .agg #[.int .i64 M, .slice va l.length vc], .int .i64 t] w (AddPost w B h V xs M l t) := by
 have hsz : xs.length <= 64 := by have := ok.size; simpa using this
 have hn0 := ok.n0
 obtain ⟨i0, hi0, hz0, hz1, hzb⟩ := info_parts Tryz.infoTk
 have I := iH (And.intro hi0 (And.intro hz0 (And.intro hz1 hzb)))
 obtain ⟨W1, hW1⟩ : ∃ W1, W1 = (w.alloc (.cells #[.int .i64 M, .slice va l.length vc] 36)).alloc zT4 := ⟨_, rfl⟩
 have k1 : Kept w W1 [] := by rw [hW1]; exact ((Kept.refl w []).alloc _).alloc _
 have e1 : (w.alloc (.cells #[.int .i64 M, .slice va l.length vc] 36)).heap.size = w.heap.size + 1 := by simp
 have sW1 : W1.heap.size = w.heap.size + 2 := by rw [hW1]; simp
 have g0 : W1.heap[w.heap.size]? = some (.cells #[.int .i64 M, .slice va l.length vc] 36 (0, 0)) := by rw [hW1]; exact (Below.heap_alloc _ _ _ (by simp)).trans (heap_alloc_new w _)
 have g1 : W1.heap[w.heap.size + 1]? = some zT4 := by rw [hW1, <- e1]; exact heap_alloc_new _ _
 have a1 := a.keep k1
 have r1 := hr.keep k1
 have RF := iH (refusal_any a1 ok M va vc l t r1.1 hM hll)
 have K1 := iH k1; have HW1 := iH hW1; have G0 := iH g0; have G1 := iH g1; have A1 := iH a1; have R1 := iH r1; have SW := iH sW1
 have NF : RowKit.Hid (¬ xqx h V (w.heap.size + 1)) := iH (fun hk => by have := (a.lt _ hk).2; omega)
 obtain ⟨j0, j1⟩ := xqq g0
 obtain ⟨E, hE⟩ : ∃ E, E = addE (xs.map Tk.pl) M l t := ⟨_, rfl⟩
 rw [<- hE] at RF
 have HE := iH hE.symm
 clear hi0 hz0 hz1 hzb k1 hW1 e1 g0 g1 a1 r1 a hr ok sW1 hE
 by_cases h0 : E = 0
 ·subst h0
  obtain ⟨L, hL⟩ : ∃ L, L = xqk (xs.map Tk.pl) := ⟨_, rfl⟩
  rw [<- hL] at hlast hn0
  have HL := iH hL
  clear hL
  go_enter Tryz.func78, Tryz.ntmps78
  go_wp2_with fail
  rw [<- HW1.out]
  refine RF.out.mono ?_
  rintro e w2 ⟨rfl, k2⟩
  have K2 := iH k2
  have LA : RowKit.Hid (∀ U, Kept w2 U [] -> Calls Tryz.prog 41 #[.pointer (some ⟨h, 0, none⟩)] U fun e w' => e = .returned (.int .i64 L) /\ Kept U w' []) := iH (fun U hU => by rw [HL.out]; exact xq2 ((A1.out.keep k2).keep hU) (by omega))
  have q2 := k2.heap (by simp) G0.out
  have Q2 := iH q2
  clear k2 j0 j1 q2
  go_upto_region 4 with fail
  go_cut [9] (fun s9 wx => ∃ p, s9 = .pointer (some ⟨p, 0, none⟩) /\ RowKit.Hid (Kept w2 wx [] /\ w2.heap.size <= p /\ wx.heap[p]? = some (.cells #[.int .i64 (L + 1), .int .i64 M, .slice va l.length vc, .int .i64 t] 38 (0, 0))))
  case first =>
   have m1 : IntKind.i64.wrap (L + 1) = L + 1 := by rw [IntKind.wrap_i64]; omega
   have m2 : wrap64 (L + 1) = L + 1 := by simp only [wrap64]; omega
   refine wp_region_held_drew (S := fun V => Kept w2 V []) (by kernel_rfl) (Kept.refl w2 []).drew (fun hJ => ?_)
   refine wx 0 18 (.pointer (some ⟨h, 0, none⟩)) rfl hJ ?_
   refine wx 3 21 (.agg #[.int .i64 M, .slice va l.length vc]) rfl hJ ?_ (hy := fun V hV => by (obtain ⟨c0, c1⟩ := xqq (hV.heap (by simp) Q2.out); clear hV; go_simp))
   refine wx 4 22 (.int .i64 t) rfl hJ ?_
   refine wpAnyH_ready (rs := [1, 6]) (by kernel_rfl) (by simp) ?_
   refine AllReadyH.cons (o := _) rfl (fun K hK => ?wayA) (AllReadyH.cons (o := _) rfl (fun K hK => ?wayB) AllReadyH.nil)
   case wayA =>
    go_simp
    go_at_call 41
    refine (LA.out _ (Kept.refl w2 []).drew).mono ?_
    rintro e w3 ⟨rfl, k3⟩
    have K3 := iH ((Kept.refl w2 []).drew.trans k3 (by simp))
    clear k3
    go_wp2_with fail
    refine hK.out _ _ K3.out (fun hJ => ?_)
    clear hK K
    refine wx 2 20 (.int .i64 (L + 1)) rfl hJ ?_
    refine wx 5 23 (.agg #[.int .i64 (L + 1), .int .i64 M, .slice va l.length vc, .int .i64 t]) rfl hJ ?_
    refine wr1 6 rfl (fun K hK => ?_)
    go_simp
    refine hK.out _ _ (K3.out.alloc zT4) (fun hJ => ?_)
    clear hK K
    obtain ⟨wA, hwA⟩ : ∃ wA, wA = w3.alloc zT4 := ⟨_, rfl⟩
    have kA : Kept w2 wA [] := by rw [hwA]; exact K3.out.alloc zT4
    have gA : wA.heap[w3.heap.size]? = some zT4 := by rw [hwA]; exact heap_alloc_new w3 zT4
    rw [<- hwA]
    clear hwA
    obtain ⟨p, hp⟩ : ∃ p, p = w3.heap.size := ⟨_, rfl⟩
    rw [<- hp] at gA ⊢
    have sp : w2.heap.size <= p := by have := K3.out.size; omega
    clear hp
    refine wr1 7 rfl (fun K hK => ?_)
    obtain ⟨c0, c1, c2, c3⟩ := xqc gA
    obtain ⟨f0, f1, f2, f3⟩ := xqf gA
    go_simp
    clear c0 c1 c2 c3 f0 f1 f2 f3
    refine hK.out _ (set4 wA p (.int .i64 (L + 1)) (.int .i64 M) (.slice va l.length vc) (.int .i64 t)) (xqG kA sp _ _ _ _) (fun hJ => ?_)
    clear hK K
    refine wd ?_
    go_wp2_with fail
    go_meet
    exact ⟨p, rfl, xqG kA sp _ _ _ _, sp, set4_at gA _ _ _ _⟩
   case wayB =>
   go_simp
   refine hK.out _ _ ((Kept.refl w2 []).alloc zT4).drew (fun hJ => ?_)
   clear hK K
   obtain ⟨w5, hw5⟩ : ∃ w5, w5 = (w2.alloc zT4).drew := ⟨_, rfl⟩
   have k5 : Kept w2 w5 [] := by rw [hw5]; exact ((Kept.refl w2 []).alloc zT4).drew
   have g5 : w5.heap[w2.heap.size]? = some zT4 := by rw [hw5]; exact heap_alloc_new w2 zT4
   rw [<- hw5]
   clear hw5
   obtain ⟨p, hp⟩ : ∃ p, p = w2.heap.size := ⟨_, rfl⟩
   rw [<- hp] at g5 ⊢
   have sp : w2.heap.size <= p := by omega
   clear hp
   have K5 := iH k5; have G5 := iH g5
   clear k5 g5
   refine wr1 1 rfl (fun K hK => ?_)
   go_simp
   go_at_call 41
   refine (LA.out _ K5.out).mono ?_
   rintro e wA ⟨rfl, k3⟩
   have kA := K5.out.trans k3 (by simp)
   have gA := k3.heap (by simp) G5.out
   clear k3
   go_wp2_with fail
   refine hK.out _ _ kA (fun hJ => ?_)
   clear hK K
   refine wx 2 20 (.int .i64 (L + 1)) rfl hJ ?_
   refine wx 5 23 (.agg #[.int .i64 (L + 1), .int .i64 M, .slice va l.length vc, .int .i64 t]) rfl hJ ?_
   refine wr1 7 rfl (fun K hK => ?_)
   obtain ⟨c0, c1, c2, c3⟩ := xqc gA
   obtain ⟨f0, f1, f2, f3⟩ := xqf gA
   go_simp
   clear c0 c1 c2 c3 f0 f1 f2 f3
   refine hK.out _ (set4 wA p (.int .i64 (L + 1)) (.int .i64 M) (.slice va l.length vc) (.int .i64 t)) (xqG kA sp _ _ _ _) (fun hJ => ?_)
   clear hK K
   refine wd ?_
   go_wp2_with fail
   go_meet
   exact ⟨p, rfl, xqG kA sp _ _ _ _, sp, set4_at gA _ _ _ _⟩
  case rest =>
  obtain ⟨p, rfl, HP⟩ := hcut
  obtain ⟨wf, hwf⟩ : ∃ wf, wf = wc := ⟨_, rfl⟩
  subst hwf
  have a3 := (A1.out.keep K2.out).keep HP.out.1
  have r3 := ((R1.out.keep K2.out).keep HP.out.1)
  obtain ⟨u, cp, hV⟩ := a3.shape
  subst hV
  have cv := a3.cell.1
  obtain ⟨n, hn⟩ : ∃ n, n = xs.length := ⟨_, rfl⟩
  have OW := iH (own_any ⟨L + 1, M, va, vc, l, t⟩ wf.drew (r3.1.keep (Kept.refl wf []).drew) (by show l.length <= 10000000; omega))
  have SP := iH (((Kept.refl wf []).drew).heap (by simp) HP.out.2.2)
  have ZP : RowKit.Hid (¬ xqx h (.slice u xs.length cp) p /\ w.heap.size + 1 < wf.heap.size) := iH ⟨fun hk => by have h1 := ((A1.out.keep K2.out).lt p hk).2; have := HP.out.2.1; omega, by have h1 := SW.out; have h2 := K2.out.size; have h3 := HP.out.1.size; omega⟩
  have A3 := iH a3; have R3 := iH r3; have CV := iH cv
  simp only [Tk.cs] at OW
  clear a3 r3 cv hn n
  go_upto_region 5 with fail
  go_cut [] (fun wx => RowKit.Hid (∃ v9 x1, Tk.pl x1 = ⟨L + 1, M, l, t⟩ /\ Tc tkT [] wx B h v9 (xs ++ [x1]) /\ Stp (xqx h (.slice u xs.length cp)) (xqx h v9) wf wx /\ (∀ b, x1.op.ownBlock = some b -> wf.heap.size <= b) /\
   (∀ k o, ¬ xqx h (.slice u xs.length cp) k -> wf.heap[k]? = some o -> wx.heap[k]? = some o)))
  case first =>
   refine wp_region_held_drew (S := fun U => U.heap[p]? = some (.cells #[.int .i64 (L + 1), .int .i64 M, .slice va l.length vc, .int .i64 t] 38 (0, 0))) (by kernel_rfl) SP.out (fun hJ => ?_)
   refine wx 0 24 (.pointer (some ⟨h, 0, none⟩)) rfl hJ ?_
   refine wx 1 25 (.pointer (some ⟨h, 0, none⟩)) rfl hJ ?_
   refine wx 2 26 (.pointer (some ⟨h, 0, none⟩)) rfl hJ ?_
   refine wx 3 27 (.pointer (some ⟨h, 0, none⟩)) rfl hJ ?_
   refine wx 5 29 (.agg #[.int .i64 (L + 1), .int .i64 M, .slice va l.length vc, .int .i64 t]) rfl hJ ?_ (hy := fun V hV => by (obtain ⟨c0, c1, c2, c3⟩ := xqc hV; clear hV; go_simp))
   refine wpAnyH_ready (rs := [4, 6]) (by kernel_rfl) (by simp) ?_
   refine AllReadyH.cons (o := _) rfl (fun K hK => ?wayA) (AllReadyH.cons (o := _) rfl (fun K hK => ?wayB) AllReadyH.nil)
   case wayA =>
    have cv : wf.drew.cell? ⟨h, 0, none⟩ = some (.slice u xs.length cp) := CV.out
    go_simp
    clear cv
    refine hK.out _ _ SP.out (fun hJ => ?_)
    clear hK K
    refine wr1 6 rfl (fun K hK => ?_)
    go_simp
    go_at_call 133
    refine OW.out.mono ?_
    rintro e w6 ⟨y, rfl, hpl, hry, hfy, k6⟩
    obtain ⟨n', M', a', c', l', t'⟩ := y
    simp only [Tk.pl, Pt.mk.injEq] at hpl
    obtain ⟨e0, e1, e2, e3⟩ := hpl
    subst n' M' l' t'
    simp only [Tk.op] at *
    have K6 := iH ((Kept.refl wf []).drew.trans k6 (by simp))
    have S6 := iH (k6.heap (by simp) SP.out)
    have HRY := iH hry; have HFY := iH hfy
    clear hry hfy k6
    go_wp2_with fail
    refine hK.out _ _ S6.out (fun hJ => ?_)
    clear hK K
    obtain ⟨wB, hwB⟩ : ∃ wB, wB = w6.alloc (.cells #[.int .i64 (L + 1), .int .i64 M, .slice a' l.length c', .int .i64 t] 38) := ⟨_, rfl⟩
    obtain ⟨xb, sb, bb, ar⟩ := tkPush A3.out ⟨L + 1, M, a', c', l, t⟩ K6.out hwB HRY.out
    have kB : Kept wf wB [] := by rw [hwB]; exact K6.out.alloc _
    have KB := iH kB
    have cB := kB.cell (p := ⟨h, 0, none⟩) (by simp) CV.out
    have SB7 := iH (kB.heap (by simp) HP.out.2.2)
    have XB := iH xb; have SB := iH sb; have BB := iH bb; have AR := iH ar
    clear xb sb bb ar kB
    clear cB
    refine wr1 7 rfl (fun K hK => ?_)
    refine xqt _ rfl 76 (.tmp 30) rfl 38 i0 _ 4 Tryz.underlying76 I.out.1 I.out.2.1 I.out.2.2.1 (by decide) (by decide) [.int .i64 (L + 1), .int .i64 M, .slice a' l.length c', .int .i64 t] rfl rfl ?_
    rw [<- hwB]
    clear hwB
    refine hK.out _ _ SB7.out (fun hJ => ?_)
    clear hK K
    refine wr1 8 rfl (fun K hK => ?_)
    refine xqC _ rfl (.tmp 28) (.tmp 31) 76 76 rfl B 38 i0 _ 4 48 Tryz.underlying76 I.out.1 I.out.2.1 I.out.2.2.1 I.out.2.2.2 rfl (.slice u xs.length cp) xs.length (tcs xs) rfl XB.out _ 1 [.int .i64 (L + 1), .int .i64 M, .slice a' l.length c', .int .i64 t] rfl SB.out (by unfold maxLen; omega) (by omega) BB.out ?_
    intro v9 w9 ho9 hf9 hg9 hl9
    obtain ⟨⟨c9, f9⟩, r9, p9, s9⟩ := AR.out v9 w9 ho9 hg9 hl9
    have S9 := iH (s9 _ _ ZP.out.1 SB7.out)
    have T9 := iH (fun k o hk ho => (s9 k o hk (KB.out.heap (by simp) ho)).2)
    have R9 := iH r9; have P9 := iH p9
    obtain ⟨a9, q9, hs9⟩ := xqw ho9
    clear r9 p9 s9 ho9 hf9 hg9 hl9
    subst hs9
    refine hK.out _ _ S9.out.1 (fun hJ => ?_)
    clear hK K
    refine wpAnyH_take (i := 9) (oi := _) (v := .pointer (some ⟨h, 0, none⟩)) rfl (by kernel_rfl) (by kernel_rfl) (by kernel_rfl) (fun _ _ _ h => h) (Or.inl ⟨by rfl, fun V hV => by go_simp⟩) hJ ?_
    refine wpAnyH_take (i := 10) (oi := _) (v := .pointer (some ⟨h, 0, none⟩)) rfl (by kernel_rfl) (by kernel_rfl) (by kernel_rfl) (fun _ _ _ h => h) (Or.inl ⟨by rfl, fun V hV => by go_simp⟩) hJ ?_
    refine wr1 11 rfl (fun K hK => ?_)
    go_simp
    refine hK.out _ _ S9.out.2 (fun hJ => ?_)
    clear hK K
    refine wd ?_
    go_wp2_with fail
    go_meet
    exact ⟨_, _, rfl, R9.out, P9.out, HFY.out, T9.out⟩
   case wayB =>
   go_simp
   go_at_call 133
   refine OW.out.mono ?_
   rintro e w6 ⟨y, rfl, hpl, hry, hfy, k6⟩
   obtain ⟨n', M', a', c', l', t'⟩ := y
   simp only [Tk.pl, Pt.mk.injEq] at hpl
   obtain ⟨e0, e1, e2, e3⟩ := hpl
   subst n' M' l' t'
   simp only [Tk.op] at *
   have K6 := iH ((Kept.refl wf []).drew.trans k6 (by simp))
   have S6 := iH (k6.heap (by simp) SP.out)
   have HRY := iH hry; have HFY := iH hfy
   clear hry hfy k6
   go_wp2_with fail
   refine hK.out _ _ S6.out (fun hJ => ?_)
   clear hK K
   refine wpAnyH_ready (rs := [4, 7]) (by kernel_rfl) (by simp) ?_
   refine AllReadyH.cons (o := _) rfl (fun K hK => ?wayC) (AllReadyH.cons (o := _) rfl (fun K hK => ?wayD) AllReadyH.nil)
   case wayC =>
    have cv := K6.out.cell (p := ⟨h, 0, none⟩) (by simp) CV.out
    go_simp
    clear cv
    refine hK.out _ _ S6.out (fun hJ => ?_)
    clear hK K
    obtain ⟨wB, hwB⟩ : ∃ wB, wB = w6.alloc (.cells #[.int .i64 (L + 1), .int .i64 M, .slice a' l.length c', .int .i64 t] 38) := ⟨_, rfl⟩
    obtain ⟨xb, sb, bb, ar⟩ := tkPush A3.out ⟨L + 1, M, a', c', l, t⟩ K6.out hwB HRY.out
    have kB : Kept wf wB [] := by rw [hwB]; exact K6.out.alloc _
    have KB := iH kB
    have cB := kB.cell (p := ⟨h, 0, none⟩) (by simp) CV.out
    have SB7 := iH (kB.heap (by simp) HP.out.2.2)
    have XB := iH xb; have SB := iH sb; have BB := iH bb; have AR := iH ar
    clear xb sb bb ar kB
    clear cB
    refine wr1 7 rfl (fun K hK => ?_)
    refine xqt _ rfl 76 (.tmp 30) rfl 38 i0 _ 4 Tryz.underlying76 I.out.1 I.out.2.1 I.out.2.2.1 (by decide) (by decide) [.int .i64 (L + 1), .int .i64 M, .slice a' l.length c', .int .i64 t] rfl rfl ?_
    rw [<- hwB]
    clear hwB
    refine hK.out _ _ SB7.out (fun hJ => ?_)
    clear hK K
    refine wr1 8 rfl (fun K hK => ?_)
    refine xqC _ rfl (.tmp 28) (.tmp 31) 76 76 rfl B 38 i0 _ 4 48 Tryz.underlying76 I.out.1 I.out.2.1 I.out.2.2.1 I.out.2.2.2 rfl (.slice u xs.length cp) xs.length (tcs xs) rfl XB.out _ 1 [.int .i64 (L + 1), .int .i64 M, .slice a' l.length c', .int .i64 t] rfl SB.out (by unfold maxLen; omega) (by omega) BB.out ?_
    intro v9 w9 ho9 hf9 hg9 hl9
    obtain ⟨⟨c9, f9⟩, r9, p9, s9⟩ := AR.out v9 w9 ho9 hg9 hl9
    have S9 := iH (s9 _ _ ZP.out.1 SB7.out)
    have T9 := iH (fun k o hk ho => (s9 k o hk (KB.out.heap (by simp) ho)).2)
    have R9 := iH r9; have P9 := iH p9
    obtain ⟨a9, q9, hs9⟩ := xqw ho9
    clear r9 p9 s9 ho9 hf9 hg9 hl9
    subst hs9
    refine hK.out _ _ S9.out.1 (fun hJ => ?_)
    clear hK K
    refine wpAnyH_take (i := 9) (oi := _) (v := .pointer (some ⟨h, 0, none⟩)) rfl (by kernel_rfl) (by kernel_rfl) (by kernel_rfl) (fun _ _ _ h => h) (Or.inl ⟨by rfl, fun V hV => by go_simp⟩) hJ ?_
    refine wpAnyH_take (i := 10) (oi := _) (v := .pointer (some ⟨h, 0, none⟩)) rfl (by kernel_rfl) (by kernel_rfl) (by kernel_rfl) (fun _ _ _ h => h) (Or.inl ⟨by rfl, fun V hV => by go_simp⟩) hJ ?_
    refine wr1 11 rfl (fun K hK => ?_)
    go_simp
    refine hK.out _ _ S9.out.2 (fun hJ => ?_)
    clear hK K
    refine wd ?_
    go_wp2_with fail
    go_meet
    exact ⟨_, _, rfl, R9.out, P9.out, HFY.out, T9.out⟩
   case wayD =>
   obtain ⟨wB, hwB⟩ : ∃ wB, wB = w6.alloc (.cells #[.int .i64 (L + 1), .int .i64 M, .slice a' l.length c', .int .i64 t] 38) := ⟨_, rfl⟩
   obtain ⟨xb, sb, bb, ar⟩ := tkPush A3.out ⟨L + 1, M, a', c', l, t⟩ K6.out hwB HRY.out
   have kB : Kept wf wB [] := by rw [hwB]; exact K6.out.alloc _
   have KB := iH kB
   have cB := kB.cell (p := ⟨h, 0, none⟩) (by simp) CV.out
   have SB7 := iH (kB.heap (by simp) HP.out.2.2)
   have XB := iH xb; have SB := iH sb; have BB := iH bb; have AR := iH ar
   clear xb sb bb ar kB
   refine xqt _ rfl 76 (.tmp 30) rfl 38 i0 _ 4 Tryz.underlying76 I.out.1 I.out.2.1 I.out.2.2.1 (by decide) (by decide) [.int .i64 (L + 1), .int .i64 M, .slice a' l.length c', .int .i64 t] rfl rfl ?_
   rw [<- hwB]
   clear hwB
   refine hK.out _ _ SB7.out (fun hJ => ?_)
   clear hK K
   refine wr1 4 rfl (fun K hK => ?_)
   go_simp
   clear cB
   refine hK.out _ _ SB7.out (fun hJ => ?_)
   clear hK K
   refine wr1 8 rfl (fun K hK => ?_)
   refine xqC _ rfl (.tmp 28) (.tmp 31) 76 76 rfl B 38 i0 _ 4 48 Tryz.underlying76 I.out.1 I.out.2.1 I.out.2.2.1 I.out.2.2.2 rfl (.slice u xs.length cp) xs.length (tcs xs) rfl XB.out _ 1 [.int .i64 (L + 1), .int .i64 M, .slice a' l.length c', .int .i64 t] rfl SB.out (by unfold maxLen; omega) (by omega) BB.out ?_
   intro v9 w9 ho9 hf9 hg9 hl9
   obtain ⟨⟨c9, f9⟩, r9, p9, s9⟩ := AR.out v9 w9 ho9 hg9 hl9
   have S9 := iH (s9 _ _ ZP.out.1 SB7.out)
   have T9 := iH (fun k o hk ho => (s9 k o hk (KB.out.heap (by simp) ho)).2)
   have R9 := iH r9; have P9 := iH p9
   obtain ⟨a9, q9, hs9⟩ := xqw ho9
   clear r9 p9 s9 ho9 hf9 hg9 hl9
   subst hs9
   refine hK.out _ _ S9.out.1 (fun hJ => ?_)
   clear hK K
   refine wpAnyH_take (i := 9) (oi := _) (v := .pointer (some ⟨h, 0, none⟩)) rfl (by kernel_rfl) (by kernel_rfl) (by kernel_rfl) (fun _ _ _ h => h) (Or.inl ⟨by rfl, fun V hV => by go_simp⟩) hJ ?_
   refine wpAnyH_take (i := 10) (oi := _) (v := .pointer (some ⟨h, 0, none⟩)) rfl (by kernel_rfl) (by kernel_rfl) (by kernel_rfl) (fun _ _ _ h => h) (Or.inl ⟨by rfl, fun V hV => by go_simp⟩) hJ ?_
   refine wr1 11 rfl (fun K hK => ?_)
   go_simp
   refine hK.out _ _ S9.out.2 (fun hJ => ?_)
   clear hK K
   refine wd ?_
   go_wp2_with fail
   go_meet
   exact ⟨_, _, rfl, R9.out, P9.out, HFY.out, T9.out⟩
  case rest =>
  obtain ⟨v9, x1, hx1, t9, s9, hf9, hfar⟩ := hcut.out
  obtain ⟨n1, M1, b1, d1, l1, t1⟩ := x1
  simp only [Tk.pl, Pt.mk.injEq] at hx1
  obtain ⟨e0, e1, e2, e3⟩ := hx1
  subst n1 M1 l1 t1
  have gp := hfar _ _ ZP.out.1 HP.out.2.2
  have gz := hfar _ _ (fun hk => by have h1 := (A3.out.lt _ hk).1; exact NF.out hk) ((K2.out.trans HP.out.1 (by simp)).heap (by simp) G1.out)
  have rA := R3.out.fo s9.1 A3.out.noI
  have OW2 := iH (own_any ⟨L + 1, M, va, vc, l, t⟩ wc rA.1 (by show l.length <= 10000000; omega))
  have T9 := iH t9; have P9 := iH s9; have HF9 := iH hf9; have GZ := iH gz
  obtain ⟨c0, c1, c2, c3⟩ := xqc gp
  clear hcut t9 s9 hf9 hfar gp gz rA
  simp only [Tk.cs] at OW2
  go_wp2_with fail
  refine OW2.out.mono ?_
  rintro e w7 ⟨y, rfl, hpl, hry, hfy, k7⟩
  obtain ⟨n', M', a', c', l', t'⟩ := y
  simp only [Tk.pl, Pt.mk.injEq] at hpl
  obtain ⟨e0, e1, e2, e3⟩ := hpl
  subst n' M' l' t'
  simp only [Tk.op] at *
  have g7 := k7.heap (by simp) GZ.out
  have K7 := iH k7; have HRY := iH hry; have HFY := iH hfy; have G7 := iH g7
  clear c0 c1 c2 c3 k7 hry hfy
  obtain ⟨c0, c1, c2, c3⟩ := xqc g7
  obtain ⟨f0, f1, f2, f3⟩ := xqf g7
  clear g7
  go_wp2
  refine bodyPost_ret (v := .tuple #[.agg #[.int .i64 (L + 1), .int .i64 M, .slice a' l.length c', .int .i64 t], .int .i64 0]) (by simp [results, Tryz.results78, go_sem, *]) rfl ?_
  exact AddPost.yes (x1 := ⟨L + 1, M, b1, d1, l, t⟩) (y := ⟨L + 1, M, a', c', l, t⟩) HE.out HL.out ((K1.out.trans K2.out (by simp)).trans HP.out.1 (by simp)) T9.out rfl P9.out HF9.out NF.out ZP.out.2 K7.out rfl HRY.out HFY.out G7.out _ _ _ _
 ·have x0 : (E != 0) = true := bne_iff_ne.2 h0
  have H0 := iH h0
  clear h0
  go_enter Tryz.func78, Tryz.ntmps78
  go_wp2_with fail
  rw [<- HW1.out]
  refine RF.out.mono ?_
  rintro e w2 ⟨rfl, k2⟩
  have K2 := iH k2
  have g2 := k2.heap (by simp) G1.out
  have G2 := iH g2
  obtain ⟨c0, c1, c2, c3⟩ := xqc g2
  obtain ⟨f0, f1, f2, f3⟩ := xqf g2
  clear g2 k2 j0 j1
  go_wp2
  refine bodyPost_ret (v := .tuple #[.agg #[.int .i64 0, .int .i64 0, .slice none 0 0, .int .i64 0], .int .i64 E]) (by simp [results, Tryz.results78, go_sem, *]) rfl ?_
  have f7 : Fo (fun k => k = w.heap.size + 1) w2 ((((w2.setCell ⟨w.heap.size + 1, 0, none⟩ (.int .i64 0)).setCell ⟨w.heap.size + 1, 1, none⟩ (.int .i64 0)).setCell ⟨w.heap.size + 1, 2, none⟩ (.slice none 0 0)).setCell ⟨w.heap.size + 1, 3, none⟩ (.int .i64 0)) := Fo.four (O := fun k => k = w.heap.size + 1) (Fo.refl _ w2) (g := w.heap.size + 1) (.inl rfl) _ _ _ _
  have n7 : NoI w2 (fun k => k = w.heap.size + 1) := by
   rintro k rfl cs fz hg
   rw [G2.out] at hg
   simp only [zT4, Option.some.injEq, Obj.cells.injEq] at hg
   exact absurd hg.2.1 (by decide)
  exact AddPost.no HE.out H0.out ((A1.out.keep K2.out).fo f7 (fun k hk e => by subst e; exact NF.out hk) n7) (Stp.ofKept ((K1.out.trans K2.out (by simp)).four (g := w.heap.size + 1) (.inr (by omega)) _ _ _ _))
end Go.Proofs.YticiofkiffgclaaGreat
