/-
  Zub in one text.
-/
import Derived.Test.YticiofkiffgclaaGreatQu0
import Derived.Test.YticiofkiffgclaaGreatQu37
import Derived.Deep.RegionHeld3
set_option linter.unusedVariables false
set_option maxHeartbeats 16000000
set_option maxRecDepth 100000
namespace Go.Proofs.YticiofkiffgclaaGreat
open Go.ChangeShapes Go.WideShapes Go.ChangeAt Go.RowKit
variable {w0 w w' : World} {a : Hk} {h m hx zb zr : Nat} {s1 s2 s1' s2' : List Nat} {q1 q2 q' : Qs} {O1 O2 : Nat -> Prop} {C R : Array Value}
theorem do_two {k : Nat} (bq : Bq w0 w a h m hx k) (hk : k < 1000) (D U Ky : Nat) (N : Int) (hD : D < 256) (hU : U < 256) (hK : Ky < 256) (hN : (Lit.int .i64 N).wf = true) (hc : D % 24 = 12 ∨ D % 24 = 13 ∨ D % 24 = 19 ∨ D % 24 = 20 ∨ D % 24 = 21 ∨ D % 24 = 22 ∨ D % 24 = 23) : Calls Tryz.prog 11 #[.pointer (some ⟨hx, 0, none⟩), .agg #[.int .u8 D, .int .u8 U, .int .u8 Ky, .int .i64 N]] w fun e w' => e = .returned (.bool true) /\ Bq w0 w' a h m hx (k + 1) := by
 obtain ⟨r4, hr4⟩ : ∃ r4, r4 = U % 4 := ⟨_, rfl⟩
 obtain ⟨r5, hr5⟩ : ∃ r5, r5 = Ky % 5 := ⟨_, rfl⟩
 obtain ⟨st, q, w1, w2, w3, w4, hw1, hw2, hw3, hw4, ⟨O2, d2⟩, s2, g3, g4, z, hl⟩ := do_in bq D U Ky r5 N
 obtain ⟨zb, hzb⟩ : ∃ zb, zb = w.heap.size := ⟨_, rfl⟩
 obtain ⟨zr, hzr⟩ : ∃ zr, zr = zb + 1 := ⟨_, rfl⟩
 rw [<- hzb] at s2 g3 g4
 rw [<- hzr] at g3 g4
 obtain ⟨ow, how⟩ : ∃ ow : Int, ow = (st.length : Int) - (r4 : Nat) := ⟨_, rfl⟩
 have hob : -100 <= ow /\ ow <= 100000 := by omega
 have wow : IntKind.i64.wrap ((st.length : Int) - (r4 : Nat)) = ow := by rw [<- how, IntKind.wrap_i64]; omega
 have wst : IntKind.i64.wrap ((st.length : Int) + 1 - 1) = (st.length : Int) := by rw [IntKind.wrap_i64]; omega
 have wst2 : IntKind.i64.wrap (st.length : Int) = (st.length : Int) := by rw [IntKind.wrap_i64]; omega
 obtain ⟨xu, xut, wu4, wu4'⟩ := tm4 hr4
 obtain ⟨xk, xkt, wk5, wk5'⟩ := tm5 hr5
 obtain ⟨xd, xdt⟩ := tm24 D
 have hz2 : zr = w2.heap.size := by rw [hw2, hw1, hzr, hzb]; show _ = (w.alloc _).heap.size; simp
 have OB := iH hob; have HSL := iH (show st.length <= 1000 by omega); have HKL := iH (show k <= 1000 by omega); have Z := iH z; have HL := iH hl; have D2 := iH d2; have S2 := iH s2; have G3 := iH g3; have G4 := iH g4
 have HW1 := iH hw1; have HW2 := iH hw2; have HW3 := iH hw3; have HW4 := iH hw4; have HZB := iH hzb; have HZR := iH hz2; have WN := iH hN; have HK := iH hk
 clear bq z hl d2 s2 g3 g4 hw1 hw2 hw3 hw4 hzb hzr hz2 how hob hN hk hD hr4 hr5
 obtain ⟨c, hcd⟩ : ∃ c : Int, c = ((D % 24 : Nat) : Int) := ⟨_, rfl⟩
 have hcc : (c = 12) ∨ (c = 13) ∨ (c = 19) ∨ (c = 20) ∨ (c = 21 ∨ c = 22) ∨ (c = 23) := by omega
 rw [<- hcd] at xd xdt
 have HC := iH hcc
 clear hc hcd hcc
 go_enter Tryz.func11, Tryz.ntmps11
 go_upto_region 1 with fail
 rw [<- HW1.out, <- HZB.out]
 refine wp_region_held_drew (S := fun Z => Z.heap[hx]? = some (.cells #[.pointer (some ⟨a.p, 0, none⟩), .pointer (some ⟨m, 0, none⟩), .pointer (some ⟨a.h, 0, none⟩), .pointer (some ⟨h, 0, none⟩)] runT (0, 0)) /\ Z.heap[zb]? = some (.cells #[.int .u8 D, .int .u8 U, .int .u8 Ky, .int .i64 N] 28 (0, 0))) (by kernel_rfl) (by rw [<- HW2.out]; exact S2.out) (fun hJ => ?_)
 rw [<- HW2.out] at hJ ⊢
 refine wx 0 32 (.pointer (some ⟨hx, 0, none⟩)) rfl hJ ?_
 refine wx 1 33 (.pointer (some ⟨hx, 0, none⟩)) rfl hJ ?_
 refine wx 2 34 (.pointer (some ⟨hx, 1, none⟩)) rfl hJ ?_
 refine wx 3 35 (.pointer (some ⟨m, 0, none⟩)) rfl hJ ?_ (hy := fun V hV => by (obtain ⟨u0, u1, u2, u3⟩ := xqd hV.1; go_simp))
 refine wx 6 38 (.pointer (some ⟨zb, 1, none⟩)) rfl hJ ?_
 refine wx 7 39 (.int .u8 U) rfl hJ ?_ (hy := fun V hV => by (obtain ⟨u0, u1, u2, u3⟩ := xqd hV.2; go_simp))
 refine wx 8 40 (.int .u8 (r4 : Nat)) rfl hJ ?_
 refine wx 9 41 (.int .i64 (r4 : Nat)) rfl hJ ?_
 refine wr1 4 rfl (fun K hK => ?_)
 go_simp
 go_at_call 48
 refine (dnext_any D2.out).mono ?_
 rintro e w2x ⟨rfl, hw⟩
 subst hw
 go_wp2_with fail
 refine hK.out _ _ S2.out (fun hJ => ?_)
 clear hK K
 refine wx 5 37 (.int .i64 (st.length : Int)) rfl hJ ?_
 refine wx 10 42 (.int .i64 ow) rfl hJ ?_
 refine wx 11 5 (.int .i64 ow) rfl hJ ?_
 refine wd ?_
 clear hJ
 clear wst wst2 wow wu4 wu4' xu xut
 obtain ⟨v0, v1, v2, v3⟩ := xqd S2.out.2
 go_upto_region 3 with fail
 rw [<- HW3.out, <- HZR.out]
 clear v0 v1 v2 v3 wk5 wk5' xk xkt
 obtain ⟨v0, v1, v2, v3⟩ := xqd G3.out.sg.2.1
 rcases HC.out with hc | hc | hc | hc | hc | hc
 ·as_aux_lemma =>
  clear HC
  subst hc
  obtain ⟨nm, hnm⟩ : ∃ nm, nm = nmQ U := ⟨_, rfl⟩
  have NM := iH hnm
  clear hnm
  go_upto_region 28 with fail
  clear v0 v1 v2 v3
  have hw4 := HW4.out
  subst hw4
  go_region_held3 (fun Z => Z.cell? ⟨hx, 0, none⟩ = some (.pointer (some ⟨a.p, 0, none⟩)) /\ Z.cell? ⟨hx, 1, none⟩ = some (.pointer (some ⟨m, 0, none⟩)) /\ Z.cell? ⟨hx, 2, none⟩ = some (.pointer (some ⟨a.h, 0, none⟩)) /\ Z.cell? ⟨hx, 3, none⟩ = some (.pointer (some ⟨h, 0, none⟩)) /\ Z.cell? ⟨zb, 0, none⟩ = some (.int .u8 D) /\ Z.cell? ⟨zb, 1, none⟩ = some (.int .u8 U) /\ Z.cell? ⟨zb, 2, none⟩ = some (.int .u8 Ky) /\ Z.cell? ⟨zb, 3, none⟩ = some (.int .i64 N) /\ Z.cell? ⟨zr, 0, none⟩ = some (.int .i64 (r5 : Nat)) /\ Z.cell? ⟨zr, 1, none⟩ = some (.string ⟨#[116]⟩)) (first | exact xqg G4.out.sg | exact xqg G5.out.sg | exact xqg G6.out.sg | exact xqg G7.out.sg | exact xqg G8.out.sg)
   (first | (go_at_call 57; have c5 := xqO ⟨D, U, Ky, N⟩ hU w3.drew; simp only [ActQ.cs] at c5; rw [<- NM.out] at c5; have C5 := iH c5; clear c5; refine C5.out.mono ?_; rintro e w5 ⟨rfl, p⟩; have G5 := iH (G4.out.keep p); clear p) | (go_at_call 16; obtain ⟨O6, k6, f6⟩ := G5.out.c; have c6 := krgs_any k6 Z.out HKL.out nm; have C6 := iH c6; have F6 := iH f6; clear k6 f6 c6; refine C6.out.mono ?_; rintro e w6 ⟨rfl, p⟩; have G6 := iH (F6.out _ _ p); clear p) | (go_at_call 57; have c7 := xqO ⟨D, U, Ky, N⟩ hU (w6); simp only [ActQ.cs] at c7; rw [<- NM.out] at c7; have C7 := iH c7; clear c7; refine C7.out.mono ?_; rintro e w7 ⟨rfl, p⟩; have G7 := iH (G6.out.keep p); clear p) | (go_at_call 58; obtain ⟨O8, k8, f8⟩ := G7.out.d; have c8 := drgs_any k8 Z.out nm; have C8 := iH c8; have F8 := iH f8; clear k8 f8 c8; refine C8.out.mono ?_; rintro e w8 ⟨rfl, p⟩; have G8 := iH (F8.out _ _ p); clear p))
  go_wp2
  go_ret
  exact ⟨rfl, G8.out.bq ((Z.out.rgs nm).mono (by omega)) (by have := HL.out; omega)⟩
 ·as_aux_lemma =>
  clear HC
  subst hc
  obtain ⟨nm, hnm⟩ : ∃ nm, nm = nmQ U := ⟨_, rfl⟩
  have NM := iH hnm
  clear hnm
  obtain ⟨s4, hs4⟩ : ∃ s : Nat, s = Ky % 4 := ⟨_, rfl⟩
  obtain ⟨xs, xst, ws, ws'⟩ := tm4 hs4
  clear hs4
  go_upto_region 30 with fail
  clear v0 v1 v2 v3
  by_cases hs0 : 0 < s4
  ·have y0 : (0 : Int) < (s4 : Int) := by omega
   refine wp_region_held_drew (S := Sg a h m hx zb #[.int .u8 D, .int .u8 U, .int .u8 Ky, .int .i64 N] zr #[.int .i64 (r5 : Nat), .string ⟨#[116]⟩]) (by kernel_rfl) (by rw [<- HW4.out]; exact G4.out.sg) (fun hJ => ?_)
   rw [<- HW4.out] at hJ ⊢
   refine wx 0 217 (.pointer (some ⟨zb, 2, none⟩)) rfl hJ ?_
   refine wx 1 218 (.int .u8 Ky) rfl hJ ?_ (hy := fun V hV => by (obtain ⟨u0, u1, u2, u3⟩ := xqd hV.2.1; go_simp))
   refine wx 2 219 (.int .u8 (s4 : Nat)) rfl hJ ?_
   refine wx 3 220 (.bool true) rfl hJ ?_
   refine wx 4 221 (.bool true) rfl hJ ?_
   refine wn 5 222 rfl hJ ?_
   refine wn 6 223 rfl hJ ?_
   refine wn 7 224 rfl hJ ?_
   refine wn 8 225 rfl hJ ?_
   refine wn 9 226 rfl hJ ?_
   refine wn 10 227 rfl hJ ?_
   refine wn 11 228 rfl hJ ?_
   refine wn 12 229 rfl hJ ?_
   refine wn 13 230 rfl hJ ?_
   refine wn 14 231 rfl hJ ?_
   refine wn 15 232 rfl hJ ?_
   refine wn 16 233 rfl hJ ?_
   refine wn 17 234 rfl hJ ?_
   refine wn 18 235 rfl hJ ?_
   refine wn 19 236 rfl hJ ?_
   refine wx 20 237 (.bool true) rfl hJ ?_
   refine wx 21 4 (.bool true) rfl hJ ?_
   refine wd ?_
   clear hJ
   go_wp2
   go_ret
   exact ⟨rfl, G4.out.bq (Z.out.mono (by omega)) (by have := HL.out; omega)⟩
  ·have y0 : ¬ (0 : Int) < (s4 : Int) := by omega
   have hw4 := HW4.out
   subst hw4
   go_region_held3 (fun Z => Z.cell? ⟨hx, 0, none⟩ = some (.pointer (some ⟨a.p, 0, none⟩)) /\ Z.cell? ⟨hx, 1, none⟩ = some (.pointer (some ⟨m, 0, none⟩)) /\ Z.cell? ⟨hx, 2, none⟩ = some (.pointer (some ⟨a.h, 0, none⟩)) /\ Z.cell? ⟨hx, 3, none⟩ = some (.pointer (some ⟨h, 0, none⟩)) /\ Z.cell? ⟨zb, 0, none⟩ = some (.int .u8 D) /\ Z.cell? ⟨zb, 1, none⟩ = some (.int .u8 U) /\ Z.cell? ⟨zb, 2, none⟩ = some (.int .u8 Ky) /\ Z.cell? ⟨zb, 3, none⟩ = some (.int .i64 N) /\ Z.cell? ⟨zr, 0, none⟩ = some (.int .i64 (r5 : Nat)) /\ Z.cell? ⟨zr, 1, none⟩ = some (.string ⟨#[116]⟩)) (first | exact xqg G4.out.sg | exact xqg G5.out.sg | exact xqg G6.out.sg | exact xqg G7.out.sg | exact xqg G8.out.sg)
    (first | (go_at_call 57; have c5 := xqO ⟨D, U, Ky, N⟩ hU w3.drew; simp only [ActQ.cs] at c5; rw [<- NM.out] at c5; have C5 := iH c5; clear c5; refine C5.out.mono ?_; rintro e w5 ⟨rfl, p⟩; have G5 := iH (G4.out.keep p); clear p) | (go_at_call 43; obtain ⟨O6, k6, f6⟩ := G5.out.c; have c6 := kurg_any k6 Z.out nm; have C6 := iH c6; have F6 := iH f6; clear k6 f6 c6; refine C6.out.mono ?_; rintro e w6 ⟨rfl, p⟩; have G6 := iH (F6.out _ _ p); clear p) | (go_at_call 57; have c7 := xqO ⟨D, U, Ky, N⟩ hU (w6); simp only [ActQ.cs] at c7; rw [<- NM.out] at c7; have C7 := iH c7; clear c7; refine C7.out.mono ?_; rintro e w7 ⟨rfl, p⟩; have G7 := iH (G6.out.keep p); clear p) | (go_at_call 59; obtain ⟨O8, k8, f8⟩ := G7.out.d; have c8 := durg_any k8 Z.out nm; have C8 := iH c8; have F8 := iH f8; clear k8 f8 c8; refine C8.out.mono ?_; rintro e w8 ⟨rfl, p⟩; have G8 := iH (F8.out _ _ p); clear p))
   go_wp2
   go_ret
   exact ⟨rfl, G8.out.bq ((Z.out.urg nm).mono (by omega)) (by have := HL.out; omega)⟩
 ·as_aux_lemma =>
  clear HC
  subst hc
  obtain ⟨nm, hnm⟩ : ∃ nm, nm = nmQ U := ⟨_, rfl⟩
  have NM := iH hnm
  clear hnm
  obtain ⟨s4, hs4⟩ : ∃ s : Nat, s = Ky % 20 := ⟨_, rfl⟩
  obtain ⟨xs, xst, ws, ws'⟩ := tm20 hs4
  clear hs4
  obtain ⟨n9, hn9⟩ : ∃ n9, n9 = N.tmod 9 := ⟨_, rfl⟩
  have xn9 : N.tmod 9 = n9 := hn9.symm
  clear hn9
  go_upto_region 47 with fail
  clear v0 v1 v2 v3
  have hw4 := HW4.out
  subst hw4
  go_region_held3 (fun Z => Z.cell? ⟨hx, 0, none⟩ = some (.pointer (some ⟨a.p, 0, none⟩)) /\ Z.cell? ⟨hx, 1, none⟩ = some (.pointer (some ⟨m, 0, none⟩)) /\ Z.cell? ⟨hx, 2, none⟩ = some (.pointer (some ⟨a.h, 0, none⟩)) /\ Z.cell? ⟨hx, 3, none⟩ = some (.pointer (some ⟨h, 0, none⟩)) /\ Z.cell? ⟨zb, 0, none⟩ = some (.int .u8 D) /\ Z.cell? ⟨zb, 1, none⟩ = some (.int .u8 U) /\ Z.cell? ⟨zb, 2, none⟩ = some (.int .u8 Ky) /\ Z.cell? ⟨zb, 3, none⟩ = some (.int .i64 N) /\ Z.cell? ⟨zr, 0, none⟩ = some (.int .i64 (r5 : Nat)) /\ Z.cell? ⟨zr, 1, none⟩ = some (.string ⟨#[116]⟩)) (first | exact xqg G4.out.sg | exact xqg G5.out.sg | exact xqg G6.out.sg | exact xqg G7.out.sg | exact xqg G8.out.sg)
   (first | (go_at_call 57; have c5 := xqO ⟨D, U, Ky, N⟩ hU w3.drew; simp only [ActQ.cs] at c5; rw [<- NM.out] at c5; have C5 := iH c5; clear c5; refine C5.out.mono ?_; rintro e w5 ⟨rfl, p⟩; have G5 := iH (G4.out.keep p); clear p) | (go_at_call 35; obtain ⟨O6, k6, f6⟩ := G5.out.c; have c6 := krty_any k6 Z.out HKL.out nm (s4 : Int) n9; have C6 := iH c6; have F6 := iH f6; clear k6 f6 c6; refine C6.out.mono ?_; rintro e w6 ⟨rfl, p⟩; have G6 := iH (F6.out _ _ p); clear p) | (go_at_call 57; have c7 := xqO ⟨D, U, Ky, N⟩ hU (w6); simp only [ActQ.cs] at c7; rw [<- NM.out] at c7; have C7 := iH c7; clear c7; refine C7.out.mono ?_; rintro e w7 ⟨rfl, p⟩; have G7 := iH (G6.out.keep p); clear p) | (go_at_call 64; obtain ⟨O8, k8, f8⟩ := G7.out.d; have c8 := drty_any k8 Z.out HKL.out nm (s4 : Int) n9; have C8 := iH c8; have F8 := iH f8; clear k8 f8 c8; refine C8.out.mono ?_; rintro e w8 ⟨rfl, p⟩; have G8 := iH (F8.out _ _ p); clear p))
  go_wp2
  go_ret
  exact ⟨rfl, G8.out.bq ((Z.out.rty st nm (s4 : Int) n9).mono (by omega)) (by have := HL.out; omega)⟩
 ·as_aux_lemma =>
  clear HC
  subst hc
  obtain ⟨n9, hn9⟩ : ∃ n9, n9 = N.tmod 9 := ⟨_, rfl⟩
  have xn9 : N.tmod 9 = n9 := hn9.symm
  clear hn9
  go_upto_region 49 with fail
  clear v0 v1 v2 v3
  refine wp_region_held_drew (S := Sg a h m hx zb #[.int .u8 D, .int .u8 U, .int .u8 Ky, .int .i64 N] zr #[.int .i64 (r5 : Nat), .string ⟨#[116]⟩]) (by kernel_rfl) (by rw [<- HW4.out]; exact G4.out.sg) (fun hJ => ?_)
  rw [<- HW4.out] at hJ ⊢
  have X4 := iH (Gx.of G4.out)
  obtain ⟨O5, k5, f5⟩ := X4.out.c
  have C5 := iH (kmnt_any k5 Z.out HKL.out ow n9); have F5 := iH f5
  clear k5 f5
  refine wx 0 360 (.pointer (some ⟨hx, 0, none⟩)) rfl hJ ?_
  refine wx 1 361 (.pointer (some ⟨hx, 0, none⟩)) rfl hJ ?_
  refine wx 2 362 (.pointer (some ⟨hx, 2, none⟩)) rfl hJ ?_
  refine wx 3 363 (.pointer (some ⟨a.h, 0, none⟩)) rfl hJ ?_ (hy := fun V hV => by (obtain ⟨u0, u1, u2, u3⟩ := xqd hV.1; go_simp))
  refine wx 4 364 (.int .i64 ow) rfl hJ ?_
  refine wx 5 365 (.pointer (some ⟨zb, 3, none⟩)) rfl hJ ?_
  refine wx 6 366 (.int .i64 N) rfl hJ ?_ (hy := fun V hV => by (obtain ⟨u0, u1, u2, u3⟩ := xqd hV.2.1; go_simp))
  refine wx 7 367 (.int .i64 n9) rfl hJ ?_
  refine wx 9 369 (.pointer (some ⟨hx, 0, none⟩)) rfl hJ ?_
  refine wx 10 370 (.pointer (some ⟨hx, 0, none⟩)) rfl hJ ?_
  refine wx 11 371 (.pointer (some ⟨hx, 3, none⟩)) rfl hJ ?_
  refine wx 12 372 (.pointer (some ⟨h, 0, none⟩)) rfl hJ ?_ (hy := fun V hV => by (obtain ⟨u0, u1, u2, u3⟩ := xqd hV.1; go_simp))
  refine wx 13 373 (.int .i64 ow) rfl hJ ?_
  refine wx 14 374 (.pointer (some ⟨zb, 3, none⟩)) rfl hJ ?_
  refine wx 15 375 (.int .i64 N) rfl hJ ?_ (hy := fun V hV => by (obtain ⟨u0, u1, u2, u3⟩ := xqd hV.2.1; go_simp))
  refine wx 16 376 (.int .i64 n9) rfl hJ ?_
  refine wr1 8 rfl (fun K hK => ?_)
  go_simp
  go_at_call 36
  refine (C5.out).mono ?_
  rintro e w5 ⟨v5, rfl, ow5, p⟩
  obtain ⟨x5, -, -⟩ := F5.out _ _ p
  have X5 := iH x5; have OW5 := iH ow5
  clear x5 ow5 p hJ
  obtain ⟨O6, k6, f6⟩ := X5.out.d
  have C6 := iH (dmnt_any k6 Z.out HKL.out ow n9); have F6 := iH f6
  clear k6 f6
  go_wp2_with fail
  refine hK.out _ _ X5.out.sg (fun hJ => ?_)
  clear hK K
  refine wr1 17 rfl (fun K hK => ?_)
  go_simp
  go_at_call 65
  refine (C6.out).mono ?_
  rintro e w6 ⟨v6, rfl, ow6, p⟩
  obtain ⟨x6, -, -, hk6⟩ := F6.out _ _ p
  have X6 := iH x6; have R6 := iH ow6.rd
  have Q6 := iH (hk6 _ _ _ _ OW5.out (fun g hg => .inr (OW5.out.lt g hg))).rd
  clear x6 ow6 p hk6 hJ
  have C7 := iH (same_any Q6.out R6.out (by have := mntV_len Z.out ow n9; omega))
  go_wp2_with fail
  refine hK.out _ _ X6.out.sg (fun hJ => ?_)
  clear hK K
  refine wr1 18 rfl (fun K hK => ?_)
  go_simp
  go_at_call 62
  refine (C7.out).mono ?_
  rintro e w7 ⟨rfl, p⟩
  have G7 := iH (X6.out.gd.keep p)
  clear p hJ
  go_wp2_with fail
  refine hK.out _ _ G7.out.sg (fun hJ => ?_)
  clear hK K
  refine wx 19 4 (.bool true) rfl hJ ?_
  refine wd ?_
  clear hJ
  go_wp2
  go_ret
  exact ⟨rfl, G7.out.bq (Z.out.mnt OB.out n9) (by have := HL.out; omega)⟩
 ·rcases hc with hc | hc
  all_goals
  as_aux_lemma =>
  clear HC
  subst hc
  obtain ⟨r1, hr1⟩ : ∃ r1, r1 = (rotQ st q).1 := ⟨_, rfl⟩
  obtain ⟨r2, hr2⟩ : ∃ r2, r2 = (rotQ st q).2.1 := ⟨_, rfl⟩
  obtain ⟨fb, hfb⟩ : ∃ fb, fb = freQ st q := ⟨_, rfl⟩
  have HR1 := iH hr1; have HR2 := iH hr2; have HFB := iH hfb
  clear hr1 hr2 hfb
  go_upto_region 52 with fail
  clear v0 v1 v2 v3
  obtain ⟨O5, k5, f5⟩ := G3.out.c
  have c5 := krot_any k5 Z.out HKL.out
  rw [<- HR1.out, <- HR2.out] at c5
  have C5 := iH c5; have F5 := iH f5
  clear k5 f5 c5
  obtain ⟨u0, u1, u2, u3⟩ := xqd G3.out.sg.1
  go_wp2_with fail
  refine C5.out.mono ?_
  rintro e w5 ⟨rfl, p⟩
  have G5 := iH (F5.out _ _ p)
  clear p u0 u1 u2 u3
  go_upto_region 53 with fail
  have G6 := iH (G5.out.keep ((Kept.refl w5 []).drew))
  go_region_held3 (fun Z => Z.cell? ⟨hx, 0, none⟩ = some (.pointer (some ⟨a.p, 0, none⟩)) /\ Z.cell? ⟨hx, 1, none⟩ = some (.pointer (some ⟨m, 0, none⟩)) /\ Z.cell? ⟨hx, 2, none⟩ = some (.pointer (some ⟨a.h, 0, none⟩)) /\ Z.cell? ⟨hx, 3, none⟩ = some (.pointer (some ⟨h, 0, none⟩)) /\ Z.cell? ⟨zb, 0, none⟩ = some (.int .u8 D) /\ Z.cell? ⟨zb, 1, none⟩ = some (.int .u8 U) /\ Z.cell? ⟨zb, 2, none⟩ = some (.int .u8 Ky) /\ Z.cell? ⟨zb, 3, none⟩ = some (.int .i64 N) /\ Z.cell? ⟨zr, 0, none⟩ = some (.int .i64 (r5 : Nat)) /\ Z.cell? ⟨zr, 1, none⟩ = some (.string ⟨#[116]⟩)) (first | exact xqg G6.out.sg | exact xqg G7.out.sg | exact xqg G8.out.sg)
   (first | (go_at_call 67; obtain ⟨O7, k7, f7⟩ := G6.out.d; have c7 := dfre_any k7 Z.out HKL.out; rw [<- HFB.out] at c7; have C7 := iH c7; clear k7 f7 c7; refine C7.out.mono ?_; rintro e w7 ⟨rfl, p⟩; have G7 := iH (G6.out.keep p); clear p) | (go_at_call 66; obtain ⟨O8, k8, f8⟩ := G7.out.d; have c8 := drot_any k8; rw [<- HR1.out, <- HR2.out, <- HFB.out] at c8; have C8 := iH c8; have F8 := iH f8; clear k8 f8 c8; refine C8.out.mono ?_; rintro e w8 ⟨rfl, p⟩; have G8 := iH (F8.out _ _ p); clear p))
  go_wp2
  go_ret
  exact ⟨rfl, G8.out.bq ((Z.out.rot st).mono (by omega)) (by have := HL.out; omega)⟩
 as_aux_lemma =>
 clear HC
 subst hc
 obtain ⟨tn, htn⟩ : ∃ tn, tn = trmN q := ⟨_, rfl⟩
 obtain ⟨lo, hlo⟩ : ∃ lo, lo = lowQ q := ⟨_, rfl⟩
 have HTN := iH htn; have HLO := iH hlo
 clear htn hlo
 go_upto_region 55 with fail
 clear v0 v1 v2 v3
 have hw4 := HW4.out
 subst hw4
 go_region_held3 (fun Z => Z.cell? ⟨hx, 0, none⟩ = some (.pointer (some ⟨a.p, 0, none⟩)) /\ Z.cell? ⟨hx, 1, none⟩ = some (.pointer (some ⟨m, 0, none⟩)) /\ Z.cell? ⟨hx, 2, none⟩ = some (.pointer (some ⟨a.h, 0, none⟩)) /\ Z.cell? ⟨hx, 3, none⟩ = some (.pointer (some ⟨h, 0, none⟩)) /\ Z.cell? ⟨zb, 0, none⟩ = some (.int .u8 D) /\ Z.cell? ⟨zb, 1, none⟩ = some (.int .u8 U) /\ Z.cell? ⟨zb, 2, none⟩ = some (.int .u8 Ky) /\ Z.cell? ⟨zb, 3, none⟩ = some (.int .i64 N) /\ Z.cell? ⟨zr, 0, none⟩ = some (.int .i64 (r5 : Nat)) /\ Z.cell? ⟨zr, 1, none⟩ = some (.string ⟨#[116]⟩)) (first | exact xqg G4.out.sg | exact xqg G5.out.sg | exact xqg G6.out.sg | exact xqg G7.out.sg)
  (first | (go_at_call 28; obtain ⟨O5, k5, f5⟩ := G4.out.c; have c5 := ktrm_any k5 Z.out HKL.out; rw [<- HTN.out] at c5; have C5 := iH c5; have F5 := iH f5; clear k5 f5 c5; refine C5.out.mono ?_; rintro e w5 ⟨rfl, p⟩; have G5 := iH (F5.out _ _ p); clear p) | (go_at_call 69; obtain ⟨O6, k6, f6⟩ := G5.out.d; have c6 := dlow_any k6 Z.out; rw [<- HLO.out] at c6; have C6 := iH c6; clear k6 f6 c6; refine C6.out.mono ?_; rintro e w6 ⟨rfl, p⟩; have G6 := iH (G5.out.keep p); clear p) | (go_at_call 68; obtain ⟨O7, k7, f7⟩ := G6.out.d; have c7 := dtrm_any k7 Z.out; rw [<- HTN.out, <- HLO.out] at c7; have C7 := iH c7; have F7 := iH f7; clear k7 f7 c7; refine C7.out.mono ?_; rintro e w7 ⟨rfl, p⟩; have G7 := iH (F7.out _ _ p); clear p))
 go_wp2
 go_ret
 exact ⟨rfl, G7.out.bq (Z.out.trm.mono (by omega)) (by have := HL.out; omega)⟩
end Go.Proofs.YticiofkiffgclaaGreat
