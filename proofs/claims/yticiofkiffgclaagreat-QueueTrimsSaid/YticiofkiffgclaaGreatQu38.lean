/-
  Zua in one text.
-/
import Derived.Test.YticiofkiffgclaaGreatQu0
import Derived.Test.YticiofkiffgclaaGreatQu37
import Derived.Deep.RegionHeld3
set_option linter.unusedVariables false
set_option maxHeartbeats 16000000
set_option maxRecDepth 100000
namespace Go.Proofs.YticiofkiffgclaaGreat
open Go.ChangeShapes Go.WideShapes Go.ChangeAt Go.RowKit
variable {w0 w w' : World} {a : Hk} {h m hx zb zr : Nat} {s1 s2 s1' s2' : List Nat} {q1 q2 q' : Qs} {O1 O2 : Nat -> Prop} {C R : Array Value}
theorem do_one {k : Nat} (bq : Bq w0 w a h m hx k) (hk : k < 1000) (D U Ky : Nat) (N : Int) (hD : D < 256) (hU : U < 256) (hK : Ky < 256) (hN : (Lit.int .i64 N).wf = true) (hc : D % 24 = 0 ∨ D % 24 = 1 ∨ D % 24 = 2 ∨ D % 24 = 3 ∨ D % 24 = 4 ∨ D % 24 = 5 ∨ D % 24 = 6 ∨ D % 24 = 7 ∨ D % 24 = 8 ∨ D % 24 = 16 ∨ D % 24 = 17 ∨ D % 24 = 18) : Calls Tryz.prog 11 #[.pointer (some ⟨hx, 0, none⟩), .agg #[.int .u8 D, .int .u8 U, .int .u8 Ky, .int .i64 N]] w fun e w' => e = .returned (.bool true) /\ Bq w0 w' a h m hx (k + 1) := by
 obtain ⟨r4, hr4⟩ : ∃ r4, r4 = U % 4 := ⟨_, rfl⟩
 obtain ⟨r5, hr5⟩ : ∃ r5, r5 = Ky % 5 := ⟨_, rfl⟩
 obtain ⟨st, q, w1, w2, w3, w4, hw1, hw2, hw3, hw4, ⟨O2, d2⟩, s2, g3, g4, z, hl⟩ := do_in bq D U Ky r5 N
 obtain ⟨zb, hzb⟩ : ∃ zb, zb = w.heap.size := ⟨_, rfl⟩
 obtain ⟨zr, hzr⟩ : ∃ zr, zr = zb + 1 := ⟨_, rfl⟩
 rw [<- hzb] at s2 g3 g4
 rw [<- hzr] at g3 g4
 obtain ⟨ow, how⟩ : ∃ ow : Int, ow = (st.length : Int) - (r4 : Nat) := ⟨_, rfl⟩
 have hob : -100 <= ow /\ ow <= 100000 := by omega
 have wow : IntKind.i64.wrap ((st.length : Int) - (r4 : Nat)) = ow := by rw [<- how, IntKind.wrap_i64]; omega
 have wst : IntKind.i64.wrap ((st.length : Int) + 1 - 1) = (st.length : Int) := by rw [IntKind.wrap_i64]; omega
 have wst2 : IntKind.i64.wrap (st.length : Int) = (st.length : Int) := by rw [IntKind.wrap_i64]; omega
 obtain ⟨xu, xut, wu4, wu4'⟩ := tm4 hr4
 obtain ⟨xk, xkt, wk5, wk5'⟩ := tm5 hr5
 obtain ⟨xd, xdt⟩ := tm24 D
 have hz2 : zr = w2.heap.size := by rw [hw2, hw1, hzr, hzb]; show _ = (w.alloc _).heap.size; simp
 have OB := iH hob; have HSL := iH (show st.length <= 1000 by omega); have HKL := iH (show k <= 1000 by omega); have Z := iH z; have HL := iH hl; have D2 := iH d2; have S2 := iH s2; have G3 := iH g3; have G4 := iH g4
 have HW1 := iH hw1; have HW2 := iH hw2; have HW3 := iH hw3; have HW4 := iH hw4; have HZB := iH hzb; have HZR := iH hz2; have WN := iH hN; have HK := iH hk
 clear bq z hl d2 s2 g3 g4 hw1 hw2 hw3 hw4 hzb hzr hz2 how hob hN hk hD hr4 hr5
 obtain ⟨c, hcd⟩ : ∃ c : Int, c = ((D % 24 : Nat) : Int) := ⟨_, rfl⟩
 have hcc : (c = 0 ∨ c = 1) ∨ (c = 2 ∨ c = 3 ∨ c = 4 ∨ c = 5) ∨ (c = 6 ∨ c = 7) ∨ (c = 8) ∨ (c = 16 ∨ c = 17) ∨ (c = 18) := by omega
 rw [<- hcd] at xd xdt
 have HC := iH hcc
 clear hc hcd hcc
 go_enter Tryz.func11, Tryz.ntmps11
 go_upto_region 1 with fail
 rw [<- HW1.out, <- HZB.out]
 refine wp_region_held_drew (S := fun Z => Z.heap[hx]? = some (.cells #[.pointer (some ⟨a.p, 0, none⟩), .pointer (some ⟨m, 0, none⟩), .pointer (some ⟨a.h, 0, none⟩), .pointer (some ⟨h, 0, none⟩)] runT (0, 0)) /\ Z.heap[zb]? = some (.cells #[.int .u8 D, .int .u8 U, .int .u8 Ky, .int .i64 N] 28 (0, 0))) (by kernel_rfl) (by rw [<- HW2.out]; exact S2.out) (fun hJ => ?_)
 rw [<- HW2.out] at hJ ⊢
 refine wx 0 32 (.pointer (some ⟨hx, 0, none⟩)) rfl hJ ?_
 refine wx 1 33 (.pointer (some ⟨hx, 0, none⟩)) rfl hJ ?_
 refine wx 2 34 (.pointer (some ⟨hx, 1, none⟩)) rfl hJ ?_
 refine wx 3 35 (.pointer (some ⟨m, 0, none⟩)) rfl hJ ?_ (hy := fun V hV => by (obtain ⟨u0, u1, u2, u3⟩ := xqd hV.1; go_simp))
 refine wx 6 38 (.pointer (some ⟨zb, 1, none⟩)) rfl hJ ?_
 refine wx 7 39 (.int .u8 U) rfl hJ ?_ (hy := fun V hV => by (obtain ⟨u0, u1, u2, u3⟩ := xqd hV.2; go_simp))
 refine wx 8 40 (.int .u8 (r4 : Nat)) rfl hJ ?_
 refine wx 9 41 (.int .i64 (r4 : Nat)) rfl hJ ?_
 refine wr1 4 rfl (fun K hK => ?_)
 go_simp
 go_at_call 48
 refine (dnext_any D2.out).mono ?_
 rintro e w2x ⟨rfl, hw⟩
 subst hw
 go_wp2_with fail
 refine hK.out _ _ S2.out (fun hJ => ?_)
 clear hK K
 refine wx 5 37 (.int .i64 (st.length : Int)) rfl hJ ?_
 refine wx 10 42 (.int .i64 ow) rfl hJ ?_
 refine wx 11 5 (.int .i64 ow) rfl hJ ?_
 refine wd ?_
 clear hJ
 clear wst wst2 wow wu4 wu4' xu xut
 obtain ⟨v0, v1, v2, v3⟩ := xqd S2.out.2
 go_upto_region 3 with fail
 rw [<- HW3.out, <- HZR.out]
 clear v0 v1 v2 v3 wk5 wk5' xk xkt
 obtain ⟨v0, v1, v2, v3⟩ := xqd G3.out.sg.2.1
 rcases HC.out with hc | hc | hc | hc | hc | hc
 ·rcases hc with hc | hc
  all_goals
  as_aux_lemma =>
  clear HC
  subst hc
  go_upto_region 6 with fail
  clear v0 v1 v2 v3
  obtain ⟨O5, k5, f5⟩ := G3.out.cm
  have C5 := iH (kbegin_any k5 HSL.out); have F5 := iH f5; have SG := iH G3.out.sg
  clear k5 f5
  obtain ⟨u0, u1, u2, u3⟩ := xqd SG.out.1
  go_wp2_with fail
  refine C5.out.mono ?_
  rintro e w5 ⟨rfl, p⟩
  have G5 := iH (F5.out _ _ p)
  clear p u0 u1 u2 u3
  obtain ⟨O6, k6, f6⟩ := G5.out.dm
  have C6 := iH (dbegin_any k6 HSL.out); have F6 := iH f6
  clear k6 f6
  obtain ⟨u0, u1, u2, u3⟩ := xqd G5.out.sg.1
  go_wp2_with fail
  refine C6.out.mono ?_
  rintro e w6 ⟨rfl, p⟩
  have G6 := iH (F6.out _ _ p)
  clear p u0 u1 u2 u3
  go_wp2_with fail
  refine (qfirst_any _ _ _).mono ?_
  rintro e w7 ⟨rfl, hw⟩
  subst hw
  go_wp2
  go_ret
  exact ⟨rfl, G6.out.bq (Z.out.mono (by omega)) (by have := begS_len st; have := HL.out; omega)⟩
 ·rcases hc with hc | hc | hc | hc
  all_goals
  as_aux_lemma =>
  clear HC
  subst hc
  obtain ⟨s4, hs4⟩ : ∃ s : Nat, s = Ky % 4 := ⟨_, rfl⟩
  obtain ⟨xs, xst, ws, ws'⟩ := tm4 hs4
  have wu := tm4u hs4
  clear hs4
  obtain ⟨E, hE⟩ : ∃ E, E = wriV q ow (s4 : Int) (1 + (s4 : Int)) (r5 : Int) ⟨#[116]⟩ := ⟨_, rfl⟩
  have HE := iH hE
  clear hE
  go_upto_region 13 with fail
  clear v0 v1 v2 v3
  have hw4 := HW4.out
  subst hw4
  go_region_held3 (fun Z => Z.cell? ⟨hx, 0, none⟩ = some (.pointer (some ⟨a.p, 0, none⟩)) /\ Z.cell? ⟨hx, 1, none⟩ = some (.pointer (some ⟨m, 0, none⟩)) /\ Z.cell? ⟨hx, 2, none⟩ = some (.pointer (some ⟨a.h, 0, none⟩)) /\ Z.cell? ⟨hx, 3, none⟩ = some (.pointer (some ⟨h, 0, none⟩)) /\ Z.cell? ⟨zb, 0, none⟩ = some (.int .u8 D) /\ Z.cell? ⟨zb, 1, none⟩ = some (.int .u8 U) /\ Z.cell? ⟨zb, 2, none⟩ = some (.int .u8 Ky) /\ Z.cell? ⟨zb, 3, none⟩ = some (.int .i64 N) /\ Z.cell? ⟨zr, 0, none⟩ = some (.int .i64 (r5 : Nat)) /\ Z.cell? ⟨zr, 1, none⟩ = some (.string ⟨#[116]⟩)) (first | exact xqg G4.out.sg | exact xqg G5.out.sg | exact xqg G6.out.sg)
   (first | (go_at_call 20; obtain ⟨O5, k5, f5⟩ := G4.out.c; have c5 := kwri_any k5 Z.out HKL.out ow (s4 : Int) (1 + (s4 : Int)) (r5 : Int) ⟨#[116]⟩; rw [<- HE.out] at c5; simp only [Ev.cs] at c5; have C5 := iH c5; have F5 := iH f5; clear k5 f5 c5; refine C5.out.mono ?_; rintro e w5 ⟨rfl, p⟩; have G5 := iH (F5.out _ _ p); clear p) | (go_at_call 51; obtain ⟨O6, k6, f6⟩ := G5.out.d; have c6 := dwri_any k6 Z.out HKL.out ow (s4 : Int) (1 + (s4 : Int)) (r5 : Int) ⟨#[116]⟩; rw [<- HE.out] at c6; simp only [Ev.cs] at c6; have C6 := iH c6; have F6 := iH f6; clear k6 f6 c6; refine C6.out.mono ?_; rintro e w6 ⟨rfl, p⟩; have G6 := iH (F6.out _ _ p); clear p))
  go_wp2
  go_ret
  exact ⟨rfl, G6.out.bq ((Z.out.wri HK.out OB.out _ _ _ _).1) (by have := HL.out; omega)⟩
 ·rcases hc with hc | hc
  all_goals
  as_aux_lemma =>
  clear HC
  subst hc
  obtain ⟨E, hE⟩ : ∃ E, E = endE st ow := ⟨_, rfl⟩
  have HE := iH hE
  have WO := iH (show (Lit.int .i64 ow).wf = true from ow_wf OB.out)
  clear hE
  go_upto_region 16 with fail
  clear v0 v1 v2 v3
  have hw4 := HW4.out
  subst hw4
  go_region_held3 (fun Z => Z.cell? ⟨hx, 0, none⟩ = some (.pointer (some ⟨a.p, 0, none⟩)) /\ Z.cell? ⟨hx, 1, none⟩ = some (.pointer (some ⟨m, 0, none⟩)) /\ Z.cell? ⟨hx, 2, none⟩ = some (.pointer (some ⟨a.h, 0, none⟩)) /\ Z.cell? ⟨hx, 3, none⟩ = some (.pointer (some ⟨h, 0, none⟩)) /\ Z.cell? ⟨zb, 0, none⟩ = some (.int .u8 D) /\ Z.cell? ⟨zb, 1, none⟩ = some (.int .u8 U) /\ Z.cell? ⟨zb, 2, none⟩ = some (.int .u8 Ky) /\ Z.cell? ⟨zb, 3, none⟩ = some (.int .i64 N) /\ Z.cell? ⟨zr, 0, none⟩ = some (.int .i64 (r5 : Nat)) /\ Z.cell? ⟨zr, 1, none⟩ = some (.string ⟨#[116]⟩)) (first | exact xqg G4.out.sg | exact xqg G5.out.sg | exact xqg G6.out.sg)
   (first | (go_at_call 21; obtain ⟨O5, k5, f5⟩ := G4.out.cm; have c5 := kcommit_any k5 ow WO.out; rw [<- HE.out] at c5; have C5 := iH c5; have F5 := iH f5; clear k5 f5 c5; refine C5.out.mono ?_; rintro e w5 ⟨rfl, p⟩; have G5 := iH (F5.out _ _ p); clear p) | (go_at_call 52; obtain ⟨O6, k6, f6⟩ := G5.out.dm; have c6 := (show Calls Tryz.prog 52 #[.pointer (some ⟨m, 0, none⟩), .int .i64 ow, .int .u8 2] w5 fun e w' => e = .returned (.int .i64 (endE st ow)) /\ DMPost w5 w0.heap.size h m (endS st ow 2) q O6 w' from dend_any k6 ow 2 (by decide)); rw [<- HE.out] at c6; have C6 := iH c6; have F6 := iH f6; clear k6 f6 c6; refine C6.out.mono ?_; rintro e w6 ⟨rfl, p⟩; have G6 := iH (F6.out _ _ p); clear p))
  go_wp2
  go_ret
  exact ⟨rfl, G6.out.bq (Z.out.mono (by omega)) (by have := endS_len st ow 2; have := HL.out; omega)⟩
 ·as_aux_lemma =>
  clear HC
  subst hc
  obtain ⟨E, hE⟩ : ∃ E, E = endE st ow := ⟨_, rfl⟩
  have HE := iH hE
  have WO := iH (show (Lit.int .i64 ow).wf = true from ow_wf OB.out)
  clear hE
  obtain ⟨f0, hf0⟩ : ∃ f0, f0 = frgN q ow := ⟨_, rfl⟩
  have HF0 := iH hf0
  clear hf0
  go_upto_region 18 with fail
  clear v0 v1 v2 v3
  have hw4 := HW4.out
  subst hw4
  go_region_held3 (fun Z => Z.cell? ⟨hx, 0, none⟩ = some (.pointer (some ⟨a.p, 0, none⟩)) /\ Z.cell? ⟨hx, 1, none⟩ = some (.pointer (some ⟨m, 0, none⟩)) /\ Z.cell? ⟨hx, 2, none⟩ = some (.pointer (some ⟨a.h, 0, none⟩)) /\ Z.cell? ⟨hx, 3, none⟩ = some (.pointer (some ⟨h, 0, none⟩)) /\ Z.cell? ⟨zb, 0, none⟩ = some (.int .u8 D) /\ Z.cell? ⟨zb, 1, none⟩ = some (.int .u8 U) /\ Z.cell? ⟨zb, 2, none⟩ = some (.int .u8 Ky) /\ Z.cell? ⟨zb, 3, none⟩ = some (.int .i64 N) /\ Z.cell? ⟨zr, 0, none⟩ = some (.int .i64 (r5 : Nat)) /\ Z.cell? ⟨zr, 1, none⟩ = some (.string ⟨#[116]⟩)) (first | exact xqg G4.out.sg | exact xqg G5.out.sg | exact xqg G6.out.sg)
   (first | (go_at_call 22; obtain ⟨O5, k5, f5⟩ := G4.out.cm; have c5 := kabort_any k5 ow WO.out; rw [<- HE.out] at c5; have C5 := iH c5; have F5 := iH f5; clear k5 f5 c5; refine C5.out.mono ?_; rintro e w5 ⟨rfl, p⟩; have G5 := iH (F5.out _ _ p); clear p) | (go_at_call 52; obtain ⟨O6, k6, f6⟩ := G5.out.dm; have c6 := (show Calls Tryz.prog 52 #[.pointer (some ⟨m, 0, none⟩), .int .i64 ow, .int .u8 3] w5 fun e w' => e = .returned (.int .i64 (endE st ow)) /\ DMPost w5 w0.heap.size h m (endS st ow 3) q O6 w' from dend_any k6 ow 3 (by decide)); rw [<- HE.out] at c6; have C6 := iH c6; have F6 := iH f6; clear k6 f6 c6; refine C6.out.mono ?_; rintro e w6 ⟨rfl, p⟩; have G6 := iH (F6.out _ _ p); clear p))
  go_upto_region 20 with fail
  have G7 := iH (G6.out.keep ((Kept.refl w6 []).drew))
  go_region_held3 (fun Z => Z.cell? ⟨hx, 0, none⟩ = some (.pointer (some ⟨a.p, 0, none⟩)) /\ Z.cell? ⟨hx, 1, none⟩ = some (.pointer (some ⟨m, 0, none⟩)) /\ Z.cell? ⟨hx, 2, none⟩ = some (.pointer (some ⟨a.h, 0, none⟩)) /\ Z.cell? ⟨hx, 3, none⟩ = some (.pointer (some ⟨h, 0, none⟩)) /\ Z.cell? ⟨zb, 0, none⟩ = some (.int .u8 D) /\ Z.cell? ⟨zb, 1, none⟩ = some (.int .u8 U) /\ Z.cell? ⟨zb, 2, none⟩ = some (.int .u8 Ky) /\ Z.cell? ⟨zb, 3, none⟩ = some (.int .i64 N) /\ Z.cell? ⟨zr, 0, none⟩ = some (.int .i64 (r5 : Nat)) /\ Z.cell? ⟨zr, 1, none⟩ = some (.string ⟨#[116]⟩)) (first | exact xqg G7.out.sg | exact xqg G8.out.sg | exact xqg G9.out.sg)
   (first | (go_at_call 23; obtain ⟨O8, k8, f8⟩ := G7.out.c; have c8 := kfrg_any k8 Z.out HKL.out ow; rw [<- HF0.out] at c8; have C8 := iH c8; have F8 := iH f8; clear k8 f8 c8; refine C8.out.mono ?_; rintro e w8 ⟨rfl, p⟩; have G8 := iH (F8.out _ _ p); clear p) | (go_at_call 53; obtain ⟨O9, k9, f9⟩ := G8.out.d; have c9 := dfrg_any k9 Z.out HKL.out ow; rw [<- HF0.out] at c9; have C9 := iH c9; have F9 := iH f9; clear k9 f9 c9; refine C9.out.mono ?_; rintro e w9 ⟨rfl, p⟩; have G9 := iH (F9.out _ _ p); clear p))
  go_wp2
  go_ret
  exact ⟨rfl, G9.out.bq ((Z.out.frg ow).mono (by omega)) (by have := endS_len st ow 3; have := HL.out; omega)⟩
 ·rcases hc with hc | hc
  all_goals
  as_aux_lemma =>
  clear HC
  subst hc
  obtain ⟨nm, hnm⟩ : ∃ nm, nm = nmQ U := ⟨_, rfl⟩
  have NM := iH hnm
  clear hnm
  obtain ⟨VE, hVE⟩ : ∃ VE, VE = batE q nm := ⟨_, rfl⟩
  have HVE := iH hVE
  clear hVE
  go_upto_region 38 with fail
  clear v0 v1 v2 v3
  have hw4 := HW4.out
  subst hw4
  go_region_held3 (fun Z => Z.cell? ⟨hx, 0, none⟩ = some (.pointer (some ⟨a.p, 0, none⟩)) /\ Z.cell? ⟨hx, 1, none⟩ = some (.pointer (some ⟨m, 0, none⟩)) /\ Z.cell? ⟨hx, 2, none⟩ = some (.pointer (some ⟨a.h, 0, none⟩)) /\ Z.cell? ⟨hx, 3, none⟩ = some (.pointer (some ⟨h, 0, none⟩)) /\ Z.cell? ⟨zb, 0, none⟩ = some (.int .u8 D) /\ Z.cell? ⟨zb, 1, none⟩ = some (.int .u8 U) /\ Z.cell? ⟨zb, 2, none⟩ = some (.int .u8 Ky) /\ Z.cell? ⟨zb, 3, none⟩ = some (.int .i64 N) /\ Z.cell? ⟨zr, 0, none⟩ = some (.int .i64 (r5 : Nat)) /\ Z.cell? ⟨zr, 1, none⟩ = some (.string ⟨#[116]⟩)) (first | exact xqg G4.out.sg | exact xqg G5.out.sg | exact xqg G6.out.sg)
   (first | (go_at_call 57; have c5 := xqO ⟨D, U, Ky, N⟩ hU w3.drew; simp only [ActQ.cs] at c5; rw [<- NM.out] at c5; have C5 := iH c5; clear c5; refine C5.out.mono ?_; rintro e w5 ⟨rfl, p⟩; have G5 := iH (G4.out.keep p); clear p) | (go_at_call 30; obtain ⟨O6, k6, f6⟩ := G5.out.c; have c6 := kbat_any k6 Z.out HKL.out nm; rw [<- HVE.out] at c6; have C6 := iH c6; clear k6 f6 c6; refine C6.out.mono ?_; rintro e w6 ⟨v6, rfl, ow6, p⟩; have G6 := iH (G5.out.keep p); have R6 := iH ow6.rd; clear ow6; clear p))
  go_upto_region 39 with fail
  have R7 := iH (R6.out.kept ((Kept.refl w6 []).drew) (by simp))
  have G7 := iH (G6.out.keep ((Kept.refl w6 []).drew))
  go_region_held3 (fun Z => Z.cell? ⟨hx, 0, none⟩ = some (.pointer (some ⟨a.p, 0, none⟩)) /\ Z.cell? ⟨hx, 1, none⟩ = some (.pointer (some ⟨m, 0, none⟩)) /\ Z.cell? ⟨hx, 2, none⟩ = some (.pointer (some ⟨a.h, 0, none⟩)) /\ Z.cell? ⟨hx, 3, none⟩ = some (.pointer (some ⟨h, 0, none⟩)) /\ Z.cell? ⟨zb, 0, none⟩ = some (.int .u8 D) /\ Z.cell? ⟨zb, 1, none⟩ = some (.int .u8 U) /\ Z.cell? ⟨zb, 2, none⟩ = some (.int .u8 Ky) /\ Z.cell? ⟨zb, 3, none⟩ = some (.int .i64 N) /\ Z.cell? ⟨zr, 0, none⟩ = some (.int .i64 (r5 : Nat)) /\ Z.cell? ⟨zr, 1, none⟩ = some (.string ⟨#[116]⟩)) (first | exact xqg G7.out.sg | exact xqg G8.out.sg | exact xqg G9.out.sg)
   (first | (go_at_call 57; have c8 := xqO ⟨D, U, Ky, N⟩ hU w6.drew; simp only [ActQ.cs] at c8; rw [<- NM.out] at c8; have C8 := iH c8; clear c8; refine C8.out.mono ?_; rintro e w8 ⟨rfl, p⟩; have G8 := iH (G7.out.keep p); have R8 := iH (R7.out.kept p (by simp)); clear p) | (go_at_call 61; obtain ⟨O9, k9, f9⟩ := G8.out.d; have c9 := dbat_any k9 Z.out HKL.out nm; rw [<- HVE.out] at c9; have C9 := iH c9; clear k9 f9 c9; refine C9.out.mono ?_; rintro e w9 ⟨v9, rfl, ow9, p⟩; have G9 := iH (G8.out.keep p); have R9 := iH ow9.rd; have Q9 := iH (R8.out.kept p (by simp)); clear ow9; clear p))
  have SL := iH (same_any_g6 Q9.out R9.out (by have := (Z.out.bat st nm).1; have := HKL.out; omega))
  go_wp2_with fail
  refine SL.out.mono ?_
  rintro e w10 ⟨rfl, p⟩
  have G10 := iH (G9.out.keep p)
  clear p
  go_wp2
  go_ret
  exact ⟨rfl, G10.out.bq (Z.out.mono (by omega)) (by have := HL.out; omega)⟩
 as_aux_lemma =>
 clear HC
 subst hc
 obtain ⟨nm, hnm⟩ : ∃ nm, nm = nmQ U := ⟨_, rfl⟩
 have NM := iH hnm
 clear hnm
 go_upto_region 42 with fail
 clear v0 v1 v2 v3
 have hw4 := HW4.out
 subst hw4
 go_region_held3 (fun Z => Z.cell? ⟨hx, 0, none⟩ = some (.pointer (some ⟨a.p, 0, none⟩)) /\ Z.cell? ⟨hx, 1, none⟩ = some (.pointer (some ⟨m, 0, none⟩)) /\ Z.cell? ⟨hx, 2, none⟩ = some (.pointer (some ⟨a.h, 0, none⟩)) /\ Z.cell? ⟨hx, 3, none⟩ = some (.pointer (some ⟨h, 0, none⟩)) /\ Z.cell? ⟨zb, 0, none⟩ = some (.int .u8 D) /\ Z.cell? ⟨zb, 1, none⟩ = some (.int .u8 U) /\ Z.cell? ⟨zb, 2, none⟩ = some (.int .u8 Ky) /\ Z.cell? ⟨zb, 3, none⟩ = some (.int .i64 N) /\ Z.cell? ⟨zr, 0, none⟩ = some (.int .i64 (r5 : Nat)) /\ Z.cell? ⟨zr, 1, none⟩ = some (.string ⟨#[116]⟩)) (first | exact xqg G4.out.sg | exact xqg G5.out.sg | exact xqg G6.out.sg)
  (first | (go_at_call 57; have c5 := xqO ⟨D, U, Ky, N⟩ hU w3.drew; simp only [ActQ.cs] at c5; rw [<- NM.out] at c5; have C5 := iH c5; clear c5; refine C5.out.mono ?_; rintro e w5 ⟨rfl, p⟩; have G5 := iH (G4.out.keep p); clear p) | (go_at_call 31; obtain ⟨O6, k6, f6⟩ := G5.out.c; have c6 := kfns_any k6 Z.out nm; have C6 := iH c6; have F6 := iH f6; clear k6 f6 c6; refine C6.out.mono ?_; rintro e w6 ⟨rfl, p⟩; have G6 := iH (F6.out _ _ p); clear p))
 go_upto_region 43 with fail
 have G7 := iH (G6.out.keep ((Kept.refl w6 []).drew))
 go_region_held3 (fun Z => Z.cell? ⟨hx, 0, none⟩ = some (.pointer (some ⟨a.p, 0, none⟩)) /\ Z.cell? ⟨hx, 1, none⟩ = some (.pointer (some ⟨m, 0, none⟩)) /\ Z.cell? ⟨hx, 2, none⟩ = some (.pointer (some ⟨a.h, 0, none⟩)) /\ Z.cell? ⟨hx, 3, none⟩ = some (.pointer (some ⟨h, 0, none⟩)) /\ Z.cell? ⟨zb, 0, none⟩ = some (.int .u8 D) /\ Z.cell? ⟨zb, 1, none⟩ = some (.int .u8 U) /\ Z.cell? ⟨zb, 2, none⟩ = some (.int .u8 Ky) /\ Z.cell? ⟨zb, 3, none⟩ = some (.int .i64 N) /\ Z.cell? ⟨zr, 0, none⟩ = some (.int .i64 (r5 : Nat)) /\ Z.cell? ⟨zr, 1, none⟩ = some (.string ⟨#[116]⟩)) (first | exact xqg G7.out.sg | exact xqg G8.out.sg | exact xqg G9.out.sg)
  (first | (go_at_call 57; have c8 := xqO ⟨D, U, Ky, N⟩ hU w6.drew; simp only [ActQ.cs] at c8; rw [<- NM.out] at c8; have C8 := iH c8; clear c8; refine C8.out.mono ?_; rintro e w8 ⟨rfl, p⟩; have G8 := iH (G7.out.keep p); clear p) | (go_at_call 63; obtain ⟨O9, k9, f9⟩ := G8.out.d; have c9 := dfns_any k9 Z.out nm; have C9 := iH c9; have F9 := iH f9; clear k9 f9 c9; refine C9.out.mono ?_; rintro e w9 ⟨rfl, p⟩; have G9 := iH (F9.out _ _ p); clear p))
 go_wp2_with fail
 refine (qfirst_any _ _ _).mono ?_
 rintro e wz ⟨rfl, hw⟩
 subst hw
 go_wp2
 go_ret
 exact ⟨rfl, G9.out.bq ((Z.out.fns nm).mono (by omega)) (by have := HL.out; omega)⟩
end Go.Proofs.YticiofkiffgclaaGreat
