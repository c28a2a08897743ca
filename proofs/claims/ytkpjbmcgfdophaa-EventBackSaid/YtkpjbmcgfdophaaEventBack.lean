/-
  Proved: whatever the arguments are, carrierlaw09.EventBack answers true and leaves its arguments as they were. No condition.
-/
import Derived.Test.YtkpjbmcgfdophaaEk
import Derived.ProofKit
import Derived.OpenShut
import Derived.ShutString
import Derived.ChangeOld
import Derived.Below
import Derived.Lib.SmallJoins
import Derived.Deep.DeepCutAuto
namespace Go.Proofs.Ytkpjbmcgfdophaa.eventBack
open Go.ChangeShapes Go.WideShapes Go.ChangeAt Go.RowKit
open Go.ChangeMaps (open_string shut_string)
set_option linter.unusedVariables false

theorem own : ownKnob Try.prog.godebug = none := by kernel_rfl
theorem laidOut : laidOutB Try.prog = true := by kernel_rfl

set_option maxHeartbeats 4000000 in
set_option maxRecDepth 100000 in
theorem walk (a0 a1 : Int) (a2 : ByteArray) (a3 a4 a5 a6 : Int) (b6 : ByteArray) (w0 : (Lit.int .i64 a0).wf = true) (w1 : (Lit.int .i64 a1).wf = true) (w2 : a2.size ≤ maxLen) (w3 : (Lit.int .i64 a3).wf = true) (w4 : (Lit.int .u8 a4).wf = true) (w5 : (Lit.int .u8 a5).wf = true) (w6 : (Lit.int .i64 a6).wf = true) (u6 : b6.size ≤ maxLen) (W : World) :
    Calls Try.prog 3 #[.int .i64 a0, .int .i64 a1, .string a2, .int .i64 a3, .int .u8 a4, .int .u8 a5, .agg #[.int .i64 a6, .string b6]] W fun e w' => e = .returned (.bool true) ∧ Below W.heap.size W w' := by
  have Bd := Lib.hid (And.intro (bounds_i64 w0) (And.intro (bounds_i64 w1) (And.intro (bounds_i64 w6) (And.intro (bounds_u8 w4) (bounds_u8 w5)))))
  clear w0 w1 w2 w3 w4 w5 w6 u6
  by_cases h1 : (60 : Int) < (a2.size : Int)
  · skip
    go_enter Try.func3, Try.ntmps3
    go_wp2_with fail
    refine (nine_any _).mono ?_
    rintro e w1 ⟨rfl, hk⟩
    have K := Lib.hid (((Kept.refl W []).alloc _).trans hk (by simp))
    have y1 := hk.cell (p := ⟨W.heap.size, 1, none⟩) (by simp) (show (W.alloc (.cells #[.int .i64 a6, .string b6] 23)).cell? ⟨W.heap.size, 1, none⟩ = some (.string b6) by simp)
    clear hk
    go_wp2_with fail
    refine (nine_any _).mono ?_
    rintro e w2 ⟨rfl, hk⟩
    have K2 := Lib.hid (K.out.trans hk (by simp)); clear hk
    go_wp2
    go_ret
    exact ⟨rfl, K2.out.below (Nat.le_refl _) (by simp)⟩
  by_cases h2 : (60 : Int) < (b6.size : Int)
  · skip
    go_enter Try.func3, Try.ntmps3
    go_wp2_with fail
    refine (nine_any _).mono ?_
    rintro e w1 ⟨rfl, hk⟩
    have K := Lib.hid (((Kept.refl W []).alloc _).trans hk (by simp))
    have y1 := hk.cell (p := ⟨W.heap.size, 1, none⟩) (by simp) (show (W.alloc (.cells #[.int .i64 a6, .string b6] 23)).cell? ⟨W.heap.size, 1, none⟩ = some (.string b6) by simp)
    clear hk
    go_wp2_with fail
    refine (nine_any _).mono ?_
    rintro e w2 ⟨rfl, hk⟩
    have K2 := Lib.hid (K.out.trans hk (by simp)); clear hk
    go_wp2
    go_ret
    exact ⟨rfl, K2.out.below (Nat.le_refl _) (by simp)⟩
  have hR := ofE_right a0 a1 a2 a3 a4 a5 a6 b6
  have hO := ofE_ok (ow := a2) (tr := a3) (tb := a4) (kd := a5) (t := b6) Bd.out.1.2 Bd.out.2.1.2 Bd.out.2.2.1
  have HO := fun V => of_any a0 a1 a2 a3 a4 a5 a6 b6 V Bd.out.2.2.2.2 Bd.out.2.2.2.1
  obtain ⟨⟨b0, b1, b2, b3, b4, b5, b6', b7⟩, hE⟩ : ∃ E, E = ofE a0 a1 a2 a3 a4 a5 a6 b6 := ⟨_, rfl⟩
  rw [← hE] at hR hO HO
  obtain ⟨L, hL⟩ : ∃ L, L = Ev.encL ⟨b0, b1, b2, b3, b4, b5, b6', b7⟩ := ⟨_, rfl⟩
  have hLl : L.length ≤ 200 := by rw [hL]; exact Ev.encL_len hR hO
  have HO : RowKit.Hid (∀ V, Calls Try.prog 10 #[.int .i64 a0, .int .i64 a1, .string a2, .int .i64 a3, .int .u8 a4, .int .u8 a5, .agg #[.int .i64 a6, .string b6]] V fun e w' => e = .returned (.agg #[.int .i64 b0, .int .i64 b1, .string b2, .int .i64 b3, .int .i64 b4, .int .u8 b5, .int .i64 b6', .string b7]) ∧ Kept V w' []) := Lib.hid HO
  have HE : RowKit.Hid (∀ V, Calls Try.prog 11 #[.agg #[.int .i64 b0, .int .i64 b1, .string b2, .int .i64 b3, .int .i64 b4, .int .u8 b5, .int .i64 b6', .string b7]] V fun e w' => ∃ v', e = .returned v' ∧ Own w' V.heap.size 5 v' L ∧ Kept V w' []) := Lib.hid (fun V => by rw [hL]; exact encode_any _ hR hO V)
  have HF : RowKit.Hid (∀ V, Calls Try.prog 15 #[.agg #[.int .i64 b0, .int .i64 b1, .string b2, .int .i64 b3, .int .i64 b4, .int .u8 b5, .int .i64 b6', .string b7]] V fun e w' => ∃ v', e = .returned v' ∧ Own w' V.heap.size 5 v' L ∧ Kept V w' []) := Lib.hid (fun V => by rw [hL]; exact refencode_any _ hR hO V)
  have HRt : RowKit.Hid (∀ V, Calls Try.prog 13 #[.agg #[.int .i64 b0, .int .i64 b1, .string b2, .int .i64 b3, .int .i64 b4, .int .u8 b5, .int .i64 b6', .string b7]] V fun e w' => e = .returned (.bool true) ∧ Kept V w' []) := Lib.hid (fun V => by
    have := right_any ⟨b0, b1, b2, b3, b4, b5, b6', b7⟩ V
    rw [(Ev.rightB_iff _).2 hR] at this
    exact this)
  have HD : RowKit.Hid (∀ v V, Rd V v L → Calls Try.prog 12 #[v] V fun e w' => e = .returned (.tuple #[.agg #[.int .i64 b0, .int .i64 b1, .string b2, .int .i64 b3, .int .i64 b4, .int .u8 b5, .int .i64 b6', .string b7], .int .i64 0]) ∧ Kept V w' []) := Lib.hid (fun v V h => by
    have := decode_any v L V h (by omega)
    rw [(dec_same L).1, (dec_same L).2, hL, (dec_back hR hO).1, (dec_back hR hO).2] at this
    exact this)
  have QE := ev_eq b0 b1 b2 b3 b4 b5 b6' b7
  have HLl := Lib.hid hLl
  clear hR hO hE hL hLl
  go_enter Try.func3, Try.ntmps3
  go_wp2_with fail
  refine (nine_any _).mono ?_
  rintro e w1 ⟨rfl, hk⟩
  have K1 := Lib.hid (((Kept.refl W []).alloc _).trans hk (by simp))
  have y0 := hk.cell (p := ⟨W.heap.size, 0, none⟩) (by simp) (show (W.alloc (.cells #[.int .i64 a6, .string b6] 23)).cell? ⟨W.heap.size, 0, none⟩ = some (.int .i64 a6) by simp)
  have y1 := hk.cell (p := ⟨W.heap.size, 1, none⟩) (by simp) (show (W.alloc (.cells #[.int .i64 a6, .string b6] 23)).cell? ⟨W.heap.size, 1, none⟩ = some (.string b6) by simp)
  clear hk
  go_wp2_with fail
  refine (HO.out _).mono ?_
  rintro e w2 ⟨rfl, k2⟩
  have K2 := Lib.hid (K1.out.trans k2 (by simp))
  clear k2 y0 y1
  go_wp2_with fail
  refine (HE.out _).mono ?_
  rintro e w3 ⟨v3, rfl, o3, k3⟩
  have hb3 := k3.heap (by simp) (heap_alloc_new w2 (.cells #[.int .i64 b0, .int .i64 b1, .string b2, .int .i64 b3, .int .i64 b4, .int .u8 b5, .int .i64 b6', .string b7] 26))
  have K3 := Lib.hid ((K2.out.alloc _).trans k3 (by simp))
  have HB3 := Lib.hid hb3; have O3 := Lib.hid o3.rd
  clear k3 o3 hb3
  go_wp2_with fail
  refine (HD.out _ _ O3.out).mono ?_
  rintro e w4 ⟨rfl, k4⟩
  have hb4 := ((Kept.refl w4 []).alloc (.cells #[.int .i64 b0, .int .i64 b1, .string b2, .int .i64 b3, .int .i64 b4, .int .u8 b5, .int .i64 b6', .string b7] 26)).heap (by simp) (k4.heap (by simp) HB3.out)
  have hc4 := heap_alloc_new w4 (.cells #[.int .i64 b0, .int .i64 b1, .string b2, .int .i64 b3, .int .i64 b4, .int .u8 b5, .int .i64 b6', .string b7] 26)
  have k5 := k4.alloc (.cells #[.int .i64 b0, .int .i64 b1, .string b2, .int .i64 b3, .int .i64 b4, .int .u8 b5, .int .i64 b6', .string b7] 26)
  have K5 := Lib.hid (K3.out.trans k5 (by simp))
  have O5 := Lib.hid (O3.out.kept k5 (by simp))
  have HB5 := Lib.hid hb4; have HC5 := Lib.hid hc4
  have hlt : w2.heap.size < w4.heap.size := Nat.lt_of_lt_of_le (Array.getElem?_eq_some_iff.1 HB3.out).1 k4.size
  obtain ⟨w5, hw5⟩ : ∃ w5, w5 = w4.alloc (.cells #[.int .i64 b0, .int .i64 b1, .string b2, .int .i64 b3, .int .i64 b4, .int .u8 b5, .int .i64 b6', .string b7] 26) := ⟨_, rfl⟩
  rw [← hw5] at K5 O5 HB5 HC5
  have p := fun j => cell_of_row w5 w2.heap.size j _ _ _ HB5.out
  have p0 := p 0; have p1 := p 1; have p2 := p 2; have p3 := p 3; have p4 := p 4; have p5 := p 5; have p6 := p 6; have p7 := p 7
  simp at p0 p1 p2 p3 p4 p5 p6 p7
  clear k4 hb4 hc4 k5 p
  go_upto_region 6 with fail
  rw [← hw5]
  clear hw5
  go_wp2_with fail
  refine (HRt.out _).mono ?_
  rintro e w6 ⟨rfl, k6⟩
  have K6 := Lib.hid (K5.out.trans k6 (by simp))
  have O6 := Lib.hid (O5.out.kept k6 (by simp))
  have HB6 := Lib.hid (k6.heap (by simp) HB5.out); have HC6 := Lib.hid (k6.heap (by simp) HC5.out)
  have p := fun j => cell_of_row w6 w2.heap.size j _ _ _ HB6.out
  have q0 := p 0; have q1 := p 1; have q2 := p 2; have q3 := p 3; have q4 := p 4; have q5 := p 5; have q6 := p 6; have q7 := p 7
  simp at q0 q1 q2 q3 q4 q5 q6 q7
  clear k6 p p0 p1 p2 p3 p4 p5 p6 p7
  go_wp2_with fail
  refine (HF.out _).mono ?_
  rintro e w7 ⟨v7, rfl, o7, k7⟩
  have K7 := Lib.hid (K6.out.trans k7 (by simp))
  have O7 := Lib.hid (O6.out.kept k7 (by simp)); have P7 := Lib.hid o7.rd
  have HB7 := Lib.hid (k7.heap (by simp) HB6.out); have HC7 := Lib.hid (k7.heap (by simp) HC6.out)
  clear k7 o7 q0 q1 q2 q3 q4 q5 q6 q7
  go_wp2_with fail
  refine (alike_any _ _ L L w7 O7.out P7.out (by have := HLl.out; omega)).mono ?_
  rintro e w8 ⟨rfl, k8⟩
  have hLL : (L == L) = true := by simp
  have HB8 := k8.heap (by simp) HB7.out; have HC8 := k8.heap (by simp) HC7.out
  have K8 := Lib.hid (K7.out.trans k8 (by simp))
  clear k8
  have p1_0 := cell_of_row w8 w2.heap.size 0 _ _ _ HB8
  have p1_1 := cell_of_row w8 w2.heap.size 1 _ _ _ HB8
  have p1_2 := cell_of_row w8 w2.heap.size 2 _ _ _ HB8
  have p1_3 := cell_of_row w8 w2.heap.size 3 _ _ _ HB8
  have p1_4 := cell_of_row w8 w2.heap.size 4 _ _ _ HB8
  have p1_5 := cell_of_row w8 w2.heap.size 5 _ _ _ HB8
  have p1_6 := cell_of_row w8 w2.heap.size 6 _ _ _ HB8
  have p1_7 := cell_of_row w8 w2.heap.size 7 _ _ _ HB8
  simp at p1_0 p1_1 p1_2 p1_3 p1_4 p1_5 p1_6 p1_7
  have p2_0 := cell_of_row w8 w4.heap.size 0 _ _ _ HC8
  have p2_1 := cell_of_row w8 w4.heap.size 1 _ _ _ HC8
  have p2_2 := cell_of_row w8 w4.heap.size 2 _ _ _ HC8
  have p2_3 := cell_of_row w8 w4.heap.size 3 _ _ _ HC8
  have p2_4 := cell_of_row w8 w4.heap.size 4 _ _ _ HC8
  have p2_5 := cell_of_row w8 w4.heap.size 5 _ _ _ HC8
  have p2_6 := cell_of_row w8 w4.heap.size 6 _ _ _ HC8
  have p2_7 := cell_of_row w8 w4.heap.size 7 _ _ _ HC8
  simp at p2_0 p2_1 p2_2 p2_3 p2_4 p2_5 p2_6 p2_7
  clear HB8 HC8
  go_wp2
  go_ret
  exact ⟨rfl, K8.out.below (Nat.le_refl _) (by simp)⟩

set_option maxRecDepth 100000 in
theorem lifted (os : Os) (started : os.Started) (H : Type) (enc : TypeId × Value → H) :
    ReturnsInHanded {} Try.checked os 3 .any (Rows.eventBackSpec.pre6 enc Try.prog Try.f3 Rows.eventBackRow.domain false) (Rows.eventBackSpec.post enc Try.prog Try.f3 false true false false) := by
  refine returnsInHanded_of_change (C := Try.checked) own started (by kernel_rfl) Try.func3
    (ChangeSpec.witness6 (enc := enc) (C := Try.checked) false ⟨#[], #[.int .i64 0, .int .i64 0, .string ByteArray.empty, .int .i64 0, .int .u8 0, .int .u8 0, .agg #[.int .i64 0, .string ByteArray.empty]], []⟩ 8 (by kernel_rfl) (by kernel_rfl) (by kernel_rfl) (by kernel_rfl)) ?_
  intro W base args ds gs before hval0 hW hcnd _
  have hval : ∀ (j : Nat) t v, Try.f3.params[j]? = some t → args[j]? = some v → Value.okWide Try.prog W .any base t v := hval0
  have hW' := hW
  obtain ⟨p, q, hA0, hV, rfl, hfz, hnd⟩ := hW
  have hA : DataW.TrodAll enc Try.prog W 0 (fun _ => true) true Try.f3.params.toList args.toList ds p := hA0
  rw [Try.params3] at hA hval
  obtain ⟨v0, vs0, d0, ds0, p0, q0, hargs, rfl, rfl, h0, r0⟩ := trodAll_cons hA
  obtain ⟨v1, vs1, d1, ds1, p1, q1, rfl, rfl, rfl, h1, r1⟩ := trodAll_cons r0
  obtain ⟨v2, vs2, d2, ds2, p2, q2, rfl, rfl, rfl, h2, r2⟩ := trodAll_cons r1
  obtain ⟨v3, vs3, d3, ds3, p3, q3, rfl, rfl, rfl, h3, r3⟩ := trodAll_cons r2
  obtain ⟨v4, vs4, d4, ds4, p4, q4, rfl, rfl, rfl, h4, r4⟩ := trodAll_cons r3
  obtain ⟨v5, vs5, d5, ds5, p5, q5, rfl, rfl, rfl, h5, r5⟩ := trodAll_cons r4
  obtain ⟨v6, vs6, d6, ds6, p6, q6, rfl, rfl, rfl, h6, r6⟩ := trodAll_cons r5
  obtain ⟨rfl, rfl, rfl⟩ := trodAll_nil r6
  obtain rfl : args = #[v0, v1, v2, v3, v4, v5, v6] := by cases args; simp_all
  obtain ⟨rfl, rfl⟩ := trodVars_none hV
  obtain ⟨a0, rfl, rfl, rfl, w0⟩ := open_int Try.underlying2 (hval 0 2 v0 rfl rfl) h0
  obtain ⟨a1, rfl, rfl, rfl, w1⟩ := open_int Try.underlying2 (hval 1 2 v1 rfl rfl) h1
  obtain ⟨a2, rfl, rfl, rfl, w2⟩ := open_string Try.underlying9 (hval 2 9 v2 rfl rfl) h2
  obtain ⟨a3, rfl, rfl, rfl, w3⟩ := open_int Try.underlying3 (hval 3 3 v3 rfl rfl) h3
  obtain ⟨a4, rfl, rfl, rfl, w4⟩ := open_int Try.underlying5 (hval 4 5 v4 rfl rfl) h4
  obtain ⟨a5, rfl, rfl, rfl, w5⟩ := open_int Try.underlying5 (hval 5 5 v5 rfl rfl) h5
  obtain ⟨x6, z6, y6, yy6, m6, rfl, rfl, rfl, hy6, hz6⟩ := Joins.open_agg2 Try.underlying23 (by kernel_rfl) (show Try.prog.cellsOf 23 = 2 by kernel_rfl) (hval 6 23 v6 rfl rfl) h6
  obtain ⟨a6, e6, rfl, w6⟩ := DataW.trod_int Try.underlying2 hy6
  obtain ⟨b6, g6, rfl, u6⟩ := DataW.trod_string Try.underlying9 hz6
  simp at e6 g6
  subst e6 g6
  clear hA0 hval0
  simp only [List.append_nil] at hW'
  refine (walk a0 a1 a2 a3 a4 a5 a6 b6 w0 w1 w2 w3 w4 w5 w6 u6 W).mono fun e W' ⟨he, bel⟩ => ?_
  subst he
  exact ⟨_, rfl, _, _, _, [], _, [], hW', trodAll_mk1 (shut_bool Try.underlying4 _), (trodAll_cons_mk (shut_int Try.underlying2 w0) (trodAll_cons_mk (shut_int Try.underlying2 w1) (trodAll_cons_mk (shut_string Try.underlying9 w2) (trodAll_cons_mk (shut_int Try.underlying3 w3) (trodAll_cons_mk (shut_int Try.underlying5 w4) (trodAll_cons_mk (shut_int Try.underlying5 w5) (trodAll_cons_mk (Joins.shut_agg2 (P := Try.prog) (y0 := (.lit (.int .i64 a6), [])) (y1 := (.lit (.string b6.data.toList), [])) Try.underlying23 (by kernel_rfl) (show Try.prog.cellsOf 23 = 2 by kernel_rfl) ⟨1, by simp [DataW.trod, Try.underlying2, w6]⟩ ⟨1, by simp [DataW.trod, Try.underlying9, u6]⟩) trodAll_mk0))))))), rfl, bel.frame _, fun h => by cases h⟩

theorem over : Rows.eventBackRow.holds Try.pinned (OpenSpec.ofChange Rows.eventBackSpec) :=
  OpenClaim.holds_of_wide 3 Try.f3 rfl rfl rfl rfl rfl rfl rfl ⟨rfl, rfl, rfl, rfl, rfl⟩ rfl rfl rfl rfl rfl (by kernel_rfl) Try.func3 (by kernel_rfl)
    (of_decide_eq_true (by kernel_rfl)) (by unfold Func.isWrapper; first | (rw [if_pos (by decide +kernel)]; kernel_rfl) | (rw [if_neg (by decide +kernel)]; exact ⟨rfl, rfl⟩))
    (fun os started H enc _ => lifted os started H enc)

theorem proved : Rows.EventBackSaid :=
  over
end Go.Proofs.Ytkpjbmcgfdophaa.eventBack

namespace Go.Proofs.Ytkpjbmcgfdophaa
theorem eventBack_holds : Rows.EventBackSaid := eventBack.proved
#print axioms eventBack_holds
end Go.Proofs.Ytkpjbmcgfdophaa

