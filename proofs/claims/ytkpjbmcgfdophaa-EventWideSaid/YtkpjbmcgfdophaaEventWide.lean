/-
  Proved: whatever the arguments are, carrierlaw09.EventWide answers true and leaves its arguments as they were. No condition.
-/
import Derived.Test.YtkpjbmcgfdophaaEj
import Derived.ProofKit
import Derived.OpenShut
import Derived.ChangeOld
import Derived.Below
namespace Go.Proofs.Ytkpjbmcgfdophaa.eventWide
open Go.ChangeShapes Go.WideShapes Go.ChangeAt Go.RowKit
set_option linter.unusedVariables false

theorem own : ownKnob Try.prog.godebug = none := by kernel_rfl
theorem laidOut : laidOutB Try.prog = true := by kernel_rfl

set_option maxHeartbeats 4000000 in
set_option maxRecDepth 100000 in
theorem walk (a0 a1 a2 a3 a4 : Int) (w0 : (Lit.int .u64 a0).wf = true) (w1 : (Lit.int .u64 a1).wf = true) (w2 : (Lit.int .u64 a2).wf = true) (w3 : (Lit.int .u64 a3).wf = true) (w4 : (Lit.int .u64 a4).wf = true) (W : World) :
    Calls Try.prog 7 #[.int .u64 a0, .int .u64 a1, .int .u64 a2, .int .u64 a3, .int .u64 a4] W fun e w' => e = .returned (.bool true) ∧ Below W.heap.size W w' := by
  obtain ⟨i0, hi, hz0, hz1, hz2⟩ := info_parts Try.infoB
  have B0 := Lib.hid (bounds_u64 w0); have B1 := Lib.hid (bounds_u64 w1); have B2 := Lib.hid (bounds_u64 w2); have B3 := Lib.hid (bounds_u64 w3); have B4 := Lib.hid (bounds_u64 w4)
  have t0 := numL_ten (n := a0.toNat) (by have := B0.out; omega)
  have t1 := numL_ten (n := a1.toNat) (by have := B1.out; omega)
  have t2 := numL_ten (n := a2.toNat) (by have := B2.out; omega)
  have t3 := numL_ten (n := a3.toNat) (by have := B3.out; omega)
  have t4 := numL_ten (n := a4.toNat) (by have := B4.out; omega)
  clear w0 w1 w2 w3 w4
  go_enter Try.func7, Try.ntmps7
  go_wp2_with fail
  refine (res_num W W a0 (Kept.refl W []) (by have := B0.out; omega)).mono ?_
  rintro e w5 ⟨v5, rfl, o5, k5, -⟩
  have O5 := Lib.hid o5.rd; have K5 := Lib.hid k5; clear o5 k5
  go_wp2_with fail
  refine (res_num W w5 a1 K5.out (by have := B1.out; omega)).mono ?_
  rintro e w6 ⟨v6, rfl, o6, k6, q6⟩
  have O6 := Lib.hid o6.rd; have K6 := Lib.hid k6; have Q6 := Lib.hid (q6 _ _ O5.out); clear o6 k6 q6
  go_wp2_with fail
  refine (res_join W w6 _ _ _ _ K6.out Q6.out O6.out (by omega) (by omega)).mono ?_
  rintro e w7 ⟨v7, rfl, ho, hk, -⟩
  obtain ⟨L7, hL7⟩ : ∃ L, L = numL a0.toNat ++ numL a1.toNat := ⟨_, rfl⟩
  rw [← hL7] at ho
  have bL7 : L7.length ≤ 20 := by rw [hL7]; rw [List.length_append]; omega
  obtain ⟨aw7, nw7, cw7, hvw7⟩ := ho.shape3
  have O7 := Lib.hid ho; have K7 := Lib.hid hk
  clear ho hk hL7
  subst hvw7
  have hsw8 := K7.out.size
  go_wp2_with (at_builtin; refine wpList_append_src _ rfl (.tmp 21) (.tmp 22) 28 28 rfl W.heap.size 5 i0 (.int .u8 0) 1 1 Try.underlying28 hi hz0 hz1 hz2 rfl _ L7.length (bc L7) rfl ?hown _ 1 (bc [0]) rfl ?src ?b1 ?b2 ?base ?next)
  case hown => exact World.ownsRow.alloc O7.out _
  case src => exact (rd_lit w7 [0] #[.int .u8 0] _ 1 rfl rfl).src Try.underlying28
  case b1 => unfold maxLen; omega
  case b2 => omega
  case base => simp; omega
  case next =>
  intro v8 w8 hown hgrow _ _
  have ho : Own w8 W.heap.size 5 v8 (L7 ++ [0]) := by unfold Own; rw [bc_append, List.length_append]; exact hown
  have hk : Kept W w8 [] := (K7.out.alloc _).grown hgrow (fun k hk => .inr (O7.out.lt k hk).1)
  clear hown hgrow hsw8
  obtain ⟨L8, hL8⟩ : ∃ L, L = L7 ++ [0] := ⟨_, rfl⟩
  rw [← hL8] at ho
  have bL8 : L8.length ≤ 21 := by rw [hL8]; simp only [List.length_append, List.length_cons, List.length_nil]; omega
  obtain ⟨aw8, nw8, cw8, hvw8⟩ := ho.shape3
  have O8 := Lib.hid ho; have K8 := Lib.hid hk
  clear ho hk hL8
  subst hvw8
  go_wp2_with fail
  refine (res_num W w8 a2 K8.out (by have := B2.out; omega)).mono ?_
  rintro e w9 ⟨v9, rfl, o9, k9, q9⟩
  have O9 := Lib.hid o9.rd; have K9 := Lib.hid k9; have Q9 := Lib.hid (q9 _ _ O8.out.rd); clear o9 k9 q9
  go_wp2_with fail
  refine (res_join W w9 _ _ _ _ K9.out Q9.out O9.out (by omega) (by omega)).mono ?_
  rintro e w10 ⟨v10, rfl, ho, hk, -⟩
  obtain ⟨L10, hL10⟩ : ∃ L, L = L8 ++ numL a2.toNat := ⟨_, rfl⟩
  rw [← hL10] at ho
  have bL10 : L10.length ≤ 31 := by rw [hL10]; rw [List.length_append]; omega
  obtain ⟨aw10, nw10, cw10, hvw10⟩ := ho.shape3
  have O10 := Lib.hid ho; have K10 := Lib.hid hk
  clear ho hk hL10
  subst hvw10
  go_wp2_with fail
  refine (res_num W w10 a3 K10.out (by have := B3.out; omega)).mono ?_
  rintro e w11 ⟨v11, rfl, o11, k11, q11⟩
  have O11 := Lib.hid o11.rd; have K11 := Lib.hid k11; have Q11 := Lib.hid (q11 _ _ O10.out.rd); clear o11 k11 q11
  go_wp2_with fail
  refine (res_join W w11 _ _ _ _ K11.out Q11.out O11.out (by omega) (by omega)).mono ?_
  rintro e w12 ⟨v12, rfl, ho, hk, -⟩
  obtain ⟨L12, hL12⟩ : ∃ L, L = L10 ++ numL a3.toNat := ⟨_, rfl⟩
  rw [← hL12] at ho
  have bL12 : L12.length ≤ 41 := by rw [hL12]; rw [List.length_append]; omega
  obtain ⟨aw12, nw12, cw12, hvw12⟩ := ho.shape3
  have O12 := Lib.hid ho; have K12 := Lib.hid hk
  clear ho hk hL12
  subst hvw12
  go_wp2_with fail
  refine (res_num W w12 a4 K12.out (by have := B4.out; omega)).mono ?_
  rintro e w13 ⟨v13, rfl, o13, k13, q13⟩
  have O13 := Lib.hid o13.rd; have K13 := Lib.hid k13; have Q13 := Lib.hid (q13 _ _ O12.out.rd); clear o13 k13 q13
  go_wp2_with fail
  refine (res_join W w13 _ _ _ _ K13.out Q13.out O13.out (by omega) (by omega)).mono ?_
  rintro e w14 ⟨v14, rfl, ho, hk, -⟩
  obtain ⟨L14, hL14⟩ : ∃ L, L = L12 ++ numL a4.toNat := ⟨_, rfl⟩
  rw [← hL14] at ho
  have bL14 : L14.length ≤ 51 := by rw [hL14]; rw [List.length_append]; omega
  obtain ⟨aw14, nw14, cw14, hvw14⟩ := ho.shape3
  have O14 := Lib.hid ho; have K14 := Lib.hid hk
  clear ho hk hL14
  subst hvw14
  have hsw15 := K14.out.size
  go_wp2_with (at_builtin; refine wpList_append_src _ rfl (.tmp 34) (.tmp 35) 28 28 rfl W.heap.size 5 i0 (.int .u8 0) 1 1 Try.underlying28 hi hz0 hz1 hz2 rfl _ L14.length (bc L14) rfl ?hown _ 2 (bc [0, 0]) rfl ?src ?b1 ?b2 ?base ?next)
  case hown => exact World.ownsRow.alloc O14.out _
  case src => exact (rd_lit w14 [0, 0] #[.int .u8 0, .int .u8 0] _ 2 rfl rfl).src Try.underlying28
  case b1 => unfold maxLen; omega
  case b2 => omega
  case base => simp; omega
  case next =>
  intro v15 w15 hown hgrow _ _
  have ho : Own w15 W.heap.size 5 v15 (L14 ++ [0, 0]) := by unfold Own; rw [bc_append, List.length_append]; exact hown
  have hk : Kept W w15 [] := (K14.out.alloc _).grown hgrow (fun k hk => .inr (O14.out.lt k hk).1)
  clear hown hgrow hsw15
  obtain ⟨L15, hL15⟩ : ∃ L, L = L14 ++ [0, 0] := ⟨_, rfl⟩
  rw [← hL15] at ho
  have bL15 : L15.length ≤ 60 := by rw [hL15]; simp only [List.length_append, List.length_cons, List.length_nil]; omega
  obtain ⟨aw15, nw15, cw15, hvw15⟩ := ho.shape3
  have O15 := Lib.hid ho; have K15 := Lib.hid hk
  clear ho hk hL15
  subst hvw15
  obtain ⟨⟨a1, b1, o1, c1, d1, k1, y1, t1⟩, hE1⟩ : ∃ E, E = cEv L15 := ⟨_, rfl⟩
  obtain ⟨x1, hx1⟩ : ∃ x, x = cErr L15 := ⟨_, rfl⟩
  have HD1 : RowKit.Hid (∀ (v : Value) (V : World), Rd V v L15 → Calls Try.prog 12 #[v] V fun e w' => e = .returned (.tuple #[.agg #[.int .i64 a1, .int .i64 b1, .string o1, .int .i64 c1, .int .i64 d1, .int .u8 k1, .int .i64 y1, .string t1], .int .i64 x1]) ∧ Kept V w' []) := Lib.hid (fun v V h => by
    refine (decode_any v L15 V h (by first | omega | (simp; omega))).mono ?_
    rintro e w' ⟨rfl, hk⟩
    rw [← hE1, ← hx1]
    exact ⟨rfl, hk⟩)
  have HF1 : RowKit.Hid (∀ (v : Value) (V : World), Rd V v L15 → Calls Try.prog 16 #[v] V fun e w' => e = .returned (.tuple #[.agg #[.int .i64 a1, .int .i64 b1, .string o1, .int .i64 c1, .int .i64 d1, .int .u8 k1, .int .i64 y1, .string t1], .int .i64 x1]) ∧ Kept V w' []) := Lib.hid (fun v V h => by
    refine (refdecode_any v L15 V h (by first | omega | (simp; omega))).mono ?_
    rintro e w' ⟨rfl, hk⟩
    rw [← (dec_same L15).1, ← (dec_same L15).2, ← hE1, ← hx1]
    exact ⟨rfl, hk⟩)
  have Q1 := ev_eq a1 b1 o1 c1 d1 k1 y1 t1
  clear hE1 hx1
  have R := Lib.hid O15.out.rd
  go_wp2_with fail
  refine (HD1.out _ w15 R.out).mono ?_
  rintro e w16 ⟨rfl, k16⟩
  have K16 := Lib.hid k16; clear k16
  go_wp2_with fail
  refine (HF1.out _ _ (R.out.kept (K16.out.alloc _) (by simp))).mono ?_
  rintro e w17 ⟨rfl, k17⟩
  have K17 := Lib.hid k17; clear k17
  go_wp2_with fail
  refine (nine_any _).mono ?_
  rintro e w18 ⟨rfl, k18⟩
  have h2 : w18.heap[w17.heap.size]? = _ := k18.heap (by simp) (heap_alloc_new w17 _)
  have h1 := ((Kept.refl w17 []).alloc _ |>.trans k18 (by simp)).heap (by simp) (K17.out.heap (by simp) (heap_alloc_new w16 _))
  have KF := Lib.hid ((((K15.out.trans K16.out (by simp)).alloc _).trans K17.out (by simp) |>.alloc _).trans k18 (by simp))
  clear k18
  have p1_0 := cell_of_row w18 w16.heap.size 0 _ _ _ h1
  have p1_1 := cell_of_row w18 w16.heap.size 1 _ _ _ h1
  have p1_2 := cell_of_row w18 w16.heap.size 2 _ _ _ h1
  have p1_3 := cell_of_row w18 w16.heap.size 3 _ _ _ h1
  have p1_4 := cell_of_row w18 w16.heap.size 4 _ _ _ h1
  have p1_5 := cell_of_row w18 w16.heap.size 5 _ _ _ h1
  have p1_6 := cell_of_row w18 w16.heap.size 6 _ _ _ h1
  have p1_7 := cell_of_row w18 w16.heap.size 7 _ _ _ h1
  simp at p1_0 p1_1 p1_2 p1_3 p1_4 p1_5 p1_6 p1_7
  have p2_0 := cell_of_row w18 w17.heap.size 0 _ _ _ h2
  have p2_1 := cell_of_row w18 w17.heap.size 1 _ _ _ h2
  have p2_2 := cell_of_row w18 w17.heap.size 2 _ _ _ h2
  have p2_3 := cell_of_row w18 w17.heap.size 3 _ _ _ h2
  have p2_4 := cell_of_row w18 w17.heap.size 4 _ _ _ h2
  have p2_5 := cell_of_row w18 w17.heap.size 5 _ _ _ h2
  have p2_6 := cell_of_row w18 w17.heap.size 6 _ _ _ h2
  have p2_7 := cell_of_row w18 w17.heap.size 7 _ _ _ h2
  simp at p2_0 p2_1 p2_2 p2_3 p2_4 p2_5 p2_6 p2_7
  clear h1 h2
  go_wp2
  go_ret
  exact ⟨rfl, KF.out.below (Nat.le_refl _) (by simp)⟩

set_option maxRecDepth 100000 in
theorem lifted (os : Os) (started : os.Started) (H : Type) (enc : TypeId × Value → H) :
    ReturnsInHanded {} Try.checked os 7 .any (Rows.eventWideSpec.pre6 enc Try.prog Try.f7 Rows.eventWideRow.domain false) (Rows.eventWideSpec.post enc Try.prog Try.f7 false true false false) := by
  refine returnsInHanded_of_change (C := Try.checked) own started (by kernel_rfl) Try.func7
    (ChangeSpec.witness6 (enc := enc) (C := Try.checked) false ⟨#[], #[.int .u64 0, .int .u64 0, .int .u64 0, .int .u64 0, .int .u64 0], []⟩ 8 (by kernel_rfl) (by kernel_rfl) (by kernel_rfl) (by kernel_rfl)) ?_
  intro W base args ds gs before hval0 hW hcnd _
  have hval : ∀ (j : Nat) t v, Try.f7.params[j]? = some t → args[j]? = some v → Value.okWide Try.prog W .any base t v := hval0
  have hW' := hW
  obtain ⟨p, q, hA0, hV, rfl, hfz, hnd⟩ := hW
  have hA : DataW.TrodAll enc Try.prog W 0 (fun _ => true) true Try.f7.params.toList args.toList ds p := hA0
  rw [Try.params7] at hA hval
  obtain ⟨v0, vs0, d0, ds0, p0, q0, hargs, rfl, rfl, h0, r0⟩ := trodAll_cons hA
  obtain ⟨v1, vs1, d1, ds1, p1, q1, rfl, rfl, rfl, h1, r1⟩ := trodAll_cons r0
  obtain ⟨v2, vs2, d2, ds2, p2, q2, rfl, rfl, rfl, h2, r2⟩ := trodAll_cons r1
  obtain ⟨v3, vs3, d3, ds3, p3, q3, rfl, rfl, rfl, h3, r3⟩ := trodAll_cons r2
  obtain ⟨v4, vs4, d4, ds4, p4, q4, rfl, rfl, rfl, h4, r4⟩ := trodAll_cons r3
  obtain ⟨rfl, rfl, rfl⟩ := trodAll_nil r4
  obtain rfl : args = #[v0, v1, v2, v3, v4] := by cases args; simp_all
  obtain ⟨rfl, rfl⟩ := trodVars_none hV
  obtain ⟨a0, rfl, rfl, rfl, w0⟩ := open_int Try.underlying40 (hval 0 40 v0 rfl rfl) h0
  obtain ⟨a1, rfl, rfl, rfl, w1⟩ := open_int Try.underlying40 (hval 1 40 v1 rfl rfl) h1
  obtain ⟨a2, rfl, rfl, rfl, w2⟩ := open_int Try.underlying40 (hval 2 40 v2 rfl rfl) h2
  obtain ⟨a3, rfl, rfl, rfl, w3⟩ := open_int Try.underlying40 (hval 3 40 v3 rfl rfl) h3
  obtain ⟨a4, rfl, rfl, rfl, w4⟩ := open_int Try.underlying40 (hval 4 40 v4 rfl rfl) h4
  clear hA0 hval0
  simp only [List.append_nil] at hW'
  refine (walk a0 a1 a2 a3 a4 w0 w1 w2 w3 w4 W).mono fun e W' ⟨he, bel⟩ => ?_
  subst he
  exact ⟨_, rfl, _, _, _, [], _, [], hW', trodAll_mk1 (shut_bool Try.underlying4 _), (trodAll_cons_mk (shut_int Try.underlying40 w0) (trodAll_cons_mk (shut_int Try.underlying40 w1) (trodAll_cons_mk (shut_int Try.underlying40 w2) (trodAll_cons_mk (shut_int Try.underlying40 w3) (trodAll_cons_mk (shut_int Try.underlying40 w4) trodAll_mk0))))), rfl, bel.frame _, fun h => by cases h⟩

theorem over : Rows.eventWideRow.holds Try.pinned (OpenSpec.ofChange Rows.eventWideSpec) :=
  OpenClaim.holds_of_wide 7 Try.f7 rfl rfl rfl rfl rfl rfl rfl ⟨rfl, rfl, rfl, rfl, rfl⟩ rfl rfl rfl rfl rfl (by kernel_rfl) Try.func7 (by kernel_rfl)
    (of_decide_eq_true (by kernel_rfl)) (by unfold Func.isWrapper; first | (rw [if_pos (by decide +kernel)]; kernel_rfl) | (rw [if_neg (by decide +kernel)]; exact ⟨rfl, rfl⟩))
    (fun os started H enc _ => lifted os started H enc)

theorem proved : Rows.EventWideSaid :=
  over
end Go.Proofs.Ytkpjbmcgfdophaa.eventWide

namespace Go.Proofs.Ytkpjbmcgfdophaa
theorem eventWide_holds : Rows.EventWideSaid := eventWide.proved
#print axioms eventWide_holds
end Go.Proofs.Ytkpjbmcgfdophaa

