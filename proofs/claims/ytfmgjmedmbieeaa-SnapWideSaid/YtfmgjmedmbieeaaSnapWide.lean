/-
  Proved: whatever the arguments are, carrierlaw05.SnapWide answers true and leaves its arguments as they were. No condition.
-/
import Derived.Test.YtfmgjmedmbieeaaSnJ
namespace Go.Proofs.Ytfmgjmedmbieeaa.snapWide
open Go.ChangeShapes Go.WideShapes Go.ChangeAt Go.RowKit
set_option linter.unusedVariables false

theorem own : ownKnob Try.prog.godebug = none := by kernel_rfl
theorem laidOut : laidOutB Try.prog = true := by kernel_rfl

theorem wide_yes {M n : Int} {l : List Int} (h : rightB M l = true) (hn : M ≤ n) : Cover n M [] l := by
  intro x hx
  rw [seesB_iff] at hx ⊢
  exact ⟨hx.1, by omega, by simp⟩

theorem wide_no {M n : Int} {l : List Int} (h : M ≤ 50) (hn : 50 < n) : ¬ Cover M n l [] := by
  intro hc
  have := hc 50 (seesB_iff.2 ⟨by omega, hn, by simp⟩)
  rw [seesB_iff] at this
  omega

set_option maxHeartbeats 4000000 in
set_option maxRecDepth 100000 in
theorem walk (a0 : Int) (a1 : Option Addr) (len1 cap1 : Nat) (z1 : List Int) (a2 a3 : Int) (W : World) (w0 : (Lit.int .i64 a0).wf = true) (w1 : IsRow .u8 W a1 len1 cap1 z1) (w2 : (Lit.int .u8 a2).wf = true) (w3 : (Lit.int .u8 a3).wf = true) :
    Calls Try.prog 6 #[.int .i64 a0, .slice a1 len1 cap1, .int .u8 a2, .int .u8 a3] W fun e w' => e = .returned (.bool true) ∧ Below W.heap.size W w' := by
  have hb0 := bounds_i64 w0
  obtain ⟨a, rfl, ha⟩ := u8_nat w2
  obtain ⟨b, rfl, hb⟩ := u8_nat w3
  obtain ⟨os, rfl, hro⟩ := isRow_rd w1
  have Ro := Lib.hid hro
  clear w0 w1 w2 w3 hro
  by_cases h1 : (10 : Int) < (os.length : Int)
  · skip
    go_enter Try.func6, Try.ntmps6
    go_wp2_with fail
    refine (five_any W).mono ?_
    rintro e w1 ⟨rfl, hk⟩
    have K := Lib.hid hk; clear hk
    go_wp2
    go_ret
    exact ⟨rfl, K.out.below (Nat.le_refl _) (by simp)⟩
  go_enter Try.func6, Try.ntmps6
  go_wp2_with fail
  refine (of_any a _ os W Ro.out (by omega)).mono ?_
  rintro e w1 ⟨M, v, l, rfl, hM, hR, _, hrd, hk⟩
  have R1 := Lib.hid hrd; have K1 := Lib.hid hk; have G1 := Lib.hid hR
  obtain ⟨av, cv, rfl⟩ := hrd.slice
  have hM40 : 1 ≤ M ∧ M ≤ 40 := by omega
  have hll : l.length ≤ 1000 := by
    have h := hR
    simp only [rightB, Bool.and_eq_true, decide_eq_true_eq] at h
    have := upB_len h.2 (by omega)
    omega
  clear hR hk hrd hM
  go_wp2_with fail
  refine (of_any b (.slice none 0 0) [] w1 (Rd.nil w1) (by decide)).mono ?_
  rintro e w2 ⟨N, u, m, rfl, hN, hR, hm, hrd, hk⟩
  obtain rfl := hm rfl
  have R2 := Lib.hid hrd; have K2 := Lib.hid (K1.out.trans hk (by simp)); have R1 := Lib.hid (R1.out.keep hk)
  obtain ⟨au, cu, rfl⟩ := hrd.slice
  rw [List.length_nil] at R2 ⊢
  clear hR hk hrd hN hm
  by_cases h100 : a0 < 100
  · skip
    obtain ⟨W3, hW3⟩ : ∃ W3, W3 = (w2.alloc (.cells #[.int .i64 M, .slice av l.length cv] 25)).alloc (.cells #[.int .i64 100, .slice au 0 cu] 25) := ⟨_, rfl⟩
    have kk : Kept w2 W3 [] := by rw [hW3]; exact ((Kept.refl w2 []).alloc _).alloc _
    have s1 := two_cells (heap_alloc_new w2 (.cells #[.int .i64 M, .slice av l.length cv] 25))
    have s2 := two_cells (heap_alloc_new (w2.alloc (.cells #[.int .i64 M, .slice av l.length cv] 25)) (.cells #[.int .i64 100, .slice au 0 cu] 25))
    have s1 := ((Kept.refl (w2.alloc (.cells #[.int .i64 M, .slice av l.length cv] 25)) []).alloc (.cells #[.int .i64 100, .slice au 0 cu] 25)).two s1
    have e1 : (w2.alloc (.cells #[.int .i64 M, .slice av l.length cv] 25)).heap.size = w2.heap.size + 1 := by simp
    rw [e1] at s2
    rw [← hW3] at s1 s2
    have S := Lib.hid (show Sr W3 w2.heap.size M (.slice av l.length cv) l from ⟨s1.1, s1.2, R1.out.keep kk⟩)
    have T := Lib.hid (show Sr W3 (w2.heap.size + 1) 100 (.slice au 0 cu) [] from ⟨s2.1, s2.2, R2.out.keep kk⟩)
    have K3 := Lib.hid (K2.out.trans kk (by simp))
    have G2 : Hid (rightB 100 [] = true) := Lib.hid (by first | (simp [rightB, upB]; done) | (simp [rightB, upB]; omega))
    have C1 := Lib.hid (wide_yes (n := 100) G1.out (by omega))
    have C2 := Lib.hid (wide_no (n := 100) (l := l) (M := M) (by omega) (by omega))
    have v3 : leastI 100 [] = 100 := rfl
    clear kk s1 s2 e1 R1 R2
    go_wp2_with fail
    rw [← hW3]
    clear hW3
    refine (five_any W3).mono ?_
    rintro e w3 ⟨rfl, hk⟩
    have K4 := Lib.hid hk; clear hk
    have S4 := Lib.hid (S.out.keep K4.out); have T4 := Lib.hid (T.out.keep K4.out)
    have z0 := S4.out.c0; have z1 := S4.out.c1; have z2 := T4.out.c0; have z3 := T4.out.c1
    go_wp2_with fail
    refine (covers_any 100 M _ _ [] l w3 T4.out.rd S4.out.rd G2.out G1.out (by omega) (by omega) (by decide) hll).mono ?_
    rintro e w4 ⟨s, rfl, hs, hk⟩
    obtain rfl : s = true := hs.2 C1.out
    have K5 := Lib.hid (K4.out.trans hk (by simp)); clear hk hs z0 z1 z2 z3
    have S5 := Lib.hid (S.out.keep K5.out); have T5 := Lib.hid (T.out.keep K5.out)
    have z0 := S5.out.c0; have z1 := S5.out.c1; have z2 := T5.out.c0; have z3 := T5.out.c1
    go_wp2_with fail
    refine (covers_any M 100 _ _ l [] w4 S5.out.rd T5.out.rd G1.out G2.out (by omega) (by omega) hll (by decide)).mono ?_
    rintro e w5 ⟨s, rfl, hs, hk⟩
    obtain rfl : s = false := by
      cases s with
      | false => rfl
      | true => exact absurd (hs.1 rfl) C2.out
    have K6 := Lib.hid (K5.out.trans hk (by simp)); clear hk hs z0 z1 z2 z3
    have T6 := Lib.hid (T.out.keep K6.out)
    have z2 := T6.out.c0; have z3 := T6.out.c1
    go_wp2_with fail
    refine (least_any 100 _ [] w5 T6.out.rd).mono ?_
    rintro e w6 ⟨rfl, hk⟩
    have K7 := Lib.hid (K6.out.trans hk (by simp)); clear hk z2 z3
    go_wp2
    go_ret
    exact ⟨rfl, (K3.out.trans K7.out (by simp)).below (Nat.le_refl _) (by simp)⟩
  · skip
    obtain ⟨W3, hW3⟩ : ∃ W3, W3 = (w2.alloc (.cells #[.int .i64 M, .slice av l.length cv] 25)).alloc (.cells #[.int .i64 a0, .slice au 0 cu] 25) := ⟨_, rfl⟩
    have kk : Kept w2 W3 [] := by rw [hW3]; exact ((Kept.refl w2 []).alloc _).alloc _
    have s1 := two_cells (heap_alloc_new w2 (.cells #[.int .i64 M, .slice av l.length cv] 25))
    have s2 := two_cells (heap_alloc_new (w2.alloc (.cells #[.int .i64 M, .slice av l.length cv] 25)) (.cells #[.int .i64 a0, .slice au 0 cu] 25))
    have s1 := ((Kept.refl (w2.alloc (.cells #[.int .i64 M, .slice av l.length cv] 25)) []).alloc (.cells #[.int .i64 a0, .slice au 0 cu] 25)).two s1
    have e1 : (w2.alloc (.cells #[.int .i64 M, .slice av l.length cv] 25)).heap.size = w2.heap.size + 1 := by simp
    rw [e1] at s2
    rw [← hW3] at s1 s2
    have S := Lib.hid (show Sr W3 w2.heap.size M (.slice av l.length cv) l from ⟨s1.1, s1.2, R1.out.keep kk⟩)
    have T := Lib.hid (show Sr W3 (w2.heap.size + 1) a0 (.slice au 0 cu) [] from ⟨s2.1, s2.2, R2.out.keep kk⟩)
    have K3 := Lib.hid (K2.out.trans kk (by simp))
    have G2 : Hid (rightB a0 [] = true) := Lib.hid (by first | (simp [rightB, upB]; done) | (simp [rightB, upB]; omega))
    have C1 := Lib.hid (wide_yes (n := a0) G1.out (by omega))
    have C2 := Lib.hid (wide_no (n := a0) (l := l) (M := M) (by omega) (by omega))
    have v3 : leastI a0 [] = a0 := rfl
    clear kk s1 s2 e1 R1 R2
    go_wp2_with fail
    rw [← hW3]
    clear hW3
    refine (five_any W3).mono ?_
    rintro e w3 ⟨rfl, hk⟩
    have K4 := Lib.hid hk; clear hk
    have S4 := Lib.hid (S.out.keep K4.out); have T4 := Lib.hid (T.out.keep K4.out)
    have z0 := S4.out.c0; have z1 := S4.out.c1; have z2 := T4.out.c0; have z3 := T4.out.c1
    go_wp2_with fail
    refine (covers_any a0 M _ _ [] l w3 T4.out.rd S4.out.rd G2.out G1.out (by omega) (by omega) (by decide) hll).mono ?_
    rintro e w4 ⟨s, rfl, hs, hk⟩
    obtain rfl : s = true := hs.2 C1.out
    have K5 := Lib.hid (K4.out.trans hk (by simp)); clear hk hs z0 z1 z2 z3
    have S5 := Lib.hid (S.out.keep K5.out); have T5 := Lib.hid (T.out.keep K5.out)
    have z0 := S5.out.c0; have z1 := S5.out.c1; have z2 := T5.out.c0; have z3 := T5.out.c1
    go_wp2_with fail
    refine (covers_any M a0 _ _ l [] w4 S5.out.rd T5.out.rd G1.out G2.out (by omega) (by omega) hll (by decide)).mono ?_
    rintro e w5 ⟨s, rfl, hs, hk⟩
    obtain rfl : s = false := by
      cases s with
      | false => rfl
      | true => exact absurd (hs.1 rfl) C2.out
    have K6 := Lib.hid (K5.out.trans hk (by simp)); clear hk hs z0 z1 z2 z3
    have T6 := Lib.hid (T.out.keep K6.out)
    have z2 := T6.out.c0; have z3 := T6.out.c1
    go_wp2_with fail
    refine (least_any a0 _ [] w5 T6.out.rd).mono ?_
    rintro e w6 ⟨rfl, hk⟩
    have K7 := Lib.hid (K6.out.trans hk (by simp)); clear hk z2 z3
    go_wp2
    go_ret
    exact ⟨rfl, (K3.out.trans K7.out (by simp)).below (Nat.le_refl _) (by simp)⟩

set_option maxRecDepth 100000 in
theorem lifted (os : Os) (started : os.Started) (H : Type) (enc : TypeId × Value → H) :
    ReturnsInHanded {} Try.checked os 6 .any (Rows.snapWideSpec.pre6 enc Try.prog Try.f6 Rows.snapWideRow.domain false) (Rows.snapWideSpec.post enc Try.prog Try.f6 false true false false) := by
  refine returnsInHanded_of_change (C := Try.checked) own started (by kernel_rfl) Try.func6
    (ChangeSpec.witness6 (enc := enc) (C := Try.checked) false ⟨#[], #[.int .i64 0, .slice none 0 0, .int .u8 0, .int .u8 0], []⟩ 8 (by kernel_rfl) (by kernel_rfl) (by kernel_rfl) (by kernel_rfl)) ?_
  intro W base args ds gs before hval0 hW hcnd _
  have hval : ∀ (j : Nat) t v, Try.f6.params[j]? = some t → args[j]? = some v → Value.okWide Try.prog W .any base t v := hval0
  have hW' := hW
  obtain ⟨p, q, hA0, hV, rfl, hfz, hnd⟩ := hW
  have hA : DataW.TrodAll enc Try.prog W 0 (fun _ => true) true Try.f6.params.toList args.toList ds p := hA0
  rw [Try.params6] at hA hval
  obtain ⟨v0, vs0, d0, ds0, p0, q0, hargs, rfl, rfl, h0, r0⟩ := trodAll_cons hA
  obtain ⟨v1, vs1, d1, ds1, p1, q1, rfl, rfl, rfl, h1, r1⟩ := trodAll_cons r0
  obtain ⟨v2, vs2, d2, ds2, p2, q2, rfl, rfl, rfl, h2, r2⟩ := trodAll_cons r1
  obtain ⟨v3, vs3, d3, ds3, p3, q3, rfl, rfl, rfl, h3, r3⟩ := trodAll_cons r2
  obtain ⟨rfl, rfl, rfl⟩ := trodAll_nil r3
  obtain rfl : args = #[v0, v1, v2, v3] := by cases args; simp_all
  obtain ⟨rfl, rfl⟩ := trodVars_none hV
  obtain ⟨a0, rfl, rfl, rfl, w0⟩ := open_int Try.underlying2 (hval 0 2 v0 rfl rfl) h0
  obtain ⟨a1, len1, cap1, rfl⟩ := okWide_slice Try.underlying30 (hval 1 30 v1 rfl rfl)
  have k1 := h1
  have lt1 : ∀ x ∈ p1, x.block < W.heap.size := by obtain ⟨m, hm⟩ := k1; exact DataW.trod_lt m _ _ _ hm
  obtain ⟨z1, w1⟩ : ∃ zs, IsRow .u8 W a1 len1 cap1 zs := by
    obtain ⟨fuel, hf⟩ := h1
    rcases open_ints Try.underlying30 Try.underlying5 (by kernel_rfl) hf with ⟨hcs, _⟩ | ⟨x, l, c, zs, hcs, _, hl, hm, hz, _, hcell, hwz⟩
    · simp [Value.cells] at hcs
      obtain ⟨rfl, rfl, rfl⟩ := hcs
      exact ⟨[], .inl ⟨rfl, rfl, rfl, rfl⟩⟩
    · simp [Value.cells] at hcs
      obtain ⟨rfl, rfl, rfl⟩ := hcs
      exact ⟨zs, .inr ⟨_, rfl, hl, hm, by simpa using hz, hcell, hwz⟩⟩
  obtain ⟨a2, rfl, rfl, rfl, w2⟩ := open_int Try.underlying5 (hval 2 5 v2 rfl rfl) h2
  obtain ⟨a3, rfl, rfl, rfl, w3⟩ := open_int Try.underlying5 (hval 3 5 v3 rfl rfl) h3
  clear hA0 hval0
  refine (walk a0 a1 len1 cap1 z1 a2 a3 W w0 w1 w2 w3).mono fun e W' ⟨he, bel⟩ => ?_
  subst he
  exact ⟨_, rfl, _, _, _, [], _, [], hW', trodAll_mk1 (shut_bool Try.underlying4 _), (trodAll_cons_mk (shut_int Try.underlying2 w0) (trodAll_cons_mk (Below.trod laidOut (by kernel_rfl) (of_decide_eq_true (by kernel_rfl)) k1 bel lt1) (trodAll_cons_mk (shut_int Try.underlying5 w2) (trodAll_cons_mk (shut_int Try.underlying5 w3) trodAll_mk0)))), rfl, bel.frame _, fun h => by cases h⟩

theorem over : Rows.snapWideRow.holds Try.pinned (OpenSpec.ofChange Rows.snapWideSpec) :=
  OpenClaim.holds_of_wide 6 Try.f6 rfl rfl rfl rfl rfl rfl rfl ⟨rfl, rfl, rfl, rfl, rfl⟩ rfl rfl rfl rfl rfl (by kernel_rfl) Try.func6 (by kernel_rfl)
    (of_decide_eq_true (by kernel_rfl)) (by unfold Func.isWrapper; first | (rw [if_pos (by decide +kernel)]; kernel_rfl) | (rw [if_neg (by decide +kernel)]; exact ⟨rfl, rfl⟩))
    (fun os started H enc _ => lifted os started H enc)

theorem proved : Rows.SnapWideSaid :=
  over
end Go.Proofs.Ytfmgjmedmbieeaa.snapWide

namespace Go.Proofs.Ytfmgjmedmbieeaa
theorem snapWide_holds : Rows.SnapWideSaid := snapWide.proved
#print axioms snapWide_holds
end Go.Proofs.Ytfmgjmedmbieeaa

