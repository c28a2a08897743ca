/-
  Proved: whatever the arguments are, carrierlaw05.SnapCovers answers true and leaves its arguments as they were. No condition.
-/
import Derived.Test.YtfmgjmedmbieeaaSnJ
namespace Go.Proofs.Ytfmgjmedmbieeaa.snapCovers
open Go.ChangeShapes Go.WideShapes Go.ChangeAt Go.RowKit
set_option linter.unusedVariables false

theorem own : ownKnob Try.prog.godebug = none := by kernel_rfl
theorem laidOut : laidOutB Try.prog = true := by kernel_rfl

theorem sees_le {M x : Int} {l : List Int} (h : seesB M l x = true) : 1 ≤ x ∧ x < M := ⟨(seesB_iff.1 h).1, (seesB_iff.1 h).2.1⟩

/-- All is seen so far. -/
def Far (A B : Int) (l m : List Int) (n : Int) (r : Bool) : Prop := r = true ↔ ∀ x, 1 ≤ x → x < n → seesB B m x = true → seesB A l x = true

theorem Far.step {A B : Int} {l m : List Int} {n : Int} {r : Bool} (h : Far A B l m n r) (hn : 1 ≤ n) : Far A B l m (n + 1) (r && (!seesB B m n || seesB A l n)) := by
  unfold Far at *
  rw [Bool.and_eq_true, h]
  constructor
  · rintro ⟨h1, h2⟩ x hx1 hx2 hx
    by_cases hxn : x = n
    · subst hxn
      rw [hx] at h2
      simpa using h2
    · exact h1 x hx1 (by omega) hx
  · intro h1
    refine ⟨fun x hx1 hx2 hx => h1 x hx1 (by omega) hx, ?_⟩
    cases hs : seesB B m n with
    | false => rfl
    | true => simpa using h1 n hn (by omega) hs

theorem Far.cover {A B : Int} {l m : List Int} {n : Int} {r s : Bool} (h : Far A B l m n r) (hB : B ≤ n) (hs : s = true ↔ Cover A B l m) : s = r := by
  unfold Far at h
  rw [Bool.eq_iff_iff, hs, h]
  exact ⟨fun h x _ _ hx => h x hx, fun h x hx => by have := sees_le hx; exact h x this.1 (by omega) hx⟩

set_option maxHeartbeats 4000000 in
set_option maxRecDepth 100000 in
theorem walk (a0 : Int) (a1 : Int) (a2 : Option Addr) (len2 cap2 : Nat) (z2 : List Int) (a3 : Option Addr) (len3 cap3 : Nat) (z3 : List Int) (W : World) (w0 : (Lit.int .u8 a0).wf = true) (w1 : (Lit.int .u8 a1).wf = true) (w2 : IsRow .u8 W a2 len2 cap2 z2) (w3 : IsRow .u8 W a3 len3 cap3 z3) :
    Calls Try.prog 5 #[.int .u8 a0, .int .u8 a1, .slice a2 len2 cap2, .slice a3 len3 cap3] W fun e w' => e = .returned (.bool true) ∧ Below W.heap.size W w' := by
  obtain ⟨a, rfl, ha⟩ := u8_nat w0
  obtain ⟨b, rfl, hb⟩ := u8_nat w1
  obtain ⟨os, rfl, hro⟩ := isRow_rd w2
  obtain ⟨ps, rfl, hrp⟩ := isRow_rd w3
  have Ro := Lib.hid hro; have Rp := Lib.hid hrp
  clear w0 w1 w2 w3 hro hrp
  by_cases h1 : (20 : Int) < (os.length : Int)
  · skip
    go_enter Try.func5, Try.ntmps5
    go_wp2_with fail
    refine (five_any W).mono ?_
    rintro e w1 ⟨rfl, hk⟩
    have K := Lib.hid hk; clear hk
    go_wp2
    go_ret
    exact ⟨rfl, K.out.below (Nat.le_refl _) (by simp)⟩
  by_cases h2 : (20 : Int) < (ps.length : Int)
  · skip
    go_enter Try.func5, Try.ntmps5
    go_wp2_with fail
    refine (five_any W).mono ?_
    rintro e w1 ⟨rfl, hk⟩
    have K := Lib.hid hk; clear hk
    go_wp2
    go_ret
    exact ⟨rfl, K.out.below (Nat.le_refl _) (by simp)⟩
  go_enter Try.func5, Try.ntmps5
  go_wp2_with fail
  refine (of_any a _ os W Ro.out (by omega)).mono ?_
  rintro e w1 ⟨M, v, l, rfl, hM, hR, _, hrd, hk⟩
  have R1 := Lib.hid hrd; have K1 := Lib.hid hk; have G1 := Lib.hid hR
  obtain ⟨av, cv, rfl⟩ := hrd.slice
  have hM40 : 1 ≤ M ∧ M ≤ 40 := by omega
  have hll : l.length ≤ 1000 := by
    have h := hR
    simp only [rightB, Bool.and_eq_true, decide_eq_true_eq] at h
    have := upB_len h.2 (by omega)
    omega
  clear hR hk hrd hM
  go_wp2_with fail
  refine (of_any b _ ps w1 (Rp.out.kept K1.out (by simp)) (by omega)).mono ?_
  rintro e w2 ⟨N, u, m, rfl, hN, hR, _, hrd, hk⟩
  have R2 := Lib.hid hrd; have K2 := Lib.hid (K1.out.trans hk (by simp)); have R1 := Lib.hid (R1.out.keep hk); have G2 := Lib.hid hR
  obtain ⟨au, cu, rfl⟩ := hrd.slice
  have hN40 : 1 ≤ N ∧ N ≤ 40 := by omega
  have hlm : m.length ≤ 1000 := by
    have h := hR
    simp only [rightB, Bool.and_eq_true, decide_eq_true_eq] at h
    have := upB_len h.2 (by omega)
    omega
  clear hR hk hrd hN
  obtain ⟨W3, hW3⟩ : ∃ W3, W3 = (w2.alloc (.cells #[.int .i64 M, .slice av l.length cv] 25)).alloc (.cells #[.int .i64 N, .slice au m.length cu] 25) := ⟨_, rfl⟩
  have kk : Kept w2 W3 [] := by rw [hW3]; exact ((Kept.refl w2 []).alloc _).alloc _
  have s1 := two_cells (heap_alloc_new w2 (.cells #[.int .i64 M, .slice av l.length cv] 25))
  have s2 := two_cells (heap_alloc_new (w2.alloc (.cells #[.int .i64 M, .slice av l.length cv] 25)) (.cells #[.int .i64 N, .slice au m.length cu] 25))
  have s1 := ((Kept.refl (w2.alloc (.cells #[.int .i64 M, .slice av l.length cv] 25)) []).alloc (.cells #[.int .i64 N, .slice au m.length cu] 25)).two s1
  have e1 : (w2.alloc (.cells #[.int .i64 M, .slice av l.length cv] 25)).heap.size = w2.heap.size + 1 := by simp
  rw [e1] at s2
  rw [← hW3] at s1 s2
  have S := Lib.hid (show Sr W3 w2.heap.size M (.slice av l.length cv) l from ⟨s1.1, s1.2, R1.out.keep kk⟩)
  have T := Lib.hid (show Sr W3 (w2.heap.size + 1) N (.slice au m.length cu) m from ⟨s2.1, s2.2, R2.out.keep kk⟩)
  have K3 := Lib.hid (K2.out.trans kk (by simp))
  clear kk s1 s2 e1 R1 R2
  go_wp2
  rw [← hW3]
  clear hW3
  go_loopw [11, 12] (fun t11 t12 wr => ∃ (x : Int) (r : Bool), t11 = .bool r ∧ t12 = .int .i64 x ∧ 1 ≤ x ∧ x ≤ 50 ∧ Far M N l m x r ∧ Kept W3 wr []) (fun _ t12 _ => 51 - (intOf t12).toNat)
  case atStart => exact ⟨1, true, rfl, rfl, by omega, by omega, by unfold Far; simp; intro x h1 h2; omega, Kept.refl _ _⟩
  case round =>
    obtain ⟨x, r, rfl, rfl, hx1, hx2, hf, hk⟩ := hrel
    have F := Lib.hid hf; have K := Lib.hid hk; clear hf hk
    have S1 := Lib.hid (S.out.keep K.out); have T1 := Lib.hid (T.out.keep K.out)
    have z0 := S1.out.c0; have z1 := S1.out.c1; have z2 := T1.out.c0; have z3 := T1.out.c1
    by_cases hlt : x < 50
    · have F2 := Lib.hid (F.out.step hx1)
      cases r with
      | false =>
        go_wp2
        go_roundw
        case rel => exact ⟨x + 1, false, rfl, by go_num, by omega, by omega, F2.out, K.out⟩
        case measure => simp [intOf]; omega
      | true =>
        go_wp2_with fail
        refine (sees_any N x _ m wr T1.out.rd).mono ?_
        rintro e w3 ⟨rfl, hk⟩
        have K4 := Lib.hid (K.out.trans hk (by simp)); clear hk z0 z1 z2 z3
        have S4 := Lib.hid (S.out.keep K4.out)
        have z0 := S4.out.c0; have z1 := S4.out.c1
        obtain ⟨s, hs⟩ : ∃ s, s = seesB N m x := ⟨_, rfl⟩
        rw [← hs] at F2 ⊢
        clear hs
        cases s with
        | false =>
          go_wp2
          go_roundw
          case rel => exact ⟨x + 1, true, rfl, by go_num, by omega, by omega, F2.out, K4.out⟩
          case measure => simp [intOf]; omega
        | true =>
          go_wp2_with fail
          refine (sees_any M x _ l w3 S4.out.rd).mono ?_
          rintro e w4 ⟨rfl, hk⟩
          have K5 := Lib.hid (K4.out.trans hk (by simp)); clear hk z0 z1
          obtain ⟨s, hs⟩ : ∃ s, s = seesB M l x := ⟨_, rfl⟩
          rw [← hs] at F2 ⊢
          clear hs
          go_wp2
          go_roundw
          case rel => exact ⟨x + 1, s, rfl, by go_num, by omega, by omega, F2.out, K5.out⟩
          case measure => simp [intOf]; omega
    · obtain rfl : x = 50 := by omega
      go_wp2_with fail
      refine (five_any wr).mono ?_
      rintro e w3 ⟨rfl, hk⟩
      have K4 := Lib.hid (K.out.trans hk (by simp)); clear hk z0 z1 z2 z3
      have S4 := Lib.hid (S.out.keep K4.out); have T4 := Lib.hid (T.out.keep K4.out)
      have z0 := S4.out.c0; have z1 := S4.out.c1; have z2 := T4.out.c0; have z3 := T4.out.c1
      go_wp2_with fail
      refine (covers_any M N _ _ l m w3 S4.out.rd T4.out.rd G1.out G2.out (by omega) (by omega) hll hlm).mono ?_
      rintro e w4 ⟨s, rfl, hs, hk⟩
      obtain rfl : s = r := F.out.cover (by omega) hs
      have K5 := Lib.hid (K4.out.trans hk (by simp)); clear hk hs z0 z1 z2 z3
      have S5 := Lib.hid (S.out.keep K5.out); have T5 := Lib.hid (T.out.keep K5.out)
      have z0 := S5.out.c0; have z1 := S5.out.c1; have z2 := T5.out.c0; have z3 := T5.out.c1
      go_wp2_with fail
      refine (rcovers_any M N _ _ l m w4 S5.out.rd T5.out.rd G1.out G2.out (by omega) (by omega) hll hlm).mono ?_
      rintro e w5 ⟨q, rfl, hs, hk⟩
      obtain rfl : q = s := F.out.cover (by omega) hs
      have K6 := Lib.hid (K5.out.trans hk (by simp)); clear hk hs z0 z1 z2 z3
      have S6 := Lib.hid (S.out.keep K6.out)
      have z0 := S6.out.c0; have z1 := S6.out.c1
      go_wp2_with fail
      refine (covers_any M M _ _ l l w5 S6.out.rd S6.out.rd G1.out G1.out (by omega) (by omega) hll hll).mono ?_
      rintro e w6 ⟨y, rfl, hs, hk⟩
      obtain rfl : y = true := hs.2 (fun x h => h)
      have K7 := Lib.hid (K6.out.trans hk (by simp)); clear hk hs z0 z1
      go_wp2
      go_ret
      exact ⟨rfl, (K3.out.trans K7.out (by simp)).below (Nat.le_refl _) (by simp)⟩

set_option maxRecDepth 100000 in
theorem lifted (os : Os) (started : os.Started) (H : Type) (enc : TypeId × Value → H) :
    ReturnsInHanded {} Try.checked os 5 .any (Rows.snapCoversSpec.pre6 enc Try.prog Try.f5 Rows.snapCoversRow.domain false) (Rows.snapCoversSpec.post enc Try.prog Try.f5 false true false false) := by
  refine returnsInHanded_of_change (C := Try.checked) own started (by kernel_rfl) Try.func5
    (ChangeSpec.witness6 (enc := enc) (C := Try.checked) false ⟨#[], #[.int .u8 0, .int .u8 0, .slice none 0 0, .slice none 0 0], []⟩ 8 (by kernel_rfl) (by kernel_rfl) (by kernel_rfl) (by kernel_rfl)) ?_
  intro W base args ds gs before hval0 hW hcnd _
  have hval : ∀ (j : Nat) t v, Try.f5.params[j]? = some t → args[j]? = some v → Value.okWide Try.prog W .any base t v := hval0
  have hW' := hW
  obtain ⟨p, q, hA0, hV, rfl, hfz, hnd⟩ := hW
  have hA : DataW.TrodAll enc Try.prog W 0 (fun _ => true) true Try.f5.params.toList args.toList ds p := hA0
  rw [Try.params5] at hA hval
  obtain ⟨v0, vs0, d0, ds0, p0, q0, hargs, rfl, rfl, h0, r0⟩ := trodAll_cons hA
  obtain ⟨v1, vs1, d1, ds1, p1, q1, rfl, rfl, rfl, h1, r1⟩ := trodAll_cons r0
  obtain ⟨v2, vs2, d2, ds2, p2, q2, rfl, rfl, rfl, h2, r2⟩ := trodAll_cons r1
  obtain ⟨v3, vs3, d3, ds3, p3, q3, rfl, rfl, rfl, h3, r3⟩ := trodAll_cons r2
  obtain ⟨rfl, rfl, rfl⟩ := trodAll_nil r3
  obtain rfl : args = #[v0, v1, v2, v3] := by cases args; simp_all
  obtain ⟨rfl, rfl⟩ := trodVars_none hV
  obtain ⟨a0, rfl, rfl, rfl, w0⟩ := open_int Try.underlying5 (hval 0 5 v0 rfl rfl) h0
  obtain ⟨a1, rfl, rfl, rfl, w1⟩ := open_int Try.underlying5 (hval 1 5 v1 rfl rfl) h1
  obtain ⟨a2, len2, cap2, rfl⟩ := okWide_slice Try.underlying30 (hval 2 30 v2 rfl rfl)
  have k2 := h2
  have lt2 : ∀ x ∈ p2, x.block < W.heap.size := by obtain ⟨m, hm⟩ := k2; exact DataW.trod_lt m _ _ _ hm
  obtain ⟨z2, w2⟩ : ∃ zs, IsRow .u8 W a2 len2 cap2 zs := by
    obtain ⟨fuel, hf⟩ := h2
    rcases open_ints Try.underlying30 Try.underlying5 (by kernel_rfl) hf with ⟨hcs, _⟩ | ⟨x, l, c, zs, hcs, _, hl, hm, hz, _, hcell, hwz⟩
    · simp [Value.cells] at hcs
      obtain ⟨rfl, rfl, rfl⟩ := hcs
      exact ⟨[], .inl ⟨rfl, rfl, rfl, rfl⟩⟩
    · simp [Value.cells] at hcs
      obtain ⟨rfl, rfl, rfl⟩ := hcs
      exact ⟨zs, .inr ⟨_, rfl, hl, hm, by simpa using hz, hcell, hwz⟩⟩
  obtain ⟨a3, len3, cap3, rfl⟩ := okWide_slice Try.underlying30 (hval 3 30 v3 rfl rfl)
  have k3 := h3
  have lt3 : ∀ x ∈ p3, x.block < W.heap.size := by obtain ⟨m, hm⟩ := k3; exact DataW.trod_lt m _ _ _ hm
  obtain ⟨z3, w3⟩ : ∃ zs, IsRow .u8 W a3 len3 cap3 zs := by
    obtain ⟨fuel, hf⟩ := h3
    rcases open_ints Try.underlying30 Try.underlying5 (by kernel_rfl) hf with ⟨hcs, _⟩ | ⟨x, l, c, zs, hcs, _, hl, hm, hz, _, hcell, hwz⟩
    · simp [Value.cells] at hcs
      obtain ⟨rfl, rfl, rfl⟩ := hcs
      exact ⟨[], .inl ⟨rfl, rfl, rfl, rfl⟩⟩
    · simp [Value.cells] at hcs
      obtain ⟨rfl, rfl, rfl⟩ := hcs
      exact ⟨zs, .inr ⟨_, rfl, hl, hm, by simpa using hz, hcell, hwz⟩⟩
  clear hA0 hval0
  refine (walk a0 a1 a2 len2 cap2 z2 a3 len3 cap3 z3 W w0 w1 w2 w3).mono fun e W' ⟨he, bel⟩ => ?_
  subst he
  exact ⟨_, rfl, _, _, _, [], _, [], hW', trodAll_mk1 (shut_bool Try.underlying4 _), (trodAll_cons_mk (shut_int Try.underlying5 w0) (trodAll_cons_mk (shut_int Try.underlying5 w1) (trodAll_cons_mk (Below.trod laidOut (by kernel_rfl) (of_decide_eq_true (by kernel_rfl)) k2 bel lt2) (trodAll_cons_mk (Below.trod laidOut (by kernel_rfl) (of_decide_eq_true (by kernel_rfl)) k3 bel lt3) trodAll_mk0)))), rfl, bel.frame _, fun h => by cases h⟩

theorem over : Rows.snapCoversRow.holds Try.pinned (OpenSpec.ofChange Rows.snapCoversSpec) :=
  OpenClaim.holds_of_wide 5 Try.f5 rfl rfl rfl rfl rfl rfl rfl ⟨rfl, rfl, rfl, rfl, rfl⟩ rfl rfl rfl rfl rfl (by kernel_rfl) Try.func5 (by kernel_rfl)
    (of_decide_eq_true (by kernel_rfl)) (by unfold Func.isWrapper; first | (rw [if_pos (by decide +kernel)]; kernel_rfl) | (rw [if_neg (by decide +kernel)]; exact ⟨rfl, rfl⟩))
    (fun os started H enc _ => lifted os started H enc)

theorem proved : Rows.SnapCoversSaid :=
  over
end Go.Proofs.Ytfmgjmedmbieeaa.snapCovers

namespace Go.Proofs.Ytfmgjmedmbieeaa
theorem snapCovers_holds : Rows.SnapCoversSaid := snapCovers.proved
#print axioms snapCovers_holds
end Go.Proofs.Ytfmgjmedmbieeaa

