/-
  Proved: whatever the arguments are, carrierlaw09.EventTurned answers true and leaves its arguments as they were. No condition.
-/
import Derived.Test.YtkpjbmcgfdophaaEk
import Derived.ProofKit
import Derived.OpenShut
import Derived.ShutString
import Derived.ChangeOld
import Derived.Below
import Derived.Lib.SmallJoins
import Derived.Deep.DeepCutAuto
namespace Go.Proofs.Ytkpjbmcgfdophaa.eventTurned
open Go.ChangeShapes Go.WideShapes Go.ChangeAt Go.RowKit
open Go.ChangeMaps (open_string shut_string)
set_option linter.unusedVariables false

theorem own : ownKnob Try.prog.godebug = none := by kernel_rfl
theorem laidOut : laidOutB Try.prog = true := by kernel_rfl

/-- The first bytes of what is owned can be read. -/
theorem rd_take {w : World} {base g n c : Nat} {e : TypeId} {l : List UInt8} (h : Own w base e (.slice (some ⟨g, 0, none⟩) n c) l) (k : Nat) (hk : k ≤ l.length) : Rd w (.slice (some ⟨g, 0, none⟩) k c) (l.take k) := by
  have hlen : (l.take k).length = k := by rw [List.length_take]; omega
  obtain ⟨a, c', hv, hc, _, _⟩ := h.rd
  simp only [Value.slice.injEq] at hv
  obtain ⟨_, rfl, rfl⟩ := hv
  refine ⟨some ⟨g, 0, none⟩, c, by rw [hlen], by rw [hlen]; omega, by simp, fun _ => ⟨g, 0, rfl, fun i hi => ?_⟩⟩
  rw [hlen] at hi
  rw [Nat.zero_add, (own_at h i (by omega)).1]
  congr 3
  simp [List.getD, hi]

set_option maxHeartbeats 1500000 in
set_option maxRecDepth 100000 in
theorem walk (a0 a1 : Int) (a2 : ByteArray) (a3 : Int) (b3 : ByteArray) (a4 a5 : Int) (a6 : Bool) (a7 : Option Addr) (len7 cap7 : Nat) (z7 : List Int) (W : World) (w0 : (Lit.int .i64 a0).wf = true) (w1 : (Lit.int .i64 a1).wf = true) (w2 : a2.size ≤ maxLen) (w3 : (Lit.int .i64 a3).wf = true) (u3 : b3.size ≤ maxLen) (w4 : (Lit.int .u8 a4).wf = true) (w5 : (Lit.int .u8 a5).wf = true) (w7 : IsRow .u8 W a7 len7 cap7 z7) :
    Calls Try.prog 5 #[.int .i64 a0, .int .i64 a1, .string a2, .agg #[.int .i64 a3, .string b3], .int .u8 a4, .int .u8 a5, .bool a6, .slice a7 len7 cap7] W fun e w' => e = .returned (.bool true) ∧ Below W.heap.size W w' := by
  have Bd := Lib.hid (And.intro (bounds_i64 w0) (And.intro (bounds_i64 w1) (And.intro (bounds_i64 w3) (And.intro (bounds_u8 w4) (bounds_u8 w5)))))
  obtain ⟨M, rfl, hrd⟩ := isRow_rd w7
  have R := Lib.hid hrd
  clear w0 w1 w2 w3 w4 w5 u3 w7 hrd
  by_cases h1 : (60 : Int) < (a2.size : Int)
  · skip
    go_enter Try.func5, Try.ntmps5
    go_wp2_with fail
    refine (nine_any _).mono ?_
    rintro e w1 ⟨rfl, hk⟩
    have K := Lib.hid (((Kept.refl W []).alloc _).trans hk (by simp))
    have y1 := hk.cell (p := ⟨W.heap.size, 1, none⟩) (by simp) (show (W.alloc (.cells #[.int .i64 a3, .string b3] 23)).cell? ⟨W.heap.size, 1, none⟩ = some (.string b3) by simp)
    clear hk
    go_wp2_with fail
    refine (nine_any _).mono ?_
    rintro e w2 ⟨rfl, hk⟩
    have K2 := Lib.hid (K.out.trans hk (by simp)); clear hk
    go_wp2
    go_ret
    exact ⟨rfl, K2.out.below (Nat.le_refl _) (by simp)⟩
  by_cases h2 : (60 : Int) < (b3.size : Int)
  · skip
    go_enter Try.func5, Try.ntmps5
    go_wp2_with fail
    refine (nine_any _).mono ?_
    rintro e w1 ⟨rfl, hk⟩
    have K := Lib.hid (((Kept.refl W []).alloc _).trans hk (by simp))
    have y1 := hk.cell (p := ⟨W.heap.size, 1, none⟩) (by simp) (show (W.alloc (.cells #[.int .i64 a3, .string b3] 23)).cell? ⟨W.heap.size, 1, none⟩ = some (.string b3) by simp)
    clear hk
    go_wp2_with fail
    refine (nine_any _).mono ?_
    rintro e w2 ⟨rfl, hk⟩
    have K2 := Lib.hid (K.out.trans hk (by simp)); clear hk
    go_wp2
    go_ret
    exact ⟨rfl, K2.out.below (Nat.le_refl _) (by simp)⟩
  by_cases h3 : (10 : Int) < (M.length : Int)
  · skip
    go_enter Try.func5, Try.ntmps5
    go_wp2_with fail
    refine (nine_any _).mono ?_
    rintro e w1 ⟨rfl, hk⟩
    have K := Lib.hid (((Kept.refl W []).alloc _).trans hk (by simp))
    have y1 := hk.cell (p := ⟨W.heap.size, 1, none⟩) (by simp) (show (W.alloc (.cells #[.int .i64 a3, .string b3] 23)).cell? ⟨W.heap.size, 1, none⟩ = some (.string b3) by simp)
    clear hk
    go_wp2_with fail
    refine (nine_any _).mono ?_
    rintro e w2 ⟨rfl, hk⟩
    have K2 := Lib.hid (K.out.trans hk (by simp)); clear hk
    go_wp2
    go_ret
    exact ⟨rfl, K2.out.below (Nat.le_refl _) (by simp)⟩
  have hR := ofE_right a0 a1 a2 3 a4 a5 a3 b3
  have hO := ofE_ok (ow := a2) (tr := 3) (tb := a4) (kd := a5) (t := b3) Bd.out.1.2 Bd.out.2.1.2 Bd.out.2.2.1
  have HO := fun V => of_any a0 a1 a2 3 a4 a5 a3 b3 V Bd.out.2.2.2.2 Bd.out.2.2.2.1
  obtain ⟨⟨b0, b1, b2, b3', b4, b5, b6', b7⟩, hE⟩ : ∃ E, E = ofE a0 a1 a2 3 a4 a5 a3 b3 := ⟨_, rfl⟩
  rw [← hE] at hR hO HO
  obtain ⟨L0, hL0⟩ : ∃ L, L = Ev.encL ⟨b0, b1, b2, b3', b4, b5, b6', b7⟩ := ⟨_, rfl⟩
  have hLl : L0.length ≤ 200 := by rw [hL0]; exact Ev.encL_len hR hO
  have hLp : 0 < L0.length := by
    have := numL_pos b0.toNat
    rw [hL0]
    simp only [Ev.encL, List.length_append]
    omega
  have HO : RowKit.Hid (∀ V, Calls Try.prog 10 #[.int .i64 a0, .int .i64 a1, .string a2, .int .i64 3, .int .u8 a4, .int .u8 a5, .agg #[.int .i64 a3, .string b3]] V fun e w' => e = .returned (.agg #[.int .i64 b0, .int .i64 b1, .string b2, .int .i64 b3', .int .i64 b4, .int .u8 b5, .int .i64 b6', .string b7]) ∧ Kept V w' []) := Lib.hid HO
  have HF : RowKit.Hid (∀ V, Calls Try.prog 15 #[.agg #[.int .i64 b0, .int .i64 b1, .string b2, .int .i64 b3', .int .i64 b4, .int .u8 b5, .int .i64 b6', .string b7]] V fun e w' => ∃ v', e = .returned v' ∧ Own w' V.heap.size 5 v' L0 ∧ Kept V w' []) := Lib.hid (fun V => by rw [hL0]; exact refencode_any _ hR hO V)
  obtain ⟨L, hL⟩ : ∃ L, L = L0 ++ M := ⟨_, rfl⟩
  have hl : L.length ≤ 210 ∧ 0 < L.length := by rw [hL, List.length_append]; omega
  obtain ⟨at_, hat⟩ := Int.eq_ofNat_of_zero_le Bd.out.2.2.2.1.1
  obtain ⟨b, hb⟩ : ∃ b : UInt8, a5 = (b.toNat : Int) := ⟨UInt8.ofNat a5.toNat, by have := Bd.out.2.2.2.2; rw [UInt8.toNat_ofNat']; omega⟩
  have hat255 : at_ ≤ 255 := by have := Bd.out.2.2.2.1; omega
  obtain ⟨k, hk⟩ : ∃ k, k = at_ % L.length := ⟨_, rfl⟩
  have hkl : k < L.length := by rw [hk]; exact Nat.mod_lt _ hl.2
  have hkm : (at_ : Int).tmod (L.length : Int) = (k : Int) := by rw [hk, Int.tmod_eq_emod_of_nonneg (Int.natCast_nonneg _), ← Int.natCast_emod]
  have HAT := Lib.hid hat; have HB := Lib.hid hb; have HL := Lib.hid hL; have HK := Lib.hid hk; have Hl := Lib.hid hl; have HLl := Lib.hid hLl
  have hn0 : ((L.length : Int) == 0) = false := by rw [beq_eq_false_iff_ne]; omega
  clear hR hO hE hL0 hL hk hl hLp hLl hat hb
  go_enter Try.func5, Try.ntmps5
  go_wp2_with fail
  refine (nine_any _).mono ?_
  rintro e w1 ⟨rfl, hk⟩
  have K1 := Lib.hid (((Kept.refl W []).alloc _).trans hk (by simp))
  have y0 := hk.cell (p := ⟨W.heap.size, 0, none⟩) (by simp) (show (W.alloc (.cells #[.int .i64 a3, .string b3] 23)).cell? ⟨W.heap.size, 0, none⟩ = some (.int .i64 a3) by simp)
  have y1 := hk.cell (p := ⟨W.heap.size, 1, none⟩) (by simp) (show (W.alloc (.cells #[.int .i64 a3, .string b3] 23)).cell? ⟨W.heap.size, 1, none⟩ = some (.string b3) by simp)
  clear hk
  go_wp2_with fail
  refine (HO.out _).mono ?_
  rintro e w2 ⟨rfl, k2⟩
  have K2 := Lib.hid (K1.out.trans k2 (by simp))
  clear k2 y0 y1
  go_wp2_with fail
  refine (HF.out _).mono ?_
  rintro e w3 ⟨v3, rfl, o3, k3⟩
  have K3 := Lib.hid (K2.out.trans k3 (by simp)); have O3 := Lib.hid o3.rd
  clear k3 o3
  go_wp2_with fail
  refine (res_join W w3 _ _ L0 M K3.out O3.out (R.out.kept K3.out (by simp)) (by have := HLl.out; omega) (by omega)).mono ?_
  rintro e w5 ⟨v5, rfl, o5, k5, -⟩
  rw [← HL.out] at o5
  obtain ⟨av, cv, hv5⟩ := o5.shape
  obtain ⟨g, rfl⟩ : ∃ g, av = some ⟨g, 0, none⟩ := by
    rcases o5.2 with ⟨h1, h2⟩ | ⟨g, cap, cur, h1, _⟩
    · have := Hl.out; omega
    · rw [h1] at hv5; simp only [Value.slice.injEq] at hv5; exact ⟨g, hv5.1.symm⟩
  subst hv5
  have hcl : L.length ≤ cv := by
    obtain ⟨a, c', hv, hc, _⟩ := o5.rd
    simp only [Value.slice.injEq] at hv
    obtain ⟨_, _, rfl⟩ := hv
    exact hc
  have hgW := (o5.lt g rfl).1
  have O5 := Lib.hid o5; have K5 := Lib.hid k5
  clear o5 k5
  have hkc : (k : Int) ≤ (cv : Int) := by omega
  obtain ⟨n, hn⟩ : ∃ n, n = L.length := ⟨_, rfl⟩
  rw [← hn] at hkm hn0 hkl hcl
  rw [HAT.out]
  have HN := Lib.hid hn
  have HKL := Lib.hid hkl
  rw [← hn] at O5 ⊢
  have x1 : (k : Int) < (n : Int) := by omega
  have x2 : k ≤ n := by omega
  have x3 : k < n := hkl
  clear hn
  cases a6 with
  | true =>
    have R6 := Lib.hid (rd_take O5.out k (by have := HN.out; omega))
    have K6 := K5
    obtain ⟨L6, hL6⟩ : ∃ L6, L6 = L.take k := ⟨_, rfl⟩
    have hl6 : L6.length ≤ 210 := by have := Hl.out; rw [hL6, List.length_take]; omega
    rw [← hL6] at R6
    clear hL6
    obtain ⟨⟨c0, c1, c2, c3, c4, c5, c6, c7⟩, hE⟩ : ∃ E, E = cEv L6 := ⟨_, rfl⟩
    obtain ⟨x, hx⟩ : ∃ x, x = cErr L6 := ⟨_, rfl⟩
    have HD : RowKit.Hid (∀ v V, Rd V v L6 → Calls Try.prog 12 #[v] V fun e w' => e = .returned (.tuple #[.agg #[.int .i64 c0, .int .i64 c1, .string c2, .int .i64 c3, .int .i64 c4, .int .u8 c5, .int .i64 c6, .string c7], .int .i64 x]) ∧ Kept V w' []) := Lib.hid (fun v V h => by
      have := decode_any v L6 V h (by omega)
      rw [← hE, ← hx] at this
      exact this)
    have HF2 : RowKit.Hid (∀ v V, Rd V v L6 → Calls Try.prog 16 #[v] V fun e w' => e = .returned (.tuple #[.agg #[.int .i64 c0, .int .i64 c1, .string c2, .int .i64 c3, .int .i64 c4, .int .u8 c5, .int .i64 c6, .string c7], .int .i64 x]) ∧ Kept V w' []) := Lib.hid (fun v V h => by
      have := refdecode_any v L6 V h (by omega)
      rw [← (dec_same L6).1, ← (dec_same L6).2, ← hE, ← hx] at this
      exact this)
    have HX : RowKit.Hid (x = 0 → (Ev.mk c0 c1 c2 c3 c4 c5 c6 c7).Right ∧ (Ev.mk c0 c1 c2 c3 c4 c5 c6 c7).Ok ∧ (Ev.mk c0 c1 c2 c3 c4 c5 c6 c7).encL = L6) := Lib.hid (fun h => by
      rw [hE, (dec_same L6).2]
      exact dec_ok (by rw [← (dec_same L6).1, ← hx]; exact h))
    have QE := ev_eq c0 c1 c2 c3 c4 c5 c6 c7
    have HL6 := Lib.hid hl6
    clear hE hx hl6
    go_wp2_with fail
    refine (HD.out _ _ R6.out).mono ?_
    rintro e w7 ⟨rfl, k7⟩
    have K7 := Lib.hid (K6.out.trans k7 (by simp)); have R7 := Lib.hid (R6.out.kept k7 (by simp))
    clear k7
    go_wp2_with fail
    refine (HF2.out _ _ (R7.out.kept ((Kept.refl w7 []).alloc _) (by simp))).mono ?_
    rintro e w8 ⟨rfl, k8⟩
    have hb8 := k8.heap (by simp) (heap_alloc_new w7 (.cells #[.int .i64 c0, .int .i64 c1, .string c2, .int .i64 c3, .int .i64 c4, .int .u8 c5, .int .i64 c6, .string c7] 26))
    have hlt : w7.heap.size < w8.heap.size := (Array.getElem?_eq_some_iff.1 hb8).1
    have hb9 := ((Kept.refl w8 []).alloc (.cells #[.int .i64 c0, .int .i64 c1, .string c2, .int .i64 c3, .int .i64 c4, .int .u8 c5, .int .i64 c6, .string c7] 26)).heap (by simp) hb8
    have hc9 := heap_alloc_new w8 (.cells #[.int .i64 c0, .int .i64 c1, .string c2, .int .i64 c3, .int .i64 c4, .int .u8 c5, .int .i64 c6, .string c7] 26)
    have kk := (((Kept.refl w7 []).alloc _).trans k8 (by simp)).alloc (.cells #[.int .i64 c0, .int .i64 c1, .string c2, .int .i64 c3, .int .i64 c4, .int .u8 c5, .int .i64 c6, .string c7] 26)
    have K9 := Lib.hid (K7.out.trans kk (by simp)); have R9 := Lib.hid (R7.out.kept kk (by simp))
    have HB9 := Lib.hid hb9; have HC9 := Lib.hid hc9
    clear k8 hb8 hb9 hc9 kk
    obtain ⟨w9, hw9⟩ : ∃ w9, w9 = w8.alloc (.cells #[.int .i64 c0, .int .i64 c1, .string c2, .int .i64 c3, .int .i64 c4, .int .u8 c5, .int .i64 c6, .string c7] 26) := ⟨_, rfl⟩
    rw [← hw9] at K9 R9 HB9 HC9
    have pp := fun j => cell_of_row w9 w7.heap.size j _ _ _ HB9.out
    have qq := fun j => cell_of_row w9 w8.heap.size j _ _ _ HC9.out
    have p0 := pp 0; have p1 := pp 1; have p2 := pp 2; have p3 := pp 3; have p4 := pp 4; have p5 := pp 5; have p6 := pp 6; have p7 := pp 7
    have q0 := qq 0; have q1 := qq 1; have q2 := qq 2; have q3 := qq 3; have q4 := qq 4; have q5 := qq 5; have q6 := qq 6; have q7 := qq 7
    simp at p0 p1 p2 p3 p4 p5 p6 p7 q0 q1 q2 q3 q4 q5 q6 q7
    clear pp qq
    go_upto_region 10 with fail
    rw [← hw9]
    clear hw9
    by_cases hx : x = 0
    · obtain ⟨hR, hO, hL⟩ := HX.out hx
      have HRt : RowKit.Hid (∀ V, Calls Try.prog 13 #[.agg #[.int .i64 c0, .int .i64 c1, .string c2, .int .i64 c3, .int .i64 c4, .int .u8 c5, .int .i64 c6, .string c7]] V fun e w' => e = .returned (.bool true) ∧ Kept V w' []) := Lib.hid (fun V => by
        have := right_any ⟨c0, c1, c2, c3, c4, c5, c6, c7⟩ V
        rw [(Ev.rightB_iff _).2 hR] at this
        exact this)
      have HE : RowKit.Hid (∀ V, Calls Try.prog 11 #[.agg #[.int .i64 c0, .int .i64 c1, .string c2, .int .i64 c3, .int .i64 c4, .int .u8 c5, .int .i64 c6, .string c7]] V fun e w' => ∃ v', e = .returned v' ∧ Own w' V.heap.size 5 v' L6 ∧ Kept V w' []) := Lib.hid (fun V => by rw [← hL]; exact encode_any _ hR hO V)
      clear hR hO hL
      subst hx
      go_wp2_with fail
      refine (HRt.out _).mono ?_
      rintro e w10 ⟨rfl, k10⟩
      have K10 := Lib.hid (K9.out.trans k10 (by simp)); have R10 := Lib.hid (R9.out.kept k10 (by simp))
      have HB10 := Lib.hid (k10.heap (by simp) HB9.out)
      have pp := fun j => cell_of_row w10 w7.heap.size j _ _ _ HB10.out
      have r0 := pp 0; have r1 := pp 1; have r2 := pp 2; have r3 := pp 3; have r4 := pp 4; have r5 := pp 5; have r6 := pp 6; have r7 := pp 7
      simp at r0 r1 r2 r3 r4 r5 r6 r7
      clear pp k10 p0 p1 p2 p3 p4 p5 p6 p7 q0 q1 q2 q3 q4 q5 q6 q7
      go_wp2_with fail
      refine (HE.out _).mono ?_
      rintro e w11 ⟨v11, rfl, o11, k11⟩
      have K11 := Lib.hid (K10.out.trans k11 (by simp)); have R11 := Lib.hid (R10.out.kept k11 (by simp)); have O11 := Lib.hid o11.rd
      clear k11 o11 r0 r1 r2 r3 r4 r5 r6 r7
      go_wp2_with fail
      refine (alike_any _ _ L6 L6 w11 O11.out R11.out (by have := HL6.out; omega)).mono ?_
      rintro e w12 ⟨rfl, k12⟩
      have hLL : (L6 == L6) = true := by simp
      have K12 := Lib.hid (K11.out.trans k12 (by simp))
      clear k12
      go_wp2
      go_ret
      exact ⟨rfl, K12.out.below (Nat.le_refl _) (by simp)⟩
    · have hx0 : (x != 0) = true := by simpa using hx
      clear hx
      go_wp2
      go_ret
      exact ⟨rfl, K9.out.below (Nat.le_refl _) (by simp)⟩
  | false =>
    obtain ⟨z0, f0⟩ := own_at O5.out k (by have := HN.out; omega)
    have o6 := own_store O5.out k (by have := HN.out; omega) b
    rw [← HB.out] at o6
    have R6 := Lib.hid o6.rd
    have K6 := Lib.hid (K5.out.setCell (p := ⟨g, k, none⟩) (.inr hgW) (.int .u8 a5))
    obtain ⟨L6, hL6⟩ : ∃ L6, L6 = L.set k b := ⟨_, rfl⟩
    have hl6 : L6.length ≤ 210 := by have := Hl.out; rw [hL6, List.length_set]; omega
    rw [← hL6] at R6
    clear hL6 o6
    obtain ⟨⟨c0, c1, c2, c3, c4, c5, c6, c7⟩, hE⟩ : ∃ E, E = cEv L6 := ⟨_, rfl⟩
    obtain ⟨x, hx⟩ : ∃ x, x = cErr L6 := ⟨_, rfl⟩
    have HD : RowKit.Hid (∀ v V, Rd V v L6 → Calls Try.prog 12 #[v] V fun e w' => e = .returned (.tuple #[.agg #[.int .i64 c0, .int .i64 c1, .string c2, .int .i64 c3, .int .i64 c4, .int .u8 c5, .int .i64 c6, .string c7], .int .i64 x]) ∧ Kept V w' []) := Lib.hid (fun v V h => by
      have := decode_any v L6 V h (by omega)
      rw [← hE, ← hx] at this
      exact this)
    have HF2 : RowKit.Hid (∀ v V, Rd V v L6 → Calls Try.prog 16 #[v] V fun e w' => e = .returned (.tuple #[.agg #[.int .i64 c0, .int .i64 c1, .string c2, .int .i64 c3, .int .i64 c4, .int .u8 c5, .int .i64 c6, .string c7], .int .i64 x]) ∧ Kept V w' []) := Lib.hid (fun v V h => by
      have := refdecode_any v L6 V h (by omega)
      rw [← (dec_same L6).1, ← (dec_same L6).2, ← hE, ← hx] at this
      exact this)
    have HX : RowKit.Hid (x = 0 → (Ev.mk c0 c1 c2 c3 c4 c5 c6 c7).Right ∧ (Ev.mk c0 c1 c2 c3 c4 c5 c6 c7).Ok ∧ (Ev.mk c0 c1 c2 c3 c4 c5 c6 c7).encL = L6) := Lib.hid (fun h => by
      rw [hE, (dec_same L6).2]
      exact dec_ok (by rw [← (dec_same L6).1, ← hx]; exact h))
    have QE := ev_eq c0 c1 c2 c3 c4 c5 c6 c7
    have HL6 := Lib.hid hl6
    clear hE hx hl6
    go_wp2_with fail
    refine (HD.out _ _ R6.out).mono ?_
    rintro e w7 ⟨rfl, k7⟩
    have K7 := Lib.hid (K6.out.trans k7 (by simp)); have R7 := Lib.hid (R6.out.kept k7 (by simp))
    clear k7
    go_wp2_with fail
    refine (HF2.out _ _ (R7.out.kept ((Kept.refl w7 []).alloc _) (by simp))).mono ?_
    rintro e w8 ⟨rfl, k8⟩
    have hb8 := k8.heap (by simp) (heap_alloc_new w7 (.cells #[.int .i64 c0, .int .i64 c1, .string c2, .int .i64 c3, .int .i64 c4, .int .u8 c5, .int .i64 c6, .string c7] 26))
    have hlt : w7.heap.size < w8.heap.size := (Array.getElem?_eq_some_iff.1 hb8).1
    have hb9 := ((Kept.refl w8 []).alloc (.cells #[.int .i64 c0, .int .i64 c1, .string c2, .int .i64 c3, .int .i64 c4, .int .u8 c5, .int .i64 c6, .string c7] 26)).heap (by simp) hb8
    have hc9 := heap_alloc_new w8 (.cells #[.int .i64 c0, .int .i64 c1, .string c2, .int .i64 c3, .int .i64 c4, .int .u8 c5, .int .i64 c6, .string c7] 26)
    have kk := (((Kept.refl w7 []).alloc _).trans k8 (by simp)).alloc (.cells #[.int .i64 c0, .int .i64 c1, .string c2, .int .i64 c3, .int .i64 c4, .int .u8 c5, .int .i64 c6, .string c7] 26)
    have K9 := Lib.hid (K7.out.trans kk (by simp)); have R9 := Lib.hid (R7.out.kept kk (by simp))
    have HB9 := Lib.hid hb9; have HC9 := Lib.hid hc9
    clear k8 hb8 hb9 hc9 kk
    obtain ⟨w9, hw9⟩ : ∃ w9, w9 = w8.alloc (.cells #[.int .i64 c0, .int .i64 c1, .string c2, .int .i64 c3, .int .i64 c4, .int .u8 c5, .int .i64 c6, .string c7] 26) := ⟨_, rfl⟩
    rw [← hw9] at K9 R9 HB9 HC9
    have pp := fun j => cell_of_row w9 w7.heap.size j _ _ _ HB9.out
    have qq := fun j => cell_of_row w9 w8.heap.size j _ _ _ HC9.out
    have p0 := pp 0; have p1 := pp 1; have p2 := pp 2; have p3 := pp 3; have p4 := pp 4; have p5 := pp 5; have p6 := pp 6; have p7 := pp 7
    have q0 := qq 0; have q1 := qq 1; have q2 := qq 2; have q3 := qq 3; have q4 := qq 4; have q5 := qq 5; have q6 := qq 6; have q7 := qq 7
    simp at p0 p1 p2 p3 p4 p5 p6 p7 q0 q1 q2 q3 q4 q5 q6 q7
    clear pp qq
    go_upto_region 10 with fail
    rw [← hw9]
    clear hw9
    by_cases hx : x = 0
    · obtain ⟨hR, hO, hL⟩ := HX.out hx
      have HRt : RowKit.Hid (∀ V, Calls Try.prog 13 #[.agg #[.int .i64 c0, .int .i64 c1, .string c2, .int .i64 c3, .int .i64 c4, .int .u8 c5, .int .i64 c6, .string c7]] V fun e w' => e = .returned (.bool true) ∧ Kept V w' []) := Lib.hid (fun V => by
        have := right_any ⟨c0, c1, c2, c3, c4, c5, c6, c7⟩ V
        rw [(Ev.rightB_iff _).2 hR] at this
        exact this)
      have HE : RowKit.Hid (∀ V, Calls Try.prog 11 #[.agg #[.int .i64 c0, .int .i64 c1, .string c2, .int .i64 c3, .int .i64 c4, .int .u8 c5, .int .i64 c6, .string c7]] V fun e w' => ∃ v', e = .returned v' ∧ Own w' V.heap.size 5 v' L6 ∧ Kept V w' []) := Lib.hid (fun V => by rw [← hL]; exact encode_any _ hR hO V)
      clear hR hO hL
      subst hx
      go_wp2_with fail
      refine (HRt.out _).mono ?_
      rintro e w10 ⟨rfl, k10⟩
      have K10 := Lib.hid (K9.out.trans k10 (by simp)); have R10 := Lib.hid (R9.out.kept k10 (by simp))
      have HB10 := Lib.hid (k10.heap (by simp) HB9.out)
      have pp := fun j => cell_of_row w10 w7.heap.size j _ _ _ HB10.out
      have r0 := pp 0; have r1 := pp 1; have r2 := pp 2; have r3 := pp 3; have r4 := pp 4; have r5 := pp 5; have r6 := pp 6; have r7 := pp 7
      simp at r0 r1 r2 r3 r4 r5 r6 r7
      clear pp k10 p0 p1 p2 p3 p4 p5 p6 p7 q0 q1 q2 q3 q4 q5 q6 q7
      go_wp2_with fail
      refine (HE.out _).mono ?_
      rintro e w11 ⟨v11, rfl, o11, k11⟩
      have K11 := Lib.hid (K10.out.trans k11 (by simp)); have R11 := Lib.hid (R10.out.kept k11 (by simp)); have O11 := Lib.hid o11.rd
      clear k11 o11 r0 r1 r2 r3 r4 r5 r6 r7
      go_wp2_with fail
      refine (alike_any _ _ L6 L6 w11 O11.out R11.out (by have := HL6.out; omega)).mono ?_
      rintro e w12 ⟨rfl, k12⟩
      have hLL : (L6 == L6) = true := by simp
      have K12 := Lib.hid (K11.out.trans k12 (by simp))
      clear k12
      go_wp2
      go_ret
      exact ⟨rfl, K12.out.below (Nat.le_refl _) (by simp)⟩
    · have hx0 : (x != 0) = true := by simpa using hx
      clear hx
      go_wp2
      go_ret
      exact ⟨rfl, K9.out.below (Nat.le_refl _) (by simp)⟩

set_option maxRecDepth 100000 in
theorem lifted (os : Os) (started : os.Started) (H : Type) (enc : TypeId × Value → H) :
    ReturnsInHanded {} Try.checked os 5 .any (Rows.eventTurnedSpec.pre6 enc Try.prog Try.f5 Rows.eventTurnedRow.domain false) (Rows.eventTurnedSpec.post enc Try.prog Try.f5 false true false false) := by
  refine returnsInHanded_of_change (C := Try.checked) own started (by kernel_rfl) Try.func5
    (ChangeSpec.witness6 (enc := enc) (C := Try.checked) false ⟨#[], #[.int .i64 0, .int .i64 0, .string ByteArray.empty, .agg #[.int .i64 0, .string ByteArray.empty], .int .u8 0, .int .u8 0, .bool false, .slice none 0 0], []⟩ 8 (by kernel_rfl) (by kernel_rfl) (by kernel_rfl) (by kernel_rfl)) ?_
  intro W base args ds gs before hval0 hW hcnd _
  have hval : ∀ (j : Nat) t v, Try.f5.params[j]? = some t → args[j]? = some v → Value.okWide Try.prog W .any base t v := hval0
  have hW' := hW
  obtain ⟨p, q, hA0, hV, rfl, hfz, hnd⟩ := hW
  have hA : DataW.TrodAll enc Try.prog W 0 (fun _ => true) true Try.f5.params.toList args.toList ds p := hA0
  rw [Try.params5] at hA hval
  obtain ⟨v0, vs0, d0, ds0, p0, q0, hargs, rfl, rfl, h0, r0⟩ := trodAll_cons hA
  obtain ⟨v1, vs1, d1, ds1, p1, q1, rfl, rfl, rfl, h1, r1⟩ := trodAll_cons r0
  obtain ⟨v2, vs2, d2, ds2, p2, q2, rfl, rfl, rfl, h2, r2⟩ := trodAll_cons r1
  obtain ⟨v3, vs3, d3, ds3, p3, q3, rfl, rfl, rfl, h3, r3⟩ := trodAll_cons r2
  obtain ⟨v4, vs4, d4, ds4, p4, q4, rfl, rfl, rfl, h4, r4⟩ := trodAll_cons r3
  obtain ⟨v5, vs5, d5, ds5, p5, q5, rfl, rfl, rfl, h5, r5⟩ := trodAll_cons r4
  obtain ⟨v6, vs6, d6, ds6, p6, q6, rfl, rfl, rfl, h6, r6⟩ := trodAll_cons r5
  obtain ⟨v7, vs7, d7, ds7, p7, q7, rfl, rfl, rfl, h7, r7⟩ := trodAll_cons r6
  obtain ⟨rfl, rfl, rfl⟩ := trodAll_nil r7
  obtain rfl : args = #[v0, v1, v2, v3, v4, v5, v6, v7] := by cases args; simp_all
  obtain ⟨rfl, rfl⟩ := trodVars_none hV
  obtain ⟨a0, rfl, rfl, rfl, w0⟩ := open_int Try.underlying2 (hval 0 2 v0 rfl rfl) h0
  obtain ⟨a1, rfl, rfl, rfl, w1⟩ := open_int Try.underlying2 (hval 1 2 v1 rfl rfl) h1
  obtain ⟨a2, rfl, rfl, rfl, w2⟩ := open_string Try.underlying9 (hval 2 9 v2 rfl rfl) h2
  obtain ⟨x3, z3, y3, yy3, m3, rfl, rfl, rfl, hy3, hz3⟩ := Joins.open_agg2 Try.underlying23 (by kernel_rfl) (show Try.prog.cellsOf 23 = 2 by kernel_rfl) (hval 3 23 v3 rfl rfl) h3
  obtain ⟨a3, e3, rfl, w3⟩ := DataW.trod_int Try.underlying2 hy3
  obtain ⟨b3, g3, rfl, u3⟩ := DataW.trod_string Try.underlying9 hz3
  simp at e3 g3
  subst e3 g3
  obtain ⟨a4, rfl, rfl, rfl, w4⟩ := open_int Try.underlying5 (hval 4 5 v4 rfl rfl) h4
  obtain ⟨a5, rfl, rfl, rfl, w5⟩ := open_int Try.underlying5 (hval 5 5 v5 rfl rfl) h5
  obtain ⟨a6, rfl, rfl, rfl⟩ := open_bool Try.underlying4 (hval 6 4 v6 rfl rfl) h6
  obtain ⟨a7, len7, cap7, rfl⟩ := okWide_slice Try.underlying28 (hval 7 28 v7 rfl rfl)
  have k7 := h7
  have lt7 : ∀ x ∈ p7, x.block < W.heap.size := by obtain ⟨m, hm⟩ := k7; exact DataW.trod_lt m _ _ _ hm
  obtain ⟨z7, w7⟩ : ∃ zs, IsRow .u8 W a7 len7 cap7 zs := by
    obtain ⟨fuel, hf⟩ := h7
    rcases open_ints Try.underlying28 Try.underlying5 (by kernel_rfl) hf with ⟨hcs, _⟩ | ⟨x, l, c, zs, hcs, _, hl, hm, hz, _, hcell, hwz⟩
    · simp [Value.cells] at hcs
      obtain ⟨rfl, rfl, rfl⟩ := hcs
      exact ⟨[], .inl ⟨rfl, rfl, rfl, rfl⟩⟩
    · simp [Value.cells] at hcs
      obtain ⟨rfl, rfl, rfl⟩ := hcs
      exact ⟨zs, .inr ⟨_, rfl, hl, hm, by simpa using hz, hcell, hwz⟩⟩
  clear hA0 hval0
  refine (walk a0 a1 a2 a3 b3 a4 a5 a6 a7 len7 cap7 z7 W w0 w1 w2 w3 u3 w4 w5 w7).mono fun e W' ⟨he, bel⟩ => ?_
  subst he
  exact ⟨_, rfl, _, _, _, [], _, [], hW', trodAll_mk1 (shut_bool Try.underlying4 _), (trodAll_cons_mk (shut_int Try.underlying2 w0) (trodAll_cons_mk (shut_int Try.underlying2 w1) (trodAll_cons_mk (shut_string Try.underlying9 w2) (trodAll_cons_mk (Joins.shut_agg2 (P := Try.prog) (y0 := (.lit (.int .i64 a3), [])) (y1 := (.lit (.string b3.data.toList), [])) Try.underlying23 (by kernel_rfl) (show Try.prog.cellsOf 23 = 2 by kernel_rfl) ⟨1, by simp [DataW.trod, Try.underlying2, w3]⟩ ⟨1, by simp [DataW.trod, Try.underlying9, u3]⟩) (trodAll_cons_mk (shut_int Try.underlying5 w4) (trodAll_cons_mk (shut_int Try.underlying5 w5) (trodAll_cons_mk (shut_bool Try.underlying4 a6) (trodAll_cons_mk (Below.trod laidOut (by kernel_rfl) (of_decide_eq_true (by kernel_rfl)) k7 bel lt7) trodAll_mk0)))))))), rfl, bel.frame _, fun h => by cases h⟩

theorem over : Rows.eventTurnedRow.holds Try.pinned (OpenSpec.ofChange Rows.eventTurnedSpec) :=
  OpenClaim.holds_of_wide 5 Try.f5 rfl rfl rfl rfl rfl rfl rfl ⟨rfl, rfl, rfl, rfl, rfl⟩ rfl rfl rfl rfl rfl (by kernel_rfl) Try.func5 (by kernel_rfl)
    (of_decide_eq_true (by kernel_rfl)) (by unfold Func.isWrapper; first | (rw [if_pos (by decide +kernel)]; kernel_rfl) | (rw [if_neg (by decide +kernel)]; exact ⟨rfl, rfl⟩))
    (fun os started H enc _ => lifted os started H enc)

theorem proved : Rows.EventTurnedSaid :=
  over
end Go.Proofs.Ytkpjbmcgfdophaa.eventTurned

namespace Go.Proofs.Ytkpjbmcgfdophaa
theorem eventTurned_holds : Rows.EventTurnedSaid := eventTurned.proved
#print axioms eventTurned_holds
end Go.Proofs.Ytkpjbmcgfdophaa

