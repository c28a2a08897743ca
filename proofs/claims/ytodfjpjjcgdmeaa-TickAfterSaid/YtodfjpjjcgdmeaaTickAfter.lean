/-
  Proved: whatever the arguments are, carrierlaw11.TickAfter answers true and leaves its arguments as they were. No condition.
-/
import Derived.Test.YtodfjpjjcgdmeaaKj
import Derived.Test.YtodfjpjjcgdmeaaRows
import Derived.Test.YtodfjpjjcgdmeaaChecked
import Derived.ProofKit
import Derived.OpenShut
import Derived.ChangeOld
import Derived.Below
import Derived.Deep.LoopGhost
namespace Go.Proofs.Ytodfjpjjcgdmeaa.tickAfter
open Go.ChangeShapes Go.WideShapes Go.ChangeAt Go.RowKit
set_option linter.unusedVariables false

theorem own : ownKnob Try.prog.godebug = none := by kernel_rfl
theorem laidOut : laidOutB Try.prog = true := by kernel_rfl

/-- So many, each one greater and later. -/
def risP (k : Nat) : List Pt := seqP (fun i => 1 + (i : Int)) (fun i => i) k
theorem ris_ok {k : Nat} (h : k ≤ 20) : Okp (risP k) := okp_seq (by omega) (fun i hi => by omega)
theorem ris_add {k : Nat} (h : k < 20) : addS (risP k) (1 + (k : Int)) [] (k : Int) = risP (k + 1) :=
  addS_seq (by omega) (by omega) (fun i hi => by omega) rfl rfl
theorem spotN_int (x c : Int) : (spotN x c : Int) = max 0 (max x (c - 1)) := by unfold spotN; omega

set_option maxHeartbeats 8000000 in
set_option maxRecDepth 100000 in
theorem walk (a0 a1 a2 : Int) (w0 : (Lit.int .u8 a0).wf = true) (w1 : (Lit.int .u8 a1).wf = true) (w2 : (Lit.int .i64 a2).wf = true) (W : World) :
    Calls Try.prog 6 #[.int .u8 a0, .int .u8 a1, .int .i64 a2] W fun e w' => e = .returned (.bool true) ∧ Below W.heap.size W w' := by
  have B0 := bounds_u8 w0
  have B1 := bounds_u8 w1
  have B2 := bounds_i64 w2
  obtain ⟨r, hr⟩ : ∃ r : Nat, a0.tmod 20 = r := ⟨(a0.tmod 20).toNat, by have := Int.tmod_nonneg 20 B0.1; omega⟩
  have hr20 : r < 20 := by have := Int.tmod_lt_of_pos a0 (show (0 : Int) < 20 by omega); omega
  obtain ⟨b, hb⟩ : ∃ b : Nat, a1.tmod 25 = b := ⟨(a1.tmod 25).toNat, by have := Int.tmod_nonneg 25 B1.1; omega⟩
  have hb25 : b < 25 := by have := Int.tmod_lt_of_pos a1 (show (0 : Int) < 25 by omega); omega
  obtain ⟨u, hu⟩ : ∃ u : Int, a2.tmod 25 = u := ⟨_, rfl⟩
  have hu25 : -25 < u ∧ u < 25 := by rw [← hu]; exact ⟨Int.lt_tmod_of_pos a2 (by omega), Int.tmod_lt_of_pos a2 (by omega)⟩
  obtain ⟨k, hk⟩ : ∃ k : Nat, k = r + 1 := ⟨_, rfl⟩
  have xk : 1 + (r : Int) = (k : Int) := by omega
  have hk0 : 0 < k := by omega
  have hk20 : k ≤ 20 := by omega
  have m1 : IntKind.i64.wrap (r : Int) = r := by rw [IntKind.wrap_i64]; omega
  have HB := Lib.hid hb; have HU := Lib.hid hu; have U25 := Lib.hid hu25
  clear w0 B0 w1 B1 w2 B2 hk hb hu hu25
  go_enter Try.func6, Try.ntmps6
  go_wp2_with fail
  refine (trims_any W).mono ?_
  rintro e w1 ⟨rfl, k1⟩
  have K1 := Lib.hid k1; clear k1
  go_wp2_with fail
  refine (ck_new K1.out).mono ?_
  rintro e w2 ⟨h, rfl, c2⟩
  have C2 := Lib.hid (show Ck W w2 h (risP 0) from c2); clear c2
  go_wp2
  go_loopg [9] k (fun kx s9 wr => ∃ i : Nat, s9 = .int .i64 i ∧ i ≤ k ∧ k - i ≤ kx ∧ RowKit.Hid (Ck W wr h (risP i)))
  case atStart => exact ⟨0, rfl, by omega, by omega, C2.out⟩
  case round =>
    clear C2
    obtain ⟨i, rfl, hi, hkx, HC⟩ := hrel
    by_cases hlt : i < k
    · have x1 : (i : Int) < (k : Int) := by omega
      have hc := ck_add HC.out (ris_ok (by omega)) (1 + (i : Int)) none 0 [] (i : Int) (RdT.nil _) (by omega) (by simp) (by rw [risP, lastN_seq]; omega)
      rw [ris_add (by omega)] at hc
      generalize addE (risP i) (1 + (i : Int)) [] (i : Int) = E at hc
      have HA := Lib.hid hc
      clear hc
      have m5 : wrap64 (1 + (i : Int)) = 1 + (i : Int) := by simp only [wrap64]; omega
      go_wp2_with fail
      refine HA.out.mono ?_
      rintro e w3 ⟨y, rfl, _, _, c3⟩
      have C3 := Lib.hid c3; clear c3 m5
      go_wp2
      go_roundg (k - (i + 1))
      case measure => omega
      case rel => exact ⟨i + 1, by go_num, by omega, by omega, C3.out⟩
    · have x1 : ¬ (i : Int) < (k : Int) := by omega
      obtain rfl : i = k := by omega
      have ok2 := (ris_ok (k := i) (by omega)).trim (b : Int)
      have ht := ck_trim HC.out (ris_ok (by omega)) (b : Int)
      have HT := Lib.hid ht
      have q1 := aft_seq (M := fun j => 1 + (j : Int)) (t := fun j => (j : Int)) (b : Int) a2 i
      have q2 := aft_seq (M := fun j => 1 + (j : Int)) (t := fun j => (j : Int)) (b : Int) u i
      have e1 := spotN_int a2 (min (b : Int) i)
      have e2 := spotN_int u (min (b : Int) i)
      obtain ⟨S1, hS1⟩ : ∃ S, S = spotN a2 (min (b : Int) i) := ⟨_, rfl⟩
      obtain ⟨S2, hS2⟩ : ∃ S, S = spotN u (min (b : Int) i) := ⟨_, rfl⟩
      rw [← hS1] at q1 e1
      rw [← hS2] at q2 e2
      have OK2 := Lib.hid ok2; have Q1 := Lib.hid q1; have Q2 := Lib.hid q2; have E1 := Lib.hid e1; have E2 := Lib.hid e2
      obtain ⟨P, hP⟩ : ∃ P, P = trimS (risP i) (b : Int) := ⟨_, rfl⟩
      have QA : RowKit.Hid (aftS P a2 = if S1 < i then some ⟨(S1 : Int) + 1, 1 + (S1 : Int), [], (S1 : Int)⟩ else none) := Lib.hid (by rw [hP]; exact q1)
      have QB : RowKit.Hid (aftS P u = if S2 < i then some ⟨(S2 : Int) + 1, 1 + (S2 : Int), [], (S2 : Int)⟩ else none) := Lib.hid (by rw [hP]; exact q2)
      rw [← hP] at HT OK2
      have hb := HB.out; have hu := HU.out; have hu25 := U25.out
      have m2 : IntKind.i64.wrap (b : Int) = b := by rw [IntKind.wrap_i64]; omega
      have m3 : wrap64 (u + 1) = u + 1 := by simp only [wrap64]; omega
      clear ok2 ht q1 q2 e1 e2 hS1 hS2 hP HC Q1 Q2
      generalize ((risP i).length : Int) - (P.length : Int) = D at HT
      go_wp2_with fail
      refine HT.out.mono ?_
      rintro e w3 ⟨rfl, c3⟩
      have C3 := Lib.hid c3; clear c3
      go_wp2_with fail
      refine (ck_after C3.out OK2.out a2).mono ?_
      rintro e w4 ⟨y, rfl, hy, _, _, k4⟩
      have HY := Lib.hid hy
      have K4 := Lib.hid (fun o => k4.alloc o); clear hy k4
      obtain ⟨y0, y1, y2, y3, y4, y5⟩ := y
      simp only [Tk.cs]
      have AF := Lib.hid (fun o => ck_after (C3.out.keep (K4.out o)) OK2.out u)
      have G4 := Lib.hid (fun o => heap_alloc_new w4 o)
      have KX := Lib.hid (fun o => (C3.out.keep (K4.out o)).kept)
      generalize hO1 : aftS P a2 = o1 at *
      generalize hO2 : aftS P u = o2 at *
      have HO1 := Lib.hid hO1; have HO2 := Lib.hid hO2
      clear hO1 hO2
      go_wp2_with fail
      refine (AF.out _).mono ?_
      rintro e w5 ⟨z, rfl, hz, _, _, k5⟩
      obtain ⟨z0, z1, z2, z3, z4, z5⟩ := z
      simp only [Tk.cs]
      have HZ := Lib.hid hz
      have g5 := tk_cells (k5.heap (by simp) (G4.out _))
      have K5 := Lib.hid ((KX.out _).trans k5 (by simp))
      have G5 := Lib.hid g5
      clear hz k5 g5 AF KX K4 G4
      by_cases h1 : a2 < (i : Int)
      · have e1 := QA.out
        rw [if_pos (show S1 < i from by have := E1.out; omega)] at e1
        obtain ⟨N1, hN1⟩ : ∃ N1 : Int, N1 = (S1 : Int) + 1 := ⟨_, rfl⟩
        have g1 : a2 < N1 := by have := E1.out; omega
        rw [← hN1] at e1
        subst e1
        have hy := HY.out
        simp only [Tk.pl, Option.getD, Pt.mk.injEq] at hy
        obtain ⟨p0, p1, p2, p3⟩ := hy
        subst y0 y1 y4 y5
        clear hN1
        clear HY QA
        by_cases h2 : u < (i : Int)
        · have e2 := QB.out
          rw [if_pos (show S2 < i from by have := E2.out; omega)] at e2
          obtain ⟨N2, hN2⟩ : ∃ N2 : Int, N2 = (S2 : Int) + 1 := ⟨_, rfl⟩
          rw [show 1 + (S2 : Int) = N2 by omega, ← hN2] at e2
          subst e2
          have hz := HZ.out
          simp only [Tk.pl, Option.getD, Pt.mk.injEq] at hz
          obtain ⟨p0, p1, p2, p3⟩ := hz
          subst z0 z1 z4 z5
          have HN2 := Lib.hid hN2
          clear hN2
          clear HZ QB
          have t0 := fun o => ((Kept.refl w5 []).alloc o).cell (p := ⟨w4.heap.size, 0, none⟩) (by simp) G5.out.1
          by_cases y1 : (i : Int) < (b : Int)
          · have y2 : ¬ (i : Int) < 1 := by omega
            by_cases y3 : u + 1 < (i : Int)
            · have y4 : (i : Int) ≤ (i : Int) := by omega
              obtain rfl : N2 = (i : Int) := by have := E2.out; have := HN2.out; omega
              go_wp2
              go_ret
              exact ⟨rfl, (K5.out.alloc _).below (Nat.le_refl _) (by simp)⟩
            · have y4 : u + 1 ≤ (i : Int) := by omega
              obtain rfl : N2 = u + 1 := by have := E2.out; have := HN2.out; omega
              go_wp2
              go_ret
              exact ⟨rfl, (K5.out.alloc _).below (Nat.le_refl _) (by simp)⟩
          · by_cases y2 : (b : Int) < 1
            · skip
              by_cases y3 : u + 1 < 1
              · have y4 : 1 ≤ (i : Int) := by omega
                obtain rfl : N2 = 1 := by have := E2.out; have := HN2.out; omega
                go_wp2
                go_ret
                exact ⟨rfl, (K5.out.alloc _).below (Nat.le_refl _) (by simp)⟩
              · have y4 : u + 1 ≤ (i : Int) := by omega
                obtain rfl : N2 = u + 1 := by have := E2.out; have := HN2.out; omega
                go_wp2
                go_ret
                exact ⟨rfl, (K5.out.alloc _).below (Nat.le_refl _) (by simp)⟩
            · skip
              by_cases y3 : u + 1 < (b : Int)
              · have y4 : (b : Int) ≤ (i : Int) := by omega
                obtain rfl : N2 = (b : Int) := by have := E2.out; have := HN2.out; omega
                go_wp2
                go_ret
                exact ⟨rfl, (K5.out.alloc _).below (Nat.le_refl _) (by simp)⟩
              · have y4 : u + 1 ≤ (i : Int) := by omega
                obtain rfl : N2 = u + 1 := by have := E2.out; have := HN2.out; omega
                go_wp2
                go_ret
                exact ⟨rfl, (K5.out.alloc _).below (Nat.le_refl _) (by simp)⟩
        · have e2 := QB.out
          rw [if_neg (show ¬ S2 < i from by have := E2.out; omega)] at e2
          subst e2
          have hz := HZ.out
          simp only [Tk.pl, Option.getD, Pt.mk.injEq] at hz
          obtain ⟨p0, p1, p2, p3⟩ := hz
          subst z0 z1 z4 z5
          clear HZ QB
          have t0 := fun o => ((Kept.refl w5 []).alloc o).cell (p := ⟨w4.heap.size, 0, none⟩) (by simp) G5.out.1
          by_cases y1 : (i : Int) < (b : Int)
          · have y2 : ¬ (i : Int) < 1 := by omega
            by_cases y3 : u + 1 < (i : Int)
            · exact absurd y3 (by omega)
            · have y4 : ¬ u + 1 ≤ (i : Int) := by omega
              go_wp2
              go_ret
              exact ⟨rfl, (K5.out.alloc _).below (Nat.le_refl _) (by simp)⟩
          · by_cases y2 : (b : Int) < 1
            · skip
              by_cases y3 : u + 1 < 1
              · exact absurd y3 (by omega)
              · have y4 : ¬ u + 1 ≤ (i : Int) := by omega
                go_wp2
                go_ret
                exact ⟨rfl, (K5.out.alloc _).below (Nat.le_refl _) (by simp)⟩
            · skip
              by_cases y3 : u + 1 < (b : Int)
              · exact absurd y3 (by omega)
              · have y4 : ¬ u + 1 ≤ (i : Int) := by omega
                go_wp2
                go_ret
                exact ⟨rfl, (K5.out.alloc _).below (Nat.le_refl _) (by simp)⟩
      · have e1 := QA.out
        rw [if_neg (show ¬ S1 < i from by have := E1.out; omega)] at e1
        subst e1
        have hy := HY.out
        simp only [Tk.pl, Option.getD, Pt.mk.injEq] at hy
        obtain ⟨p0, p1, p2, p3⟩ := hy
        subst y0 y1 y4 y5
        clear HY QA
        by_cases h2 : u < (i : Int)
        · have e2 := QB.out
          rw [if_pos (show S2 < i from by have := E2.out; omega)] at e2
          obtain ⟨N2, hN2⟩ : ∃ N2 : Int, N2 = (S2 : Int) + 1 := ⟨_, rfl⟩
          rw [show 1 + (S2 : Int) = N2 by omega, ← hN2] at e2
          subst e2
          have hz := HZ.out
          simp only [Tk.pl, Option.getD, Pt.mk.injEq] at hz
          obtain ⟨p0, p1, p2, p3⟩ := hz
          subst z0 z1 z4 z5
          have HN2 := Lib.hid hN2
          clear hN2
          clear HZ QB
          have t0 := fun o => ((Kept.refl w5 []).alloc o).cell (p := ⟨w4.heap.size, 0, none⟩) (by simp) G5.out.1
          by_cases y1 : (i : Int) < (b : Int)
          · have y2 : ¬ (i : Int) < 1 := by omega
            by_cases y3 : u + 1 < (i : Int)
            · have y4 : (i : Int) ≤ (i : Int) := by omega
              obtain rfl : N2 = (i : Int) := by have := E2.out; have := HN2.out; omega
              go_wp2
              go_ret
              exact ⟨rfl, (K5.out.alloc _).below (Nat.le_refl _) (by simp)⟩
            · have y4 : u + 1 ≤ (i : Int) := by omega
              obtain rfl : N2 = u + 1 := by have := E2.out; have := HN2.out; omega
              go_wp2
              go_ret
              exact ⟨rfl, (K5.out.alloc _).below (Nat.le_refl _) (by simp)⟩
          · by_cases y2 : (b : Int) < 1
            · skip
              by_cases y3 : u + 1 < 1
              · have y4 : 1 ≤ (i : Int) := by omega
                obtain rfl : N2 = 1 := by have := E2.out; have := HN2.out; omega
                go_wp2
                go_ret
                exact ⟨rfl, (K5.out.alloc _).below (Nat.le_refl _) (by simp)⟩
              · have y4 : u + 1 ≤ (i : Int) := by omega
                obtain rfl : N2 = u + 1 := by have := E2.out; have := HN2.out; omega
                go_wp2
                go_ret
                exact ⟨rfl, (K5.out.alloc _).below (Nat.le_refl _) (by simp)⟩
            · skip
              by_cases y3 : u + 1 < (b : Int)
              · have y4 : (b : Int) ≤ (i : Int) := by omega
                obtain rfl : N2 = (b : Int) := by have := E2.out; have := HN2.out; omega
                go_wp2
                go_ret
                exact ⟨rfl, (K5.out.alloc _).below (Nat.le_refl _) (by simp)⟩
              · have y4 : u + 1 ≤ (i : Int) := by omega
                obtain rfl : N2 = u + 1 := by have := E2.out; have := HN2.out; omega
                go_wp2
                go_ret
                exact ⟨rfl, (K5.out.alloc _).below (Nat.le_refl _) (by simp)⟩
        · have e2 := QB.out
          rw [if_neg (show ¬ S2 < i from by have := E2.out; omega)] at e2
          subst e2
          have hz := HZ.out
          simp only [Tk.pl, Option.getD, Pt.mk.injEq] at hz
          obtain ⟨p0, p1, p2, p3⟩ := hz
          subst z0 z1 z4 z5
          clear HZ QB
          have t0 := fun o => ((Kept.refl w5 []).alloc o).cell (p := ⟨w4.heap.size, 0, none⟩) (by simp) G5.out.1
          by_cases y1 : (i : Int) < (b : Int)
          · have y2 : ¬ (i : Int) < 1 := by omega
            by_cases y3 : u + 1 < (i : Int)
            · exact absurd y3 (by omega)
            · have y4 : ¬ u + 1 ≤ (i : Int) := by omega
              go_wp2
              go_ret
              exact ⟨rfl, (K5.out.alloc _).below (Nat.le_refl _) (by simp)⟩
          · by_cases y2 : (b : Int) < 1
            · skip
              by_cases y3 : u + 1 < 1
              · exact absurd y3 (by omega)
              · have y4 : ¬ u + 1 ≤ (i : Int) := by omega
                go_wp2
                go_ret
                exact ⟨rfl, (K5.out.alloc _).below (Nat.le_refl _) (by simp)⟩
            · skip
              by_cases y3 : u + 1 < (b : Int)
              · exact absurd y3 (by omega)
              · have y4 : ¬ u + 1 ≤ (i : Int) := by omega
                go_wp2
                go_ret
                exact ⟨rfl, (K5.out.alloc _).below (Nat.le_refl _) (by simp)⟩

set_option maxRecDepth 100000 in
theorem lifted (os : Os) (started : os.Started) (H : Type) (enc : TypeId × Value → H) :
    ReturnsInHanded {} Try.checked os 6 .any (Rows.tickAfterSpec.pre6 enc Try.prog Try.f6 Rows.tickAfterRow.domain false) (Rows.tickAfterSpec.post enc Try.prog Try.f6 false true false false) := by
  refine returnsInHanded_of_change (C := Try.checked) own started (by kernel_rfl) Try.func6
    (ChangeSpec.witness6 (enc := enc) (C := Try.checked) false ⟨#[], #[.int .u8 0, .int .u8 0, .int .i64 0], []⟩ 8 (by kernel_rfl) (by kernel_rfl) (by kernel_rfl) (by kernel_rfl)) ?_
  intro W base args ds gs before hval0 hW hcnd _
  have hval : ∀ (j : Nat) t v, Try.f6.params[j]? = some t → args[j]? = some v → Value.okWide Try.prog W .any base t v := hval0
  have hW' := hW
  obtain ⟨p, q, hA0, hV, rfl, hfz, hnd⟩ := hW
  have hA : DataW.TrodAll enc Try.prog W 0 (fun _ => true) true Try.f6.params.toList args.toList ds p := hA0
  rw [Try.params6] at hA hval
  obtain ⟨v0, vs0, d0, ds0, p0, q0, hargs, rfl, rfl, h0, r0⟩ := trodAll_cons hA
  obtain ⟨v1, vs1, d1, ds1, p1, q1, rfl, rfl, rfl, h1, r1⟩ := trodAll_cons r0
  obtain ⟨v2, vs2, d2, ds2, p2, q2, rfl, rfl, rfl, h2, r2⟩ := trodAll_cons r1
  obtain ⟨rfl, rfl, rfl⟩ := trodAll_nil r2
  obtain rfl : args = #[v0, v1, v2] := by cases args; simp_all
  obtain ⟨rfl, rfl⟩ := trodVars_none hV
  obtain ⟨a0, rfl, rfl, rfl, w0⟩ := open_int Try.underlying5 (hval 0 5 v0 rfl rfl) h0
  obtain ⟨a1, rfl, rfl, rfl, w1⟩ := open_int Try.underlying5 (hval 1 5 v1 rfl rfl) h1
  obtain ⟨a2, rfl, rfl, rfl, w2⟩ := open_int Try.underlying2 (hval 2 2 v2 rfl rfl) h2
  clear hA0 hval0
  simp only [List.append_nil] at hW'
  refine (walk a0 a1 a2 w0 w1 w2 W).mono fun e W' ⟨he, bel⟩ => ?_
  subst he
  exact ⟨_, rfl, _, _, _, [], _, [], hW', trodAll_mk1 (shut_bool Try.underlying4 _), (trodAll_cons_mk (shut_int Try.underlying5 w0) (trodAll_cons_mk (shut_int Try.underlying5 w1) (trodAll_cons_mk (shut_int Try.underlying2 w2) trodAll_mk0))), rfl, bel.frame _, fun h => by cases h⟩

theorem over : Rows.tickAfterRow.holds Try.pinned (OpenSpec.ofChange Rows.tickAfterSpec) :=
  OpenClaim.holds_of_wide 6 Try.f6 rfl rfl rfl rfl rfl rfl rfl ⟨rfl, rfl, rfl, rfl, rfl⟩ rfl rfl rfl rfl rfl (by kernel_rfl) Try.func6 (by kernel_rfl)
    (of_decide_eq_true (by kernel_rfl)) (by unfold Func.isWrapper; first | (rw [if_pos (by decide +kernel)]; kernel_rfl) | (rw [if_neg (by decide +kernel)]; exact ⟨rfl, rfl⟩))
    (fun os started H enc _ => lifted os started H enc)

theorem proved : Rows.TickAfterSaid :=
  over
end Go.Proofs.Ytodfjpjjcgdmeaa.tickAfter

namespace Go.Proofs.Ytodfjpjjcgdmeaa
theorem tickAfter_holds : Rows.TickAfterSaid := tickAfter.proved
#print axioms tickAfter_holds
end Go.Proofs.Ytodfjpjjcgdmeaa

