/-
  Proved: whatever the arguments are, carrierlaw02.CodeTexts answers true and leaves its arguments as they were. No condition.
-/
import Derived.Test.YtfmljoekfbnpiaaThree
import Derived.Test.YtfmljoekfbnpiaaRefText
import Derived.Deep.RegionHeld3
import Derived.ProofKit
import Derived.OpenShut
import Derived.ShutString
import Derived.ChangeOld
import Derived.Below
namespace Go.Proofs.Ytfmljoekfbnpiaa.codeTexts
open Go.ChangeShapes Go.WideShapes Go.ChangeAt Go.RowKit
open Go.ChangeMaps (open_string shut_string)
set_option linter.unusedVariables false

theorem own : ownKnob Try.prog.godebug = none := by kernel_rfl
theorem laidOut : laidOutB Try.prog = true := by kernel_rfl

theorem rd_take {w : World} {a : Option Addr} {n c : Nat} {l : List UInt8} (h : Rd w (.slice a n c) l) (k : Nat) (hk : k ≤ l.length) : Rd w (.slice a k c) (l.take k) := by
  obtain ⟨a', c', he, hc, ha, hl⟩ := h
  simp only [Value.slice.injEq] at he
  obtain ⟨rfl, rfl, rfl⟩ := he
  have e : (l.take k).length = k := by rw [List.length_take]; omega
  refine ⟨a, c, by rw [e], by omega, ha, fun hne => ?_⟩
  obtain ⟨b, o, rfl, hcell⟩ := hl (by rintro rfl; simp at hne)
  refine ⟨b, o, rfl, fun i hi => ?_⟩
  rw [hcell i (by omega)]
  simp [List.getD, show i < k by omega, show i < l.length by omega]

theorem textL_pos (s : List UInt8) : 0 < (textL s).length := by
  have := numL_pos s.length
  unfold textL
  rw [List.length_append]
  omega

set_option maxHeartbeats 2000000 in
set_option maxRecDepth 100000 in
theorem walk (a0 : ByteArray) (a1 a2 : Int) (w0 : a0.size ≤ maxLen) (w1 : (Lit.int .i64 a1).wf = true) (w2 : (Lit.int .u8 a2).wf = true) (w : World) :
    Calls Try.prog 6 #[.string a0, .int .i64 a1, .int .u8 a2] w fun e w' => e = .returned (.bool true) ∧ Below w.heap.size w w' := by
  have h1 := bounds_i64 w1
  have h2 := bounds_u8 w2
  clear w1 w2
  unfold maxLen at w0
  by_cases h : (200 : Int) < (a0.size : Int)
  · go_enter Try.func6, Try.ntmps6
    go_wp2_with fail
    refine (three_any w).mono ?_
    rintro e w1 ⟨rfl, hk⟩
    have Hk := Lib.hid hk; clear hk
    go_wp2_with fail
    refine (three_any w1).mono ?_
    rintro e w2 ⟨rfl, hk⟩
    have Hk2 := Lib.hid (Hk.out.trans hk (by simp)); clear hk
    go_wp2
    go_ret
    exact ⟨rfl, Hk2.out.below (Nat.le_refl _) (by simp)⟩
  · obtain ⟨h3, h4⟩ := h2
    go_enter Try.func6, Try.ntmps6
    go_wp2_with fail
    refine (three_any w).mono ?_
    rintro e w1 ⟨rfl, hk⟩
    have hz1 := hk.size
    have Hk1 := Lib.hid hk; clear hk
    go_wp2_with fail
    refine (text_any w.heap.size w1.heap.size (.slice none 0 0) [] a0 (w1.alloc (.cells #[.slice none 0 0] 54)) ⟨heap_alloc_new w1 _, Own.nil _ _ _⟩ (by simp; omega) (by omega) (by simp)).mono ?_
    rintro e w2 ⟨rfl, v2, hw2, hs2⟩
    have hk2 : Kept w w2 [] := (Hk1.out.alloc _).trans hs2.1 (by intro x hx; simp [Value.ownBlock] at hx; exact .inr (by omega))
    have hz2 := hk2.size
    rw [List.nil_append] at hw2
    have Hw2 := Lib.hid hw2; have Hk2 := Lib.hid hk2; clear hw2 hs2 hk2
    have hlen : (textL a0.data.toList).length ≤ 300 := by
      unfold textL
      have := numL_ten (n := a0.data.toList.length) (by rw [Array.length_toList]; show a0.size < _; omega)
      have h6 : a0.data.toList.length = a0.size := by rw [Array.length_toList]; rfl
      rw [List.length_append]
      omega
    have hpos := textL_pos a0.data.toList
    obtain ⟨p, hp⟩ : ∃ p, p = textL a0.data.toList := ⟨_, rfl⟩
    rw [← hp] at hlen hpos
    have Hp := Lib.hid hp; clear hp
    go_wp2_with fail
    refine (bytes_any w.heap.size w1.heap.size v2 _ w2 Hw2.out (by rw [← Hp.out]; omega)).mono ?_
    rintro e w3 ⟨v3, rfl, ho3, hk3⟩
    rw [← Hp.out] at ho3
    have hk3' := Hk2.out.trans hk3 (by simp)
    have hz3 := hk3'.size
    obtain ⟨n3, hn3, hv3⟩ : ∃ n3, n3 = p.length ∧ ∃ a c, v3 = .slice a n3 c := by obtain ⟨a, c, h⟩ := ho3.shape; exact ⟨_, rfl, a, c, h⟩
    obtain ⟨a3, c3, hv3⟩ := hv3
    have Ho3 := Lib.hid ho3; have Hk3 := Lib.hid hk3'; clear ho3 hk3 hk3'
    have hn3p : 0 < n3 := by omega
    have hz : ((n3 : Int) == 0) = false := by simp; omega
    have Hn3 := Lib.hid hn3; clear hn3
    subst hv3
    obtain ⟨x3, rfl⟩ : ∃ x, a3 = some x := by
      cases a3 with
      | some x => exact ⟨x, rfl⟩
      | none =>
        obtain ⟨a', c', he, hc, ha, _⟩ := Ho3.out.rd
        simp only [Value.slice.injEq] at he
        obtain ⟨rfl, rfl, rfl⟩ := he
        have := ha rfl
        omega
    have hnc : n3 ≤ c3 := by
      obtain ⟨a', c', he, hc, _⟩ := Ho3.out.rd
      simp only [Value.slice.injEq] at he
      obtain ⟨_, he1, rfl⟩ := he
      omega
    have hnc1 : (n3 : Int) - 1 ≤ (c3 : Int) := by omega
    have hnc2 : (1 : Int) ≤ (n3 : Int) := by omega
    by_cases hcut : (a2 % 4 == 0) = true
    · have hn31 : n3 - 1 ≤ p.length := by have := Hn3.out; omega
      go_wp2_with fail
      refine (new_any _ (p.take (n3 - 1)) w3 (rd_take Ho3.out.rd (n3 - 1) hn31) (by first | omega | (rw [List.length_take]; omega))).mono ?_
      rintro e w4 ⟨r, v4, rfl, hr4, hle4, hb4, hk4⟩
      have Hr4 := Lib.hid hr4; have Hk4 := Lib.hid (Hk3.out.trans hk4 (by simp)); have Hb4 := Lib.hid hb4
      have Hp4 := Lib.hid ((rd_take Ho3.out.rd (n3 - 1) hn31).kept hk4 (by simp))
      have hz4 := Hk4.out.size
      have hz34 := hk4.size
      clear hr4 hb4 hk4
      go_wp2_with fail
      refine (refreadtext_any _ a1 0 (p.take (n3 - 1)) w4 Hp4.out (by first | omega | (rw [List.length_take]; omega)) h1).mono ?_
      rintro e w5 ⟨v5, rfl, hr5, hk5, hb5⟩
      obtain ⟨a5, c5, hv5, _⟩ := id hr5
      obtain ⟨T, hT⟩ : ∃ T, T = rText a1 0 (p.take (n3 - 1)) := ⟨_, rfl⟩
      rw [← hT] at hr5 hv5
      rw [← hT]
      obtain ⟨S, hS⟩ : ∃ S, S = strL T.1 := ⟨_, rfl⟩
      rw [← hS]
      have Hr5 := Lib.hid (Hr4.out.kept hk5 (by simp) (by simp))
      have Hk5 := Lib.hid (Hk4.out.trans hk5 (by simp)); have HT := Lib.hid hT; have HS := Lib.hid hS; have Hl5 : RowKit.Hid (∃ n, n = T.2.1.length) := ⟨_, rfl⟩
      obtain ⟨n5, hn5⟩ := Hl5.out
      rw [← hn5] at hv5
      have Hn5 := Lib.hid hn5
      have hr5r : r < w5.heap.size := (Array.getElem?_eq_some_iff.1 Hr5.out.1).1
      clear hr5 hk5 hb5 hT hS hn5
      subst hv5
      obtain ⟨e5, he5⟩ : ∃ e5, e5 = T.2.2 := ⟨_, rfl⟩
      rw [← he5]
      have He5 := Lib.hid he5; clear he5
      have HC : RowKit.Hid (∀ W, Kept w5 W [] → W.cell? ⟨w5.heap.size, 0, none⟩ = some (.slice a5 n5 c5) → W.cell? ⟨w5.heap.size, 1, none⟩ = some (.int .i64 e5) → Calls Try.prog 15 #[.pointer (some ⟨r, 0, none⟩), .int .i64 a1] W fun en w' => en = .returned (.string S) ∧ ∃ v', Rr w' r v' e5 T.2.1 ∧ Kept W w' [r] ∧ w'.cell? ⟨w5.heap.size, 0, none⟩ = some (.slice a5 n5 c5) ∧ w'.cell? ⟨w5.heap.size, 1, none⟩ = some (.int .i64 e5)) := Lib.hid (fun W hk hs0 hs1 => by
        refine (rtext_any r v4 a1 0 (p.take (n3 - 1)) W (Hr5.out.kept hk (by simp) (by simp)) (by first | omega | (rw [List.length_take]; omega)) h1).mono ?_
        rw [← HT.out, ← HS.out, ← He5.out]
        rintro en w' ⟨rfl, v', q1, q2, _⟩
        exact ⟨rfl, v', q1, q2, q2.cell (p := ⟨w5.heap.size, 0, none⟩) (by simp; omega) hs0, q2.cell (p := ⟨w5.heap.size, 1, none⟩) (by simp; omega) hs1⟩)
      have HL : RowKit.Hid (∀ W v', Rr W r v' e5 T.2.1 → Calls Try.prog 18 #[.pointer (some ⟨r, 0, none⟩)] W fun en w' => en = .returned (.int .i64 n5) ∧ W = w') := Lib.hid (fun W v' h => by
        have := left_any r v' e5 T.2.1 W h
        rw [← Hn5.out] at this
        exact this)
      have hrne : w5.heap.size ≠ r := by omega
      go_wp2_with fail
      go_region_held3 (fun W => W.cell? ⟨w5.heap.size, 0, none⟩ = some (.slice a5 n5 c5) ∧ W.cell? ⟨w5.heap.size, 1, none⟩ = some (.int .i64 e5)) (first | exact ⟨by assumption, by assumption⟩ | go_keep)
        (first
          | (go_at_call 15; refine (HC.out _ ?_ ?_ ?_).mono ?_; exact ((Kept.refl w5 []).alloc _).drew; (simp); (simp); rintro e w6 ⟨rfl, v6, q1, q2, s0, s1⟩; have Q1 := Lib.hid q1; have Q2 := Lib.hid q2; clear q1 q2)
          | (go_at_call 22; refine (error_any r v6 e5 T.2.1 _ Q1.out).mono ?_; rintro e w7 ⟨rfl, rfl⟩)
          | (go_at_call 18; refine (HL.out _ v6 Q1.out).mono ?_; rintro e w7 ⟨rfl, rfl⟩))
      go_wp2
      go_ret
      exact ⟨rfl, (((Hk5.out.alloc _).drew).trans Q2.out (by intro x hx; simp at hx; subst hx; exact .inr (by omega))).below (Nat.le_refl _) (by simp)⟩
    · have hcut2 : (a2 % 4 == 0) = false := by simpa using hcut
      clear hcut
      go_wp2_with fail
      refine (new_any _ (p) w3 (Ho3.out.rd) (by first | omega | (rw [List.length_take]; omega))).mono ?_
      rintro e w4 ⟨r, v4, rfl, hr4, hle4, hb4, hk4⟩
      have Hr4 := Lib.hid hr4; have Hk4 := Lib.hid (Hk3.out.trans hk4 (by simp)); have Hb4 := Lib.hid hb4
      have Hp4 := Lib.hid ((Ho3.out.rd).kept hk4 (by simp))
      have hz4 := Hk4.out.size
      have hz34 := hk4.size
      clear hr4 hb4 hk4
      go_wp2_with fail
      refine (refreadtext_any _ a1 0 (p) w4 Hp4.out (by first | omega | (rw [List.length_take]; omega)) h1).mono ?_
      rintro e w5 ⟨v5, rfl, hr5, hk5, hb5⟩
      obtain ⟨a5, c5, hv5, _⟩ := id hr5
      obtain ⟨T, hT⟩ : ∃ T, T = rText a1 0 (p) := ⟨_, rfl⟩
      rw [← hT] at hr5 hv5
      rw [← hT]
      obtain ⟨S, hS⟩ : ∃ S, S = strL T.1 := ⟨_, rfl⟩
      rw [← hS]
      have Hr5 := Lib.hid (Hr4.out.kept hk5 (by simp) (by simp))
      have Hk5 := Lib.hid (Hk4.out.trans hk5 (by simp)); have HT := Lib.hid hT; have HS := Lib.hid hS; have Hl5 : RowKit.Hid (∃ n, n = T.2.1.length) := ⟨_, rfl⟩
      obtain ⟨n5, hn5⟩ := Hl5.out
      rw [← hn5] at hv5
      have Hn5 := Lib.hid hn5
      have hr5r : r < w5.heap.size := (Array.getElem?_eq_some_iff.1 Hr5.out.1).1
      clear hr5 hk5 hb5 hT hS hn5
      subst hv5
      obtain ⟨e5, he5⟩ : ∃ e5, e5 = T.2.2 := ⟨_, rfl⟩
      rw [← he5]
      have He5 := Lib.hid he5; clear he5
      have HC : RowKit.Hid (∀ W, Kept w5 W [] → W.cell? ⟨w5.heap.size, 0, none⟩ = some (.slice a5 n5 c5) → W.cell? ⟨w5.heap.size, 1, none⟩ = some (.int .i64 e5) → Calls Try.prog 15 #[.pointer (some ⟨r, 0, none⟩), .int .i64 a1] W fun en w' => en = .returned (.string S) ∧ ∃ v', Rr w' r v' e5 T.2.1 ∧ Kept W w' [r] ∧ w'.cell? ⟨w5.heap.size, 0, none⟩ = some (.slice a5 n5 c5) ∧ w'.cell? ⟨w5.heap.size, 1, none⟩ = some (.int .i64 e5)) := Lib.hid (fun W hk hs0 hs1 => by
        refine (rtext_any r v4 a1 0 (p) W (Hr5.out.kept hk (by simp) (by simp)) (by first | omega | (rw [List.length_take]; omega)) h1).mono ?_
        rw [← HT.out, ← HS.out, ← He5.out]
        rintro en w' ⟨rfl, v', q1, q2, _⟩
        exact ⟨rfl, v', q1, q2, q2.cell (p := ⟨w5.heap.size, 0, none⟩) (by simp; omega) hs0, q2.cell (p := ⟨w5.heap.size, 1, none⟩) (by simp; omega) hs1⟩)
      have HL : RowKit.Hid (∀ W v', Rr W r v' e5 T.2.1 → Calls Try.prog 18 #[.pointer (some ⟨r, 0, none⟩)] W fun en w' => en = .returned (.int .i64 n5) ∧ W = w') := Lib.hid (fun W v' h => by
        have := left_any r v' e5 T.2.1 W h
        rw [← Hn5.out] at this
        exact this)
      have hrne : w5.heap.size ≠ r := by omega
      go_wp2_with fail
      go_region_held3 (fun W => W.cell? ⟨w5.heap.size, 0, none⟩ = some (.slice a5 n5 c5) ∧ W.cell? ⟨w5.heap.size, 1, none⟩ = some (.int .i64 e5)) (first | exact ⟨by assumption, by assumption⟩ | go_keep)
        (first
          | (go_at_call 15; refine (HC.out _ ?_ ?_ ?_).mono ?_; exact ((Kept.refl w5 []).alloc _).drew; (simp); (simp); rintro e w6 ⟨rfl, v6, q1, q2, s0, s1⟩; have Q1 := Lib.hid q1; have Q2 := Lib.hid q2; clear q1 q2)
          | (go_at_call 22; refine (error_any r v6 e5 T.2.1 _ Q1.out).mono ?_; rintro e w7 ⟨rfl, rfl⟩)
          | (go_at_call 18; refine (HL.out _ v6 Q1.out).mono ?_; rintro e w7 ⟨rfl, rfl⟩))
      go_wp2
      go_ret
      exact ⟨rfl, (((Hk5.out.alloc _).drew).trans Q2.out (by intro x hx; simp at hx; subst hx; exact .inr (by omega))).below (Nat.le_refl _) (by simp)⟩

set_option maxRecDepth 100000 in
theorem lifted (os : Os) (started : os.Started) (H : Type) (enc : TypeId × Value → H) :
    ReturnsInHanded {} Try.checked os 6 .any (Rows.codeTextsSpec.pre6 enc Try.prog Try.f6 Rows.codeTextsRow.domain false) (Rows.codeTextsSpec.post enc Try.prog Try.f6 false true false false) := by
  refine returnsInHanded_of_change (C := Try.checked) own started (by kernel_rfl) Try.func6
    (ChangeSpec.witness6 (enc := enc) (C := Try.checked) false ⟨#[], #[.string ByteArray.empty, .int .i64 0, .int .u8 0], []⟩ 8 (by kernel_rfl) (by kernel_rfl) (by kernel_rfl) (by kernel_rfl)) ?_
  intro W base args ds gs before hval0 hW hcnd _
  have hval : ∀ (j : Nat) t v, Try.f6.params[j]? = some t → args[j]? = some v → Value.okWide Try.prog W .any base t v := hval0
  have hW' := hW
  obtain ⟨p, q, hA0, hV, rfl, hfz, hnd⟩ := hW
  have hA : DataW.TrodAll enc Try.prog W 0 (fun _ => true) true Try.f6.params.toList args.toList ds p := hA0
  rw [Try.params6] at hA hval
  obtain ⟨v0, vs0, d0, ds0, p0, q0, hargs, rfl, rfl, h0, r0⟩ := trodAll_cons hA
  obtain ⟨v1, vs1, d1, ds1, p1, q1, rfl, rfl, rfl, h1, r1⟩ := trodAll_cons r0
  obtain ⟨v2, vs2, d2, ds2, p2, q2, rfl, rfl, rfl, h2, r2⟩ := trodAll_cons r1
  obtain ⟨rfl, rfl, rfl⟩ := trodAll_nil r2
  obtain rfl : args = #[v0, v1, v2] := by cases args; simp_all
  obtain ⟨rfl, rfl⟩ := trodVars_none hV
  obtain ⟨a0, rfl, rfl, rfl, w0⟩ := open_string Try.underlying9 (hval 0 9 v0 rfl rfl) h0
  obtain ⟨a1, rfl, rfl, rfl, w1⟩ := open_int Try.underlying3 (hval 1 3 v1 rfl rfl) h1
  obtain ⟨a2, rfl, rfl, rfl, w2⟩ := open_int Try.underlying5 (hval 2 5 v2 rfl rfl) h2
  clear hA0 hval0
  simp only [List.append_nil] at hW'
  refine (walk a0 a1 a2 w0 w1 w2 W).mono fun e W' ⟨he, bel⟩ => ?_
  subst he
  exact ⟨_, rfl, _, _, _, [], _, [], hW', trodAll_mk1 (shut_bool Try.underlying4 _), (trodAll_cons_mk (shut_string Try.underlying9 w0) (trodAll_cons_mk (shut_int Try.underlying3 w1) (trodAll_cons_mk (shut_int Try.underlying5 w2) trodAll_mk0))), rfl, bel.frame _, fun h => by cases h⟩

theorem over : Rows.codeTextsRow.holds Try.pinned (OpenSpec.ofChange Rows.codeTextsSpec) :=
  OpenClaim.holds_of_wide 6 Try.f6 rfl rfl rfl rfl rfl rfl rfl ⟨rfl, rfl, rfl, rfl, rfl⟩ rfl rfl rfl rfl rfl (by kernel_rfl) Try.func6 (by kernel_rfl)
    (of_decide_eq_true (by kernel_rfl)) (by unfold Func.isWrapper; first | (rw [if_pos (by decide +kernel)]; kernel_rfl) | (rw [if_neg (by decide +kernel)]; exact ⟨rfl, rfl⟩))
    (fun os started H enc _ => lifted os started H enc)

theorem proved : Rows.CodeTextsSaid :=
  over
end Go.Proofs.Ytfmljoekfbnpiaa.codeTexts

namespace Go.Proofs.Ytfmljoekfbnpiaa
theorem codeTexts_holds : Rows.CodeTextsSaid := codeTexts.proved
#print axioms codeTexts_holds
end Go.Proofs.Ytfmljoekfbnpiaa
