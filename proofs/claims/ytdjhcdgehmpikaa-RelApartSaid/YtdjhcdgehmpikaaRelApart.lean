/-
  Proved: whatever the arguments are, carrierlaw08.RelApart answers true and leaves its arguments as they were. No condition.
-/
import Derived.Test.YtdjhcdgehmpikaaQh
import Derived.ProofKit
import Derived.OpenShut
import Derived.ChangeOld
import Derived.Below
namespace Go.Proofs.Ytdjhcdgehmpikaa.relApart
open Go.ChangeShapes Go.WideShapes Go.ChangeAt Go.RowKit
set_option linter.unusedVariables false

theorem own : ownKnob Try.prog.godebug = none := by kernel_rfl
theorem laidOut : laidOutB Try.prog = true := by kernel_rfl

/-- The tables while they are filled. -/
structure Fill (T : List Tab) (n : Nat) : Prop where
  ln : T.length = 4
  on : ∀ j : Nat, j < n → T[j]? = some (tabOf j ⟨#[120]⟩)
  off : ∀ j : Nat, n ≤ j → j < 4 → T[j]? = some noTab

theorem Fill.start : Fill (List.replicate 4 noTab) 0 := ⟨rfl, fun j h => by omega, fun j _ h => by rw [List.getElem?_replicate, if_pos h]⟩

theorem Fill.step {T : List Tab} {n : Nat} (h : Fill T n) (hn : n < 4) : Fill (runT [1] ⟨2, [1], 1⟩ 1 n n ⟨#[120]⟩ T) (n + 1) := by
  have hu := h.off n (Nat.le_refl _) hn
  refine ⟨by rw [runT_length]; exact h.ln, fun j hj => ?_, fun j hj h4 => ?_⟩
  · by_cases e : j = n
    · subst e
      rw [runT_at hu, List.getElem?_set_self (by rw [h.ln]; exact hn), run_ins _ _ (by decide)]
    · rw [runT_other (by omega)]; exact h.on j (by omega)
  · rw [runT_other (by omega)]; exact h.off j (by omega) h4

/-- All tables but one are as they were. -/
structure Oth (T : List Tab) (a : Nat) : Prop where
  ln : T.length = 4
  on : ∀ j : Nat, j < 4 → j ≠ a → T[j]? = some (tabOf j ⟨#[120]⟩)

theorem Fill.oth {T : List Tab} (h : Fill T 4) (a : Nat) : Oth T a := ⟨h.ln, fun j hj _ => h.on j hj⟩
theorem Oth.step {T : List Tab} {a : Nat} (h : Oth T a) (kind : Nat) (key : Int) (txt : ByteArray) : Oth (runT [1] ⟨2, [1], 1⟩ kind a key txt T) a :=
  ⟨by rw [runT_length]; exact h.ln, fun j hj hne => by rw [runT_other (by omega)]; exact h.on j hj hne⟩

theorem Oth.scanE {T : List Tab} {a j : Nat} (h : Oth T a) (hj : j < 4) : runE [1] ⟨2, [1], 1⟩ 6 j 0 ⟨#[]⟩ T = 0 := by
  obtain ⟨u, hu⟩ : ∃ u, T[j]? = some u := ⟨_, List.getElem?_eq_getElem (by rw [h.ln]; exact hj)⟩
  rw [runE, if_neg (by omega), Int.toNat_natCast, hu]
  rfl
theorem Oth.scanT {T : List Tab} {a j : Nat} (h : Oth T a) (hj : j < 4) : runT [1] ⟨2, [1], 1⟩ 6 j 0 ⟨#[]⟩ T = T := by
  obtain ⟨u, hu⟩ : ∃ u, T[j]? = some u := ⟨_, List.getElem?_eq_getElem (by rw [h.ln]; exact hj)⟩
  rw [runT_at hu]
  exact set_same hu
theorem Oth.scanR {T : List Tab} {a j : Nat} (h : Oth T a) (hj : j < 4) (hne : j ≠ a) : runR [1] ⟨2, [1], 1⟩ 6 j 0 ⟨#[]⟩ T = [((j : Int), ⟨#[120]⟩)] := by
  rw [runR, if_neg (by omega), Int.toNat_natCast, h.on j hj hne]
  exact scan_one j _

set_option maxHeartbeats 1600000 in
set_option maxRecDepth 100000 in
theorem walk (a0 : Option Addr) (len0 cap0 : Nat) (f0 : Nat → ActD) (a1 : Int) (W : World) (w0 : IsActs W W.heap.size a0 len0 f0 ∧ len0 ≤ maxLen) (w1 : (Lit.int .u8 a1).wf = true) :
    Calls Try.prog 6 #[.slice a0 len0 cap0, .int .u8 a1] W fun e w' => e = .returned (.bool true) ∧ Below W.heap.size W w' := by
  obtain ⟨b1a, b1b⟩ := bounds_u8 w1
  obtain ⟨at4, h4⟩ : ∃ n : Nat, a1.tmod 4 = n := ⟨(a1.tmod 4).toNat, by have := Int.tmod_nonneg 4 b1a; omega⟩
  have hat : at4 < 4 := by have := Int.tmod_lt_of_pos a1 (show (0 : Int) < 4 by omega); omega
  have HWT : Hid ((Lit.int .i64 (at4 : Int)).wf = true) := Lib.hid (wf_i64 (by omega))
  clear w1
  have A0 := Lib.hid w0
  clear w0
  go_enter Try.func6, Try.ntmps6
  go_wp2_with fail
  refine (row_any W).mono ?_
  rintro e w2 ⟨rfl, hk⟩
  have K2 := Lib.hid hk
  have sm0 := Lib.hid (small_any (cap := cap0) (A0.out.1.below (Kept.below hk (Nat.le_refl _) (by simp))) A0.out.2)
  clear hk
  go_wp2_with fail
  refine sm0.out.mono ?_
  rintro e w3 ⟨s0, rfl, h80, rfl⟩
  cases s0
  · go_wp2_with fail
    refine (row_any w2).mono ?_
    rintro e w4 ⟨rfl, hk⟩
    have K4 := Lib.hid (K2.out.trans hk (by simp))
    clear hk
    go_wp2
    go_ret
    exact ⟨rfl, K4.out.below (Nat.le_refl _) (by simp)⟩
  have L0 := Lib.hid (h80 rfl)
  have hl0 : len0 ≤ 80 := L0.out
  clear h80
  go_wp2_with fail
  refine (mnew_any w2).mono ?_
  rintro e w3 ⟨p, b, v1, rfl, hm, hk⟩
  have M3 := Lib.hid hm; have K3 := Lib.hid (K2.out.trans hk (by simp)); have Z2 := Lib.hid K2.out.size
  clear hm hk sm0
  go_wp2_with fail
  refine (relnew_any M3.out 4).mono ?_
  rintro e w4 ⟨r, O4, rfl, s, hk, _⟩
  have S4 : Hid (Sto w4 w2.heap.size p r O4 [] (List.replicate 4 noTab)) := Lib.hid s
  have B4 := Lib.hid (show Below W.heap.size W w4 from (K3.out.trans hk (by simp)).below (Nat.le_refl _) (by simp))
  clear s hk
  have c : Calls Try.prog 16 #[.pointer (some ⟨p, 0, none⟩)] w4 fun e w' => e = .returned (.tuple #[.int .i64 1, .int .i64 0]) ∧ ∃ O', Sto w' w2.heap.size p r O' [1] (List.replicate 4 noTab) ∧ Stp O4 O' w4 w' := begin_sto S4.out (by decide) (by decide)
  go_wp2_with fail
  refine c.mono ?_
  rintro e w5 ⟨rfl, O5, s, f⟩
  have S5 := Lib.hid s; have B5 := Lib.hid (B4.out.trans ((S4.out.below f.1).mono Z2.out))
  clear s f c
  have c : Calls Try.prog 28 #[.pointer (some ⟨p, 0, none⟩)] w5 fun e w' => ∃ u c, e = .returned (.agg #[.int .i64 2, .slice u 1 c]) ∧ Vo w' (.slice u 1 c) [1] ∧ Kept w5 w' [] := now_sto S5.out
  go_wp2_with fail
  refine c.mono ?_
  rintro e x6 ⟨u6, d6, rfl, vo, hk⟩
  obtain ⟨w6, hW⟩ : ∃ w6, w6 = x6.alloc (.cells #[.int .i64 2, .slice u6 1 d6, .int .i64 1] 51) := ⟨_, rfl⟩
  obtain ⟨g1, hg⟩ : ∃ g1, g1 = x6.heap.size := ⟨_, rfl⟩
  have V6 : Hid (Bv w6 g1 2 1 (.slice u6 1 d6) [1]) := Lib.hid (by rw [hW, hg]; exact Bv.make vo)
  have k : Kept w5 w6 [] := by rw [hW]; exact hk.alloc _
  have S6 := Lib.hid (S5.out.keep k); have B6 := Lib.hid (B5.out.trans ((k.below (B := w2.heap.size) S5.out.size (by simp)).mono Z2.out))
  clear vo hk k c
  go_wp2
  rw [← hW, ← hg]
  clear hW hg
  go_loopw [11] (fun t wr => ∃ (i : Nat) (O : Nat → Prop) (T : List Tab), t = .int .i64 i ∧ i ≤ 4 ∧ Sto wr w2.heap.size p r O [1] T ∧ Few i T ∧ Fill T i ∧ Bv wr g1 2 1 (.slice u6 1 d6) [1] ∧ Below W.heap.size W wr) (fun t _ => 4 - (intOf t).toNat)
  case atStart => exact ⟨0, O5, _, rfl, Nat.zero_le _, S6.out, few_none 0 4, Fill.start, V6.out, B6.out⟩
  case round =>
    obtain ⟨i, O, T, rfl, hi, hs, hfew, hfill, hv, hb⟩ := hrel
    have S := Lib.hid hs; have FW := Lib.hid hfew; have FI := Lib.hid hfill; have V := Lib.hid hv; have BW := Lib.hid hb
    clear hs hfew hfill hv hb S4 S5 S6 V6 B4 B5 B6
    by_cases hlt : i < 4
    · have x1 : (i : Int) < 4 := by omega
      obtain ⟨z0, z1, z2⟩ := V.out.cells
      have wi : (Lit.int .i64 (i : Int)).wf = true := wf_i64 (by omega)
      have CR := Lib.hid (run_any S.out 2 1 u6 1 d6 [1] V.out.2 (by decide) 1 i wi i ⟨#[120]⟩ wi i FW.out (by omega))
      go_wp2_with fail
      refine CR.out.mono ?_
      rintro e w9 ⟨v9, rfl, _, O9, s, f⟩
      have S9 := Lib.hid s; have B9 := Lib.hid (BW.out.trans ((S.out.below f.1).mono Z2.out)); have V9 := Lib.hid (V.out.sto S.out f.1)
      clear s f z0 z1 z2 wi
      go_wp2
      go_roundw
      case rel => exact ⟨i + 1, O9, _, by go_num, by omega, S9.out, runT_few FW.out _ _ _ _ _ _, FI.out.step hlt, V9.out, B9.out⟩
      case measure => simp [intOf]; omega
    · have x1 : ¬ (i : Int) < 4 := by omega
      obtain rfl : i = 4 := by omega
      have OT := Lib.hid (FI.out.oth at4)
      go_wp2
      clear x1 hlt hi
      go_loopw [12] (fun t wr => ∃ (i : Nat) (O : Nat → Prop) (T : List Tab), t = .int .i64 i ∧ i ≤ len0 ∧ Sto wr w2.heap.size p r O [1] T ∧ Few (4 + i) T ∧ Oth T at4 ∧ Bv wr g1 2 1 (.slice u6 1 d6) [1] ∧ Below W.heap.size W wr) (fun t _ => len0 - (intOf t).toNat)
      case atStart => exact ⟨0, O, T, rfl, Nat.zero_le _, S.out, FW.out, OT.out, V.out, BW.out⟩
      case round =>
        obtain ⟨i, O, T, rfl, hi, hs, hfew, hoth, hv, hb⟩ := hrel
        clear S FW FI V BW OT
        have S := Lib.hid hs; have FW := Lib.hid hfew; have OT := Lib.hid hoth; have V := Lib.hid hv; have BW := Lib.hid hb
        clear hs hfew hoth hv hb
        by_cases hlt : i < len0
        · obtain ⟨ab, ao, rfl, hx⟩ := A0.out.1 (by omega)
          have X := hx i hlt
          generalize f0 i = x at X
          have YY := Lib.hid (ActS.make V.out X BW.out)
          obtain ⟨d, who, kind, table, key, txt⟩ := x
          have abl : ab < W.heap.size := World.block_lt_of_cell? W _ X.c0
          have AB := Lib.hid X
          have hk8 : kind < 256 := X.k8
          have x1 : (i : Int) < (len0 : Int) := by omega
          obtain ⟨kd, hkd⟩ : ∃ kd : Nat, (kind : Int).tmod 6 = (kd : Int) := ⟨((kind : Int).tmod 6).toNat, by have := Int.tmod_nonneg 6 (show (0 : Int) ≤ kind by omega); omega⟩
          have hkd6 : kd < 6 := by have := Int.tmod_lt_of_pos (kind : Int) (show (0 : Int) < 6 by omega); omega
          have CR := Lib.hid (fun U (hU : Kept wr U []) => run_any (S.out.keep hU) 2 1 u6 1 d6 [1] (V.out.keep hU).2 (by decide) (1 + kd) at4 HWT.out (key.tmod 5) txt (wf_mod5 key) (4 + i) FW.out (by omega))
          have CRR : Hid (∀ U, Kept wr U [] → Calls Try.prog 21 #[.pointer (some ⟨r, 0, none⟩), .agg #[.int .i64 2, .slice u6 1 d6, .int .i64 1], .agg #[.int .u8 (1 + (kd : Int)), .int .i64 at4, .int .i64 (key.tmod 5), .string txt]] U fun e w' => RunPost U w2.heap.size p r O [1] (runE [1] ⟨2, [1], 1⟩ (1 + kd) at4 (key.tmod 5) txt T) (runR [1] ⟨2, [1], 1⟩ (1 + kd) at4 (key.tmod 5) txt T) (runT [1] ⟨2, [1], 1⟩ (1 + kd) at4 (key.tmod 5) txt T) e w') := Lib.hid (fun U hU => CR.out U hU)
          have k8 : Kept wr wr.drew [] := (Kept.refl wr []).drew
          have yy := YY.out.keep k8
          have wk : IntKind.u8.wrap (1 + (kd : Int)) = 1 + (kd : Int) := by rcases (show kd = 0 ∨ kd = 1 ∨ kd = 2 ∨ kd = 3 ∨ kd = 4 ∨ kd = 5 by omega) with rfl | rfl | rfl | rfl | rfl | rfl <;> rfl
          unfold ActS at yy
          simp only at yy
          clear X hx abl CR
          go_wp2_with fail
          go_region_held3 (fun U => ((U.cell? ⟨g1, 0, none⟩ = some (.int .i64 2) ∧ U.cell? ⟨g1, 1, none⟩ = some (.slice u6 1 d6)) ∧ U.cell? ⟨g1, 2, none⟩ = some (.int .i64 1)) ∧ (((U.cell? ⟨ab, ao + i * 6 + 1, none⟩ = some (.int .u8 who) ∧ U.cell? ⟨ab, ao + i * 6 + 2, none⟩ = some (.int .u8 kind)) ∧ U.cell? ⟨ab, ao + i * 6 + 4, none⟩ = some (.int .i64 key)) ∧ U.cell? ⟨ab, ao + i * 6 + 5, none⟩ = some (.string txt))) (exact yy)
            (first
              | (go_at_call 21; refine (CRR.out _ ?_).mono ?_; exact k8; rintro e w8 ⟨v8, rfl, _, O8, s8, f8⟩; have S8 := Lib.hid s8; have B8 := Lib.hid ((BW.out.trans ((k8.below (B := w2.heap.size) S.out.size (by simp)).mono Z2.out)).trans (((S.out.keep k8).below f8.1).mono Z2.out)); have V8 := Lib.hid ((V.out.keep k8).sto (S.out.keep k8) f8.1); have yy := ActS.make V8.out AB.out B8.out; unfold ActS at yy; simp only at yy))
          clear s8 f8 yy k8
          go_wp2
          go_roundw
          case rel => exact ⟨i + 1, O8, _, by go_num, by omega, S8.out, runT_few FW.out _ _ _ _ _ _, OT.out.step _ _ _, V8.out, B8.out⟩
          case measure => simp [intOf]; omega
        · have x1 : ¬ (i : Int) < (len0 : Int) := by omega
          have hi84 : 4 + i ≤ 900 := by omega
          obtain ⟨N, hN⟩ : ∃ N, N = 4 + i := ⟨_, rfl⟩
          rw [← hN] at FW hi84
          clear hN
          go_wp2
          go_loopw [13, 14, 15] (fun t _ _ wr => ∃ (i : Nat) (O : Nat → Prop), t = .int .i64 i ∧ i ≤ 4 ∧ Sto wr w2.heap.size p r O [1] T ∧ Bv wr g1 2 1 (.slice u6 1 d6) [1] ∧ Below W.heap.size W wr) (fun t _ _ _ => 4 - (intOf t).toNat)
          case atStart => exact ⟨0, O, rfl, Nat.zero_le _, S.out, V.out, BW.out⟩
          case round =>
            clear x1 hlt hi
            obtain ⟨i, O, rfl, hi, hs, hv, hb⟩ := hrel
            clear S V BW
            have S := Lib.hid hs; have V := Lib.hid hv; have BW := Lib.hid hb
            clear hs hv hb
            by_cases hlt : i < 4
            · have x1 : (i : Int) < 4 := by omega
              obtain ⟨z0, z1, z2⟩ := V.out.cells
              have wi : (Lit.int .i64 (i : Int)).wf = true := wf_i64 (by omega)
              have cr := run_any S.out 2 1 u6 1 d6 [1] V.out.2 (by decide) 6 i wi 0 ⟨#[]⟩ (by decide) N FW.out hi84
              rw [OT.out.scanE hlt, OT.out.scanT hlt] at cr
              by_cases hne : i = at4
              · subst hne
                have CR := Lib.hid cr
                clear cr
                go_wp2_with fail
                refine CR.out.mono ?_
                rintro e w9 ⟨v9, rfl, _, O9, s, f⟩
                have S9 := Lib.hid s; have B9 := Lib.hid (BW.out.trans ((S.out.below f.1).mono Z2.out)); have V9 := Lib.hid (V.out.sto S.out f.1)
                clear s f z0 z1 z2 wi
                go_wp2
                go_roundw
                case rel => exact ⟨i + 1, O9, by go_num, by omega, S9.out, V9.out, B9.out⟩
                case measure => simp [intOf]; omega
              · have x2 : ((i : Int) != (at4 : Int)) = true := by simp; omega
                rw [OT.out.scanR hlt hne] at cr
                have CR := Lib.hid cr
                clear cr
                go_wp2_with fail
                refine CR.out.mono ?_
                rintro e w9 ⟨v9, rfl, ho, O9, s, f⟩
                obtain ⟨a9, c9, rfl⟩ := ownsRow_shape ho
                obtain ⟨g9, rfl, hc9, _⟩ := own_at ho (by simp)
                obtain ⟨y0, y1⟩ := rcl_cells ho (k := 0) rfl
                rw [Nat.zero_mul] at y0
                have hg9 := World.block_lt_of_cell? w9 _ y0
                have S9 := Lib.hid s; have B9 := Lib.hid (BW.out.trans ((S.out.below f.1).mono Z2.out)); have V9 := Lib.hid (V.out.sto S.out f.1)
                simp only [List.length_cons, List.length_nil] at hc9
                clear s f z0 z1 z2 wi ho y1
                go_wp2
                go_roundw
                case rel => exact ⟨i + 1, O9, by go_num, by omega, S9.out, V9.out, B9.out⟩
                case measure => simp [intOf]; omega
            · have x1 : ¬ (i : Int) < 4 := by omega
              go_wp2
              go_ret
              exact ⟨rfl, BW.out⟩

set_option maxRecDepth 100000 in
theorem lifted (os : Os) (started : os.Started) (H : Type) (enc : TypeId × Value → H) :
    ReturnsInHanded {} Try.checked os 6 .any (Rows.relApartSpec.pre6 enc Try.prog Try.f6 Rows.relApartRow.domain false) (Rows.relApartSpec.post enc Try.prog Try.f6 false true false false) := by
  refine returnsInHanded_of_change (C := Try.checked) own started (by kernel_rfl) Try.func6
    (ChangeSpec.witness6 (enc := enc) (C := Try.checked) false ⟨#[], #[.slice none 0 0, .int .u8 0], []⟩ 8 (by kernel_rfl) (by kernel_rfl) (by kernel_rfl) (by kernel_rfl)) ?_
  intro W base args ds gs before hval0 hW hcnd _
  have hval : ∀ (j : Nat) t v, Try.f6.params[j]? = some t → args[j]? = some v → Value.okWide Try.prog W .any base t v := hval0
  have hW' := hW
  obtain ⟨p, q, hA0, hV, rfl, hfz, hnd⟩ := hW
  have hA : DataW.TrodAll enc Try.prog W 0 (fun _ => true) true Try.f6.params.toList args.toList ds p := hA0
  rw [Try.params6] at hA hval
  obtain ⟨v0, vs0, d0, ds0, p0, q0, hargs, rfl, rfl, h0, r0⟩ := trodAll_cons hA
  obtain ⟨v1, vs1, d1, ds1, p1, q1, rfl, rfl, rfl, h1, r1⟩ := trodAll_cons r0
  obtain ⟨rfl, rfl, rfl⟩ := trodAll_nil r1
  obtain rfl : args = #[v0, v1] := by cases args; simp_all
  obtain ⟨rfl, rfl⟩ := trodVars_none hV
  obtain ⟨a0, len0, cap0, rfl⟩ := okWide_slice Try.underlying22 (hval 0 22 v0 rfl rfl)
  have k0 := h0
  have lt0 : ∀ x ∈ p0, x.block < W.heap.size := by obtain ⟨m, hm⟩ := k0; exact DataW.trod_lt m _ _ _ hm
  obtain ⟨z0, w0⟩ : ∃ f, IsActs W W.heap.size a0 len0 f ∧ len0 ≤ maxLen := by
    obtain ⟨fuel, hf⟩ := h0
    exact acts_open (by simpa [Value.cells] using hf)
  obtain ⟨a1, rfl, rfl, rfl, w1⟩ := open_int Try.underlying5 (hval 1 5 v1 rfl rfl) h1
  clear hA0 hval0
  refine (walk a0 len0 cap0 z0 a1 W w0 w1).mono fun e W' ⟨he, bel⟩ => ?_
  subst he
  exact ⟨_, rfl, _, _, _, [], _, [], hW', trodAll_mk1 (shut_bool Try.underlying4 _), (trodAll_cons_mk (Below.trod laidOut (by kernel_rfl) (of_decide_eq_true (by kernel_rfl)) k0 bel lt0) (trodAll_cons_mk (shut_int Try.underlying5 w1) trodAll_mk0)), rfl, bel.frame _, fun h => by cases h⟩

theorem over : Rows.relApartRow.holds Try.pinned (OpenSpec.ofChange Rows.relApartSpec) :=
  OpenClaim.holds_of_wide 6 Try.f6 rfl rfl rfl rfl rfl rfl rfl ⟨rfl, rfl, rfl, rfl, rfl⟩ rfl rfl rfl rfl rfl (by kernel_rfl) Try.func6 (by kernel_rfl)
    (of_decide_eq_true (by kernel_rfl)) (by unfold Func.isWrapper; first | (rw [if_pos (by decide +kernel)]; kernel_rfl) | (rw [if_neg (by decide +kernel)]; exact ⟨rfl, rfl⟩))
    (fun os started H enc _ => lifted os started H enc)

theorem proved : Rows.RelApartSaid :=
  over
end Go.Proofs.Ytdjhcdgehmpikaa.relApart

namespace Go.Proofs.Ytdjhcdgehmpikaa
theorem relApart_holds : Rows.RelApartSaid := relApart.proved
#print axioms relApart_holds
end Go.Proofs.Ytdjhcdgehmpikaa

