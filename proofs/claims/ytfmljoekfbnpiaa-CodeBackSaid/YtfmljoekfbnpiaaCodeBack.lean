/-
  Proved: whatever the argument is, carrierlaw02.CodeBack answers true and leaves its argument as it was. No condition.
-/
import Derived.Test.YtfmljoekfbnpiaaItems2
namespace Go.Proofs.Ytfmljoekfbnpiaa.codeBack
open Go.ChangeShapes Go.WideShapes Go.ChangeAt Go.RowKit
open Go.ChangeMaps (open_string shut_string)
set_option linter.unusedVariables false

theorem own : ownKnob Try.prog.godebug = none := by kernel_rfl
theorem laidOut : laidOutB Try.prog = true := by kernel_rfl

theorem IsItems.kept {w w' : World} {a : Option Addr} {len cap : Nat} {f : Nat → Nat × Nat × ByteArray} (h : IsItems w a len cap f) (hk : Kept w w' []) : IsItems w' a len cap f := by
  rcases h with h | ⟨x, rfl, h1, h2, hc⟩
  · exact .inl h
  · refine .inr ⟨x, rfl, h1, h2, fun i hi => ?_⟩
    obtain ⟨c0, c1, c2, rest⟩ := hc i hi
    exact ⟨hk.cell (by simp) c0, hk.cell (by simp) c1, hk.cell (by simp) c2, rest⟩

set_option maxHeartbeats 8000000 in
set_option maxRecDepth 100000 in
theorem walk (a : Option Addr) (len cap : Nat) (f : Nat → Nat × Nat × ByteArray) (w : World) (h : IsItems w a len cap f) :
    Calls Try.prog 3 #[.slice a len cap] w fun e w' => e = .returned (.bool true) ∧ Below w.heap.size w w' := by
  have hcap := items_cap h
  have H := Lib.hid h; clear h
  go_enter Try.func3, Try.ntmps3
  go_wp2_with fail
  refine (three_any w).mono ?_
  rintro e w1 ⟨rfl, hk1⟩
  have hz1 := hk1.size
  have Hk1 := Lib.hid hk1; clear hk1
  go_wp2_with fail
  refine (small_any a len cap f w1 (IsItems.kept H.out Hk1.out)).mono ?_
  rintro e w2 ⟨⟨bs, rfl, hbs⟩, rfl⟩
  have Hbs := Lib.hid hbs; clear hbs
  cases bs with
  | false =>
    go_wp2_with fail
    refine (three_any w1).mono ?_
    rintro e w2 ⟨rfl, hk2⟩
    have Hk2 := Lib.hid (Hk1.out.trans hk2 (by simp)); clear hk2
    go_wp2
    go_ret
    exact ⟨rfl, Hk2.out.below (Nat.le_refl _) (by simp)⟩
  | true =>
    obtain ⟨h30, h60⟩ := Hbs.out rfl
    have hL : (itemsL f len).length ≤ 70 * len := itemsL_len f len (fun i hi => by
      obtain ⟨_, _, _, _, _, _, _, hn, _⟩ := items_at H.out i hi
      exact ⟨hn, h60 i hi⟩)
    have H60 := Lib.hid h60; clear h60
    go_wp2_with fail
    refine (laid_any a len cap f w1 (IsItems.kept H.out Hk1.out) h30 H60.out).mono ?_
    rintro e w2 ⟨vp, vq, rfl, hp, hq, hk2⟩
    have hz2 := hk2.size
    have Hp := Lib.hid hp; have Hq := Lib.hid hq; have Hk2 := Lib.hid (Hk1.out.trans hk2 (by simp))
    clear hp hq hk2
    go_wp2_with fail
    refine (new_any vp (itemsL f len) w2 Hp.out (by omega)).mono ?_
    rintro e w3 ⟨r, v0, rfl, hr3, hle, _, hk3⟩
    have hz3 := hk3.size
    have hrw : w.heap.size ≤ r := by omega
    rw [← items_all] at hr3
    have Hr3 := Lib.hid hr3; have Hk3 := Lib.hid (Hk2.out.trans hk3 (by simp))
    have Hp3 := Lib.hid (Hp.out.kept hk3 (by simp)); have Hq3 := Lib.hid (Hq.out.kept hk3 (by simp))
    have Hpb := Lib.hid Hp.out.block_lt; have Hqb := Lib.hid Hq.out.block_lt
    clear hr3 hk3
    go_wp2
    go_loopw [6] (fun t wr => ∃ (k : Nat) (vr : Value), t = .int .i64 k ∧ k ≤ len ∧ Rr wr r vr 0 (itemsR f k (len - k)) ∧ Kept w3 wr [r]) (fun t _ => len - (intOf t).toNat)
    case atStart => exact ⟨0, v0, rfl, Nat.zero_le _, Hr3.out, Kept.refl _ _⟩
    case round =>
      obtain ⟨k, vr, rfl, hk, hr, hkw⟩ := hrel
      have hzr := hkw.size
      have Hr := Lib.hid hr; have Hkw := Lib.hid hkw
      clear hr hkw
      by_cases hlt : k < len
      · obtain ⟨b, o, rfl, c0, c1, c2, hb0, hb1, _⟩ := items_at H.out k hlt
        have hbw : b < w.heap.size := World.block_lt_of_cell? w _ c0
        have hs60 := H60.out k hlt
        have k3r := Lib.hid (Hk3.out.trans Hkw.out (by intro x hx; simp at hx; exact .inr (by omega)))
        have c0' := k3r.out.cell (p := ⟨b, o + k * 3, none⟩) (by simp) c0
        have c1' := k3r.out.cell (p := ⟨b, o + k * 3 + 1, none⟩) (by simp) c1
        have c2' := k3r.out.cell (p := ⟨b, o + k * 3 + 2, none⟩) (by simp) c2
        have x1 : (k : Int) < (len : Int) := by omega
        obtain ⟨t, ht⟩ : ∃ t, t = itemsR f (k + 1) (len - (k + 1)) := ⟨_, rfl⟩
        have hsplit : itemsR f k (len - k) = itemL (f k) ++ t := by
          rw [ht, show len - k = (len - (k + 1)) + 1 from by omega, itemsR]
        have hlen : (itemsR f k (len - k)).length ≤ 2100 := by
          have := congrArg List.length (items_join f (len - k) k)
          rw [List.length_append, show k + (len - k) = len from by omega] at this
          omega
        rw [itemL] at hsplit
        obtain ⟨kd, hkd⟩ : ∃ kd, kd = (f k).1 := ⟨_, rfl⟩
        obtain ⟨n, hn⟩ : ∃ n, n = (f k).2.1 := ⟨_, rfl⟩
        obtain ⟨s, hs⟩ : ∃ s, s = (f k).2.2 := ⟨_, rfl⟩
        rw [← hkd, ← hn, ← hs] at hsplit
        rw [← hkd] at c0' hb0
        rw [← hn] at c1' hb1
        rw [← hs] at c2' hs60
        have hs2 : s.data.toList.length = s.size := by rw [Array.length_toList]; rfl
        have Ht := Lib.hid ht
        clear c0 c1 c2 hkd hn hs ht
        obtain ⟨rg1, rg2⟩ := wrap_range (n : Int)
        by_cases k0 : kd % 3 = 0
        · have y0 : ((kd : Int) % 3 == 0) = true := by simp; omega
          rw [if_pos k0] at hsplit
          have HLn := Lib.hid hsplit; clear hsplit
          have HC : RowKit.Hid (∀ W, Kept wr W [] → W.cell? ⟨b, o + k * 3 + 1, none⟩ = some (.int .u64 (n : Int)) → Calls Try.prog 13 #[.pointer (some ⟨r, 0, none⟩)] W fun en w' => en = .returned (.int .u64 (n : Int)) ∧ ∃ v', Rr w' r v' 0 t ∧ Kept wr w' [r] ∧ w'.cell? ⟨b, o + k * 3 + 1, none⟩ = some (.int .u64 (n : Int))) := Lib.hid (fun W hk hs => by
            refine (rnum_any r vr 0 (numL n ++ t) W (by rw [← HLn.out]; exact Hr.out.kept hk (by simp) (by simp)) (by rw [← HLn.out]; omega)).mono ?_
            rw [rNum_back n t (by omega)]
            rintro en w' ⟨rfl, v', q1, q2, _⟩
            exact ⟨rfl, v', q1, (hk.mono (by simp)).trans q2 (fun x hx => .inl hx), q2.cell (p := ⟨b, o + k * 3 + 1, none⟩) (by simp; omega) hs⟩)
          go_wp2_with fail
          go_region_held3 (fun W => W.cell? ⟨b, o + k * 3 + 1, none⟩ = some (.int .u64 (n : Int))) (first | assumption | go_keep)
            (first
              | (go_at_call 13; refine (HC.out _ ?_ ?_).mono ?_; exact (Kept.refl wr []).drew; exact c1'; rintro en w5 ⟨rfl, v5, q1, q2, s5⟩; have Q1 := Lib.hid q1; have Q2 := Lib.hid q2; clear q1 q2))
          go_wp2
          go_roundw
          case rel => exact ⟨k + 1, v5, by go_num, by omega, by rw [← Ht.out]; exact Q1.out, Hkw.out.trans Q2.out (fun x hx => .inl hx)⟩
          case measure => simp [intOf]; omega
        · have y0 : ((kd : Int) % 3 == 0) = false := by simp; omega
          rw [if_neg k0] at hsplit
          by_cases k1 : kd % 3 = 1
          · have y1 : ((kd : Int) % 3 == 1) = true := by simp; omega
            rw [if_pos k1] at hsplit
            have hww : (wrap64 (n : Int) != IntKind.i64.wrap (n : Int)) = false := by
              rw [bne_eq_false_iff_eq, IntKind.wrap_i64]
              unfold wrap64
              omega
            have HLn := Lib.hid hsplit; clear hsplit
            have HC : RowKit.Hid (∀ W, Kept wr W [] → W.cell? ⟨b, o + k * 3 + 1, none⟩ = some (.int .u64 (n : Int)) → Calls Try.prog 14 #[.pointer (some ⟨r, 0, none⟩)] W fun en w' => en = .returned (.int .i64 (wrap64 (n : Int))) ∧ ∃ v', Rr w' r v' 0 t ∧ Kept wr w' [r] ∧ w'.cell? ⟨b, o + k * 3 + 1, none⟩ = some (.int .u64 (n : Int))) := Lib.hid (fun W hk hs => by
              refine (rint_any r vr 0 (intL (wrap64 (n : Int)) ++ t) W (by rw [← HLn.out]; exact Hr.out.kept hk (by simp) (by simp)) (by rw [← HLn.out]; omega)).mono ?_
              rw [intL, rNum_back (Lib.zigzag (wrap64 (n : Int))) t (Lib.zigzag_lt rg1 rg2), unzig_zigzag]
              rintro en w' ⟨rfl, v', q1, q2, _⟩
              exact ⟨rfl, v', q1, (hk.mono (by simp)).trans q2 (fun x hx => .inl hx), q2.cell (p := ⟨b, o + k * 3 + 1, none⟩) (by simp; omega) hs⟩)
            go_wp2_with fail
            go_region_held3 (fun W => W.cell? ⟨b, o + k * 3 + 1, none⟩ = some (.int .u64 (n : Int))) (first | assumption | go_keep)
              (first
                | (go_at_call 14; refine (HC.out _ ?_ ?_).mono ?_; exact (Kept.refl wr []).drew; exact c1'; rintro en w5 ⟨rfl, v5, q1, q2, s5⟩; have Q1 := Lib.hid q1; have Q2 := Lib.hid q2; clear q1 q2))
            go_wp2
            go_roundw
            case rel => exact ⟨k + 1, v5, by go_num, by omega, by rw [← Ht.out]; exact Q1.out, Hkw.out.trans Q2.out (fun x hx => .inl hx)⟩
            case measure => simp [intOf]; omega
          · have y1 : ((kd : Int) % 3 == 1) = false := by simp; omega
            rw [if_neg k1] at hsplit
            have HLn := Lib.hid hsplit; clear hsplit
            have HC : RowKit.Hid (∀ W, Kept wr W [] → W.cell? ⟨b, o + k * 3 + 2, none⟩ = some (.string s) → Calls Try.prog 15 #[.pointer (some ⟨r, 0, none⟩), .int .i64 60] W fun en w' => en = .returned (.string s) ∧ ∃ v', Rr w' r v' 0 t ∧ Kept wr w' [r] ∧ w'.cell? ⟨b, o + k * 3 + 2, none⟩ = some (.string s)) := Lib.hid (fun W hk hs => by
              refine (rtext_any r vr 60 0 (textL s.data.toList ++ t) W (by rw [← HLn.out]; exact Hr.out.kept hk (by simp) (by simp)) (by rw [← HLn.out]; omega) (by omega)).mono ?_
              rw [rText_back 60 s.data.toList t (by omega) (by omega)]
              rintro en w' ⟨rfl, v', q1, q2, _⟩
              exact ⟨by rw [strL_self], v', q1, (hk.mono (by simp)).trans q2 (fun x hx => .inl hx), q2.cell (p := ⟨b, o + k * 3 + 2, none⟩) (by simp; omega) hs⟩)
            go_wp2_with fail
            go_region_held3 (fun W => W.cell? ⟨b, o + k * 3 + 2, none⟩ = some (.string s)) (first | assumption | go_keep)
              (first
                | (go_at_call 15; refine (HC.out _ ?_ ?_).mono ?_; exact (Kept.refl wr []).drew; exact c2'; rintro en w5 ⟨rfl, v5, q1, q2, s5⟩; have Q1 := Lib.hid q1; have Q2 := Lib.hid q2; clear q1 q2))
            go_wp2
            go_roundw
            case rel => exact ⟨k + 1, v5, by go_num, by omega, by rw [← Ht.out]; exact Q1.out, Hkw.out.trans Q2.out (fun x hx => .inl hx)⟩
            case measure => simp [intOf]; omega
      · have x1 : ¬ (k : Int) < (len : Int) := by omega
        obtain rfl : k = len := by omega
        have hr0 : Rr wr r vr 0 [] := by have := Hr.out; rw [Nat.sub_self, itemsR] at this; exact this
        have hpr := Hp3.out.kept2 Hkw.out (fun hne x hx => by have := Hpb.out hne x hx; simp; omega)
        have hqr := Hq3.out.kept2 Hkw.out (fun hne x hx => by have := Hqb.out hne x hx; simp; omega)
        have R0 := Lib.hid hr0; have Pr := Lib.hid hpr; have Qr := Lib.hid hqr
        have K3 := Lib.hid (Hk3.out.trans Hkw.out (by intro x hx; simp at hx; exact .inr (by omega)))
        clear hr0 hpr hqr
        go_wp2_with fail
        refine (alike_any vp vq _ _ wr Pr.out Qr.out (by omega)).mono ?_
        rintro e w5 ⟨rfl, hk5⟩
        have R5 := Lib.hid (R0.out.kept hk5 (by simp) (by simp)); have K5 := Lib.hid (K3.out.trans hk5 (by simp))
        clear hk5
        have HE : RowKit.Hid (Calls Try.prog 17 #[.pointer (some ⟨r, 0, none⟩)] w5 fun en w' => en = .returned (.int .i64 0) ∧ w5 = w') := Lib.hid (end_any r vr 0 [] w5 R5.out (by simp))
        have HLf : RowKit.Hid (Calls Try.prog 18 #[.pointer (some ⟨r, 0, none⟩)] w5 fun en w' => en = .returned (.int .i64 0) ∧ w5 = w') := Lib.hid (left_any r vr 0 [] w5 R5.out)
        rw [beq_self_eq_true]
        go_wp2_with (first | (go_at_call 17; refine HE.out.mono ?_; rintro en w6 ⟨rfl, rfl⟩) | (go_at_call 18; refine HLf.out.mono ?_; rintro en w6 ⟨rfl, rfl⟩))
        go_ret
        exact ⟨rfl, K5.out.below (Nat.le_refl _) (by simp)⟩

set_option maxRecDepth 100000 in
theorem lifted (os : Os) (started : os.Started) (H : Type) (enc : TypeId × Value → H) :
    ReturnsInHanded {} Try.checked os 3 .any (Rows.codeBackSpec.pre6 enc Try.prog Try.f3 Rows.codeBackRow.domain false) (Rows.codeBackSpec.post enc Try.prog Try.f3 false true false false) := by
  refine returnsInHanded_of_change (C := Try.checked) own started (by kernel_rfl) Try.func3
    (ChangeSpec.witness6 (enc := enc) (C := Try.checked) false ⟨#[], #[.slice none 0 0], []⟩ 8 (by kernel_rfl) (by kernel_rfl) (by kernel_rfl) (by kernel_rfl)) ?_
  intro W base args ds gs before hval0 hW hcnd _
  have hval : ∀ (j : Nat) t v, Try.f3.params[j]? = some t → args[j]? = some v → Value.okWide Try.prog W .any base t v := hval0
  have hW' := hW
  obtain ⟨p, q, hA0, hV, rfl, hfz, hnd⟩ := hW
  have hA : DataW.TrodAll enc Try.prog W 0 (fun _ => true) true Try.f3.params.toList args.toList ds p := hA0
  rw [Try.params3] at hA hval
  obtain ⟨v0, vs0, d0, ds0, p0, q0, hargs, rfl, rfl, h0, r0⟩ := trodAll_cons hA
  obtain ⟨rfl, rfl, rfl⟩ := trodAll_nil r0
  obtain rfl : args = #[v0] := by cases args; simp_all
  obtain ⟨rfl, rfl⟩ := trodVars_none hV
  obtain ⟨a0, len0, cap0, rfl⟩ := okWide_slice Try.underlying22 (hval 0 22 v0 rfl rfl)
  have k0 := h0
  have lt0 : ∀ x ∈ p0, x.block < W.heap.size := by obtain ⟨m, hm⟩ := k0; exact DataW.trod_lt m _ _ _ hm
  obtain ⟨f, w0⟩ : ∃ f, IsItems W a0 len0 cap0 f := by
    obtain ⟨fuel, hf⟩ := h0
    exact items_open (by simpa [Value.cells] using hf)
  clear hA0 hval0
  refine (walk a0 len0 cap0 f W w0).mono fun e W' ⟨he, bel⟩ => ?_
  subst he
  exact ⟨_, rfl, _, _, _, [], _, [], hW', trodAll_mk1 (shut_bool Try.underlying4 _), (trodAll_cons_mk (Below.trod laidOut (by kernel_rfl) (of_decide_eq_true (by kernel_rfl)) k0 bel lt0) trodAll_mk0), rfl, bel.frame _, fun h => by cases h⟩

theorem over : Rows.codeBackRow.holds Try.pinned (OpenSpec.ofChange Rows.codeBackSpec) :=
  OpenClaim.holds_of_wide 3 Try.f3 rfl rfl rfl rfl rfl rfl rfl ⟨rfl, rfl, rfl, rfl, rfl⟩ rfl rfl rfl rfl rfl (by kernel_rfl) Try.func3 (by kernel_rfl)
    (of_decide_eq_true (by kernel_rfl)) (by unfold Func.isWrapper; first | (rw [if_pos (by decide +kernel)]; kernel_rfl) | (rw [if_neg (by decide +kernel)]; exact ⟨rfl, rfl⟩))
    (fun os started H enc _ => lifted os started H enc)

theorem proved : Rows.CodeBackSaid :=
  over
end Go.Proofs.Ytfmljoekfbnpiaa.codeBack

namespace Go.Proofs.Ytfmljoekfbnpiaa
theorem codeBack_holds : Rows.CodeBackSaid := codeBack.proved
#print axioms codeBack_holds
end Go.Proofs.Ytfmljoekfbnpiaa
