/-
  Proved: whatever the arguments are, carrierlaw02.CodeOwn answers true and leaves its arguments as they were. No condition.
-/
import Derived.Test.YtfmljoekfbnpiaaLaws
namespace Go.Proofs.Ytfmljoekfbnpiaa.codeOwn
open Go.ChangeShapes Go.WideShapes Go.ChangeAt Go.RowKit
open Go.ChangeMaps (open_string shut_string)
set_option linter.unusedVariables false

theorem own : ownKnob Try.prog.godebug = none := by kernel_rfl
theorem laidOut : laidOutB Try.prog = true := by kernel_rfl

theorem numL_9 : numL 9 = [9] := by rw [numL_small (by decide)]; rfl
theorem numL_1 : numL 1 = [1] := by rw [numL_small (by decide)]; rfl

set_option maxHeartbeats 4000000 in
set_option maxRecDepth 100000 in
theorem walk (a0 : Option Addr) (len0 cap0 : Nat) (z0 : List Int) (a1 : Int) (w : World) (w0 : IsRow .u8 w a0 len0 cap0 z0) (w1 : (Lit.int .u8 a1).wf = true) :
    Calls Try.prog 7 #[.slice a0 len0 cap0, .int .u8 a1] w fun e w' => e = .returned (.bool true) ∧ Below w.heap.size w w' := by
  obtain ⟨p, hlen0, hp⟩ := isRow_rd w0
  have hcapm : len0 ≤ 9223372036854775807 := by
    rcases w0 with ⟨_, h, _⟩ | ⟨_, _, h1, h2, _⟩
    · omega
    · unfold maxLen at h2; omega
  obtain ⟨h3, h4⟩ := bounds_u8 w1
  have Hp := Lib.hid hp
  clear hp w0 w1
  by_cases h : (60 : Int) < (len0 : Int)
  · go_enter Try.func7, Try.ntmps7
    go_wp2_with fail
    refine (three_any w).mono ?_
    rintro e w1 ⟨rfl, hk⟩
    have Hk := Lib.hid hk; clear hk
    go_wp2_with fail
    refine (three_any w1).mono ?_
    rintro e w2 ⟨rfl, hk⟩
    have Hk2 := Lib.hid (Hk.out.trans hk (by simp)); clear hk
    go_wp2
    go_ret
    exact ⟨rfl, Hk2.out.below (Nat.le_refl _) (by simp)⟩
  · have hpl : p.length ≤ 60 := by omega
    obtain ⟨b, hb⟩ : ∃ b : UInt8, a1 = (b.toNat : Int) := ⟨UInt8.ofNat a1.toNat, by rw [UInt8.toNat_ofNat']; omega⟩
    subst hb
    have Hlen0 := Lib.hid hlen0; clear hlen0
    go_enter Try.func7, Try.ntmps7
    go_wp2_with fail
    refine (three_any w).mono ?_
    rintro e w1 ⟨rfl, hk⟩
    have hz1 := hk.size
    have Hk1 := Lib.hid hk; clear hk
    go_wp2_with fail
    refine (join_any _ (.slice none 0 0) p [] w1 (Hp.out.kept Hk1.out (by simp)) (Rd.nil _) (by omega) (by simp)).mono ?_
    rintro e w2 ⟨vq, rfl, hq, hk⟩
    rw [List.append_nil] at hq
    obtain ⟨aq, cq, hvq⟩ := hq.shape
    rw [Hlen0.out] at hvq
    have hz2 := hk.size
    have Hq := Lib.hid hq; have Hk2 := Lib.hid (Hk1.out.trans hk (by simp)); clear hk hq
    subst hvq
    go_wp2_with fail
    refine (new_any _ p w2 Hq.out.rd (by omega)).mono ?_
    rintro e w3 ⟨r, v3, rfl, hr3, hle3, hb3, hk3⟩
    have hz3 := hk3.size
    have Hr3 := Lib.hid hr3; have Hk3 := Lib.hid (Hk2.out.trans hk3 (by simp)); have Hb3 := Lib.hid hb3
    have Hq3 := Lib.hid (Hq.out.kept hk3 (by simp))
    clear hr3 hk3 hb3
    go_wp2
    go_loopw [7] (fun t wr => ∃ (k : Nat) (l' : List UInt8), t = .int .i64 k ∧ k ≤ len0 ∧ l'.length = p.length ∧ Own wr w1.heap.size 5 (.slice aq len0 cq) l' ∧ Kept w3 wr (Value.slice aq len0 cq).ownBlock.toList) (fun t _ => len0 - (intOf t).toNat)
    case atStart => exact ⟨0, p, rfl, Nat.zero_le _, rfl, Hq3.out, Kept.refl _ _⟩
    case round =>
      obtain ⟨k, l', rfl, hk, hl', hown, hkept⟩ := hrel
      have Hown := Lib.hid hown; have Hkept := Lib.hid hkept; have Hl' := Lib.hid hl'
      clear hown hkept hl'
      by_cases hlt : k < len0
      · obtain ⟨g, rfl⟩ : ∃ g, aq = some ⟨g, 0, none⟩ := by
          rcases Hown.out.2 with ⟨h1, _⟩ | ⟨g, cap, cur, h1, _⟩
          · simp at h1; omega
          · simp only [Value.slice.injEq] at h1; exact ⟨g, h1.1⟩
        obtain ⟨c0, f0⟩ := own_at Hown.out k (by rw [Hl'.out, Hlen0.out]; exact hlt)
        have x1 : (k : Int) < (len0 : Int) := by omega
        go_wp2
        go_roundw
        case rel => exact ⟨k + 1, l'.set k b, by go_num, by omega, by rw [List.length_set]; exact Hl'.out, own_store Hown.out k (by rw [Hl'.out, Hlen0.out]; exact hlt) b, Hkept.out.setCell (.inl (by simp [Value.ownBlock])) _⟩
        case measure => simp [intOf]; omega
      · have x1 : ¬ (k : Int) < (len0 : Int) := by omega
        have hkk : k = len0 := by omega
        clear hlt
        have hgq : ∀ x ∈ (Value.slice aq len0 cq).ownBlock.toList, w1.heap.size ≤ x ∧ x < w2.heap.size := by
          intro x hx
          exact Hq.out.lt x (by simpa using hx)
        have HkA := Lib.hid (Hk3.out.trans Hkept.out (by intro x hx; exact .inr (by have := hgq x hx; omega)))
        have HrA := Lib.hid (Hr3.out.kept Hkept.out (by intro hx; have := hgq r hx; omega) (by intro x hx hx2; have := hgq x hx2; have := Hb3.out x hx; omega))
        have hzA := HkA.out.size
        have hrA : r < wr.heap.size := (Array.getElem?_eq_some_iff.1 HrA.out.1).1
        have hwr2 : w2.heap.size ≤ r := hle3
        clear hgq
        go_wp2_with fail
        refine (refread_any _ 0 p wr (Hp.out.kept HkA.out (by simp)) (by omega)).mono ?_
        rintro e w4 ⟨vm, rfl, hrm, hk4, _⟩
        obtain ⟨am, nm, cm, hvm⟩ := hrm.shape3
        obtain ⟨n, hn⟩ : ∃ n, n = (rNum 0 p).1 := ⟨_, rfl⟩
        obtain ⟨e4, he4⟩ : ∃ e4, e4 = (rNum 0 p).2.2 := ⟨_, rfl⟩
        rw [← hn, ← he4]
        have hz4 := hk4.size
        have Hk4 := Lib.hid hk4; have Hn := Lib.hid hn; have He4 := Lib.hid he4
        clear hrm hk4 hn he4
        subst hvm
        go_wp2_with fail
        refine (num_any (w4.heap.size + 1) (w4.heap.size + 1) (.slice none 0 0) [] 9 ((w4.alloc (.cells #[.slice am nm cm, .int .i64 e4] 42)).alloc (.cells #[.slice none 0 0] 54)) ⟨by simpa using heap_alloc_new (w4.alloc (.cells #[.slice am nm cm, .int .i64 e4] 42)) (.cells #[.slice none 0 0] 54), Own.nil _ _ _⟩ (by simp) (by decide) (by simp)).mono ?_
        rintro e w5 ⟨rfl, v5, hw5, hs5⟩
        rw [numL_9] at hw5
        have hk5 : Kept w4 w5 [] := (((Kept.refl w4 []).alloc _).alloc _).trans hs5.1 (by intro x hx; simp [Value.ownBlock] at hx; exact .inr (by omega))
        have hcm5 : w5.cell? ⟨w4.heap.size, 1, none⟩ = some (.int .i64 e4) := hs5.1.cell (p := ⟨w4.heap.size, 1, none⟩) (by simp [Value.ownBlock]) (by simp)
        have hpw5 : w4.heap.size + 1 < w5.heap.size := (Array.getElem?_eq_some_iff.1 hw5.1).1
        have Hw5 := Lib.hid hw5; have Hk5 := Lib.hid hk5; have Hcm5 := Lib.hid hcm5
        clear hw5 hs5 hk5 hcm5
        go_wp2_with fail
        refine (bytes_any (w4.heap.size + 1) (w4.heap.size + 1) v5 [9] w5 Hw5.out (by decide)).mono ?_
        rintro e w6 ⟨vx, rfl, hx6, hk6⟩
        obtain ⟨ax, cx, hvx⟩ := hx6.shape
        have hz6 := hk6.size
        have Hx6 := Lib.hid hx6; have Hk6 := Lib.hid hk6
        clear hx6 hk6
        have hv3 := HrA.out.2.1.block_lt
        have Hv3 := Lib.hid hv3
        clear hv3
        have Kw6 := Lib.hid (((HkA.out.trans Hk4.out (by simp)).trans Hk5.out (by simp)).trans Hk6.out (by simp))
        have Rr6 := Lib.hid (((HrA.out.kept Hk4.out (by simp) (by simp)).kept Hk5.out (by simp) (by simp)).kept Hk6.out (by simp) (by simp))
        subst hvx
        go_wp2
        go_loopw [12] (fun t wr => ∃ (k : Nat) (l' : List UInt8), t = .int .i64 k ∧ k ≤ 1 ∧ l'.length = 1 ∧ Own wr w5.heap.size 5 (.slice ax 1 cx) l' ∧ Kept w6 wr (Value.slice ax 1 cx).ownBlock.toList) (fun t _ => 1 - (intOf t).toNat)
        case atStart => exact ⟨0, [9], rfl, Nat.zero_le _, rfl, Hx6.out, Kept.refl _ _⟩
        case round =>
          obtain ⟨k2, l2, rfl, hk2, hl2, hown2, hkept2⟩ := hrel
          have Hown2 := Lib.hid hown2; have Hkept2 := Lib.hid hkept2; have Hl2 := Lib.hid hl2
          clear hown2 hkept2 hl2
          by_cases hlt2 : k2 < 1
          · obtain rfl : k2 = 0 := by omega
            obtain ⟨g, rfl⟩ : ∃ g, ax = some ⟨g, 0, none⟩ := by
              rcases Hown2.out.2 with ⟨h1, _⟩ | ⟨g, cap, cur, h1, _⟩
              · simp at h1
              · simp only [Value.slice.injEq] at h1; exact ⟨g, h1.1⟩
            obtain ⟨c0, f0⟩ := own_at Hown2.out 0 (by rw [Hl2.out]; decide)
            go_wp2
            go_roundw
            case rel => exact ⟨1, l2.set 0 b, rfl, by omega, by rw [List.length_set]; exact Hl2.out, own_store Hown2.out 0 (by rw [Hl2.out]; decide) b, Hkept2.out.setCell (.inl (by simp [Value.ownBlock])) _⟩
            case measure => simp [intOf]
          · obtain rfl : k2 = 1 := by omega
            have hgx : ∀ x ∈ (Value.slice ax 1 cx).ownBlock.toList, w5.heap.size ≤ x := by
              intro x hx
              exact (Hx6.out.lt x (by simpa using hx)).1
            have KwB := Lib.hid (Kw6.out.trans Hkept2.out (by intro x hx; exact .inr (by have := hgx x hx; omega)))
            have RrB := Lib.hid (Rr6.out.kept2 Hkept2.out (by intro hx; have := hgx r hx; omega) (by intro hne x hx hx2; have := hgx x hx2; have := Hv3.out hne x hx; omega))
            have WrB := Lib.hid ((Hw5.out.kept Hk6.out (by simp) (by simp)).kept Hkept2.out (by intro hx; have := hgx _ hx; omega) (by intro x hx hx2; have := hgx x hx2; have := (Hw5.out.2.lt x hx).2; omega))
            have CmB : wr.cell? ⟨w4.heap.size, 1, none⟩ = some (.int .i64 e4) := Hkept2.out.cell (p := ⟨w4.heap.size, 1, none⟩) (by intro hx; have := hgx _ hx; simp at this; omega) (Hk6.out.cell (p := ⟨w4.heap.size, 1, none⟩) (by simp) Hcm5.out)
            have hzB : w6.heap.size ≤ wr.heap.size := Hkept2.out.size
            have hv5lt : RowKit.Hid (∀ x, v5.ownBlock = some x → w4.heap.size + 1 ≤ x ∧ x < w5.heap.size) := Lib.hid (fun x hx => Hw5.out.2.lt x hx)
            have hrpw : r < w4.heap.size := by omega
            have HN : RowKit.Hid (∀ W, Kept wr W [] → W.cell? ⟨w4.heap.size, 1, none⟩ = some (.int .i64 e4) → Calls Try.prog 13 #[.pointer (some ⟨r, 0, none⟩)] W fun en w' => en = .returned (.int .u64 n) ∧ ∃ v', Rr w' r v' e4 (rNum 0 p).2.1 ∧ Kept wr w' [r] ∧ w'.cell? ⟨w4.heap.size, 1, none⟩ = some (.int .i64 e4)) := Lib.hid (fun W hk hs => by
              refine (rnum_any r v3 0 p W (RrB.out.kept hk (by simp) (by simp)) (by omega)).mono ?_
              rw [← Hn.out, ← He4.out]
              rintro en w' ⟨rfl, v', q1, q2, _⟩
              exact ⟨rfl, v', q1, (hk.mono (by simp)).trans q2 (fun x hx => .inl hx), q2.cell (p := ⟨w4.heap.size, 1, none⟩) (by simp; omega) hs⟩)
            have HW : RowKit.Hid (∀ W, Kept wr W [r] → W.cell? ⟨w4.heap.size, 1, none⟩ = some (.int .i64 e4) → Calls Try.prog 24 #[.pointer (some ⟨w4.heap.size + 1, 0, none⟩), .int .u64 1] W fun en w' => en = .returned (.pointer (some ⟨w4.heap.size + 1, 0, none⟩)) ∧ ∃ v', Wr w' (w4.heap.size + 1) (w4.heap.size + 1) v' [9, 1] ∧ Kept w w' [] ∧ NK wr.heap.size W w' ∧ w'.cell? ⟨w4.heap.size, 1, none⟩ = some (.int .i64 e4)) := Lib.hid (fun W hk hs => by
              have hsz := hk.size
              refine (num_any (w4.heap.size + 1) (w4.heap.size + 1) v5 [9] 1 W (WrB.out.kept hk (by simp; omega) (by intro x hx; have := hv5lt.out x hx; simp; omega)) (by omega) (by decide) (by decide)).mono ?_
              rw [numL_1]
              rintro en w' ⟨rfl, v', q1, q2⟩
              have hch : ∀ x ∈ [w4.heap.size + 1] ++ v5.ownBlock.toList, w4.heap.size + 1 ≤ x ∧ x < wr.heap.size := by
                intro x hx
                rcases List.mem_append.1 hx with h | h
                · simp at h; omega
                · have := hv5lt.out x (by simpa using h); omega
              refine ⟨rfl, v', q1, ((KwB.out.trans hk (by intro x hx; simp at hx; exact .inr (by omega))).trans q2.1 (fun x hx => .inr (by have := hch x hx; omega))), fun k h1 h2 => q2.1.block k h2 (fun hx => by have := hch k hx; omega), q2.1.cell (p := ⟨w4.heap.size, 1, none⟩) (fun hx => by have := hch _ hx; simp at this; omega) hs⟩)
            have x9 : ¬ ((1 : Nat) : Int) < 1 := by decide
            have HB : RowKit.Hid (∀ W v', Wr W (w4.heap.size + 1) (w4.heap.size + 1) v' [9, 1] → W.cell? ⟨w4.heap.size, 1, none⟩ = some (.int .i64 e4) → Calls Try.prog 25 #[.pointer (some ⟨w4.heap.size + 1, 0, none⟩)] W fun en w' => ∃ v'', en = .returned v'' ∧ Rd w' v'' [9, 1] ∧ Kept W w' [] ∧ w'.cell? ⟨w4.heap.size, 1, none⟩ = some (.int .i64 e4)) := Lib.hid (fun W v' h hs => by
              refine (bytes_any _ _ v' [9, 1] W h (by decide)).mono ?_
              rintro en w' ⟨v'', rfl, q1, q2⟩
              exact ⟨v'', rfl, q1.rd, q2, q2.cell (p := ⟨w4.heap.size, 1, none⟩) (by simp) hs⟩)
            have HA : RowKit.Hid (∀ W va vb, Rd W va [9, 1] → Rd W vb [9, 1] → W.cell? ⟨w4.heap.size, 1, none⟩ = some (.int .i64 e4) → Calls Try.prog 16 #[va, vb] W fun en w' => en = .returned (.bool true) ∧ Kept W w' [] ∧ w'.cell? ⟨w4.heap.size, 1, none⟩ = some (.int .i64 e4)) := Lib.hid (fun W va vb h1 h2 hs => by
              refine (alike_any va vb [9, 1] [9, 1] W h1 h2 (by decide)).mono ?_
              rintro en w' ⟨rfl, q2⟩
              exact ⟨rfl, q2, q2.cell (p := ⟨w4.heap.size, 1, none⟩) (by simp) hs⟩)
            go_wp2_with fail
            go_region_held3 (fun W => W.cell? ⟨w4.heap.size, 1, none⟩ = some (.int .i64 e4)) (first | assumption | go_keep)
              (first
                | (go_at_call 13; refine (HN.out _ ?_ ?_).mono ?_; exact (Kept.refl wr []).drew; exact CmB; rintro e w8 ⟨rfl, v8, q1, q2, s8⟩; have Q1 := Lib.hid q1; have Q2 := Lib.hid q2; clear q1 q2)
                | (go_at_call 22; refine (error_any r v8 e4 _ _ Q1.out).mono ?_; rintro e w9 ⟨rfl, rfl⟩)
                | (go_at_call 24; refine (HW.out _ ?_ ?_).mono ?_; (first | exact Q2.out | exact Q2.out.alloc _); (first | exact s8 | exact ((Kept.refl w8 []).alloc _).cell (p := ⟨w4.heap.size, 1, none⟩) (by simp) s8); rintro e w10 ⟨rfl, v10, q1, q2, q3, s10⟩; have QW := Lib.hid q1; have QK := Lib.hid q2; have QN := Lib.hid q3; clear q1 q2 q3)
                | (go_at_call 25; refine (HB.out _ v10 ?_ ?_).mono ?_; (first | exact QW.out | exact QW.out.kept ((Kept.refl w10 []).alloc _) (by simp) (by simp)); (first | exact s10 | exact ((Kept.refl w10 []).alloc _).cell (p := ⟨w4.heap.size, 1, none⟩) (by simp) s10); rintro e w11 ⟨v11, rfl, q1, q2, s11⟩; have QR := Lib.hid q1; have QB := Lib.hid q2; clear q1 q2)
                | (go_at_call 16; refine (HA.out _ v11 _ ?_ ?_ ?_).mono ?_; (first | exact QR.out | exact QR.out.kept ((Kept.refl w11 []).alloc _) (by simp)); (first | exact rd_lit w11 [9, 1] _ _ 2 rfl rfl | exact (rd_lit w10 [9, 1] _ _ 2 rfl rfl).kept QB.out (by simp) | exact ((rd_lit w8 [9, 1] _ _ 2 rfl rfl).nk QN.out (by intro x hx; have := Q2.out.size; simp [Value.ownBlock] at hx; omega)).kept QB.out (by simp)); (first | exact s11 | exact ((Kept.refl w11 []).alloc _).cell (p := ⟨w4.heap.size, 1, none⟩) (by simp) s11); rintro e w12 ⟨rfl, q1, s12⟩; have QA := Lib.hid q1; clear q1))
            all_goals go_wp2
            all_goals go_ret
            all_goals refine ⟨rfl, Kept.below (bs := []) ?_ (Nat.le_refl _) (by simp)⟩
            all_goals first
              | exact (QK.out.trans QB.out (by simp)).trans QA.out (by simp)
              | exact ((QK.out.alloc _).trans QB.out (by simp)).trans QA.out (by simp)
              | exact ((QK.out.trans QB.out (by simp)).alloc _).trans QA.out (by simp)

set_option maxRecDepth 100000 in
theorem lifted (os : Os) (started : os.Started) (H : Type) (enc : TypeId × Value → H) :
    ReturnsInHanded {} Try.checked os 7 .any (Rows.codeOwnSpec.pre6 enc Try.prog Try.f7 Rows.codeOwnRow.domain false) (Rows.codeOwnSpec.post enc Try.prog Try.f7 false true false false) := by
  refine returnsInHanded_of_change (C := Try.checked) own started (by kernel_rfl) Try.func7
    (ChangeSpec.witness6 (enc := enc) (C := Try.checked) false ⟨#[], #[.slice none 0 0, .int .u8 0], []⟩ 8 (by kernel_rfl) (by kernel_rfl) (by kernel_rfl) (by kernel_rfl)) ?_
  intro W base args ds gs before hval0 hW hcnd _
  have hval : ∀ (j : Nat) t v, Try.f7.params[j]? = some t → args[j]? = some v → Value.okWide Try.prog W .any base t v := hval0
  have hW' := hW
  obtain ⟨p, q, hA0, hV, rfl, hfz, hnd⟩ := hW
  have hA : DataW.TrodAll enc Try.prog W 0 (fun _ => true) true Try.f7.params.toList args.toList ds p := hA0
  rw [Try.params7] at hA hval
  obtain ⟨v0, vs0, d0, ds0, p0, q0, hargs, rfl, rfl, h0, r0⟩ := trodAll_cons hA
  obtain ⟨v1, vs1, d1, ds1, p1, q1, rfl, rfl, rfl, h1, r1⟩ := trodAll_cons r0
  obtain ⟨rfl, rfl, rfl⟩ := trodAll_nil r1
  obtain rfl : args = #[v0, v1] := by cases args; simp_all
  obtain ⟨rfl, rfl⟩ := trodVars_none hV
  obtain ⟨a0, len0, cap0, rfl⟩ := okWide_slice Try.underlying25 (hval 0 25 v0 rfl rfl)
  have k0 := h0
  have lt0 : ∀ x ∈ p0, x.block < W.heap.size := by obtain ⟨m, hm⟩ := k0; exact DataW.trod_lt m _ _ _ hm
  obtain ⟨z0, w0⟩ : ∃ zs, IsRow .u8 W a0 len0 cap0 zs := by
    obtain ⟨fuel, hf⟩ := h0
    rcases open_ints Try.underlying25 Try.underlying5 (by kernel_rfl) hf with ⟨hcs, _⟩ | ⟨x, l, c, zs, hcs, _, hl, hm, hz, _, hcell, hwz⟩
    · simp [Value.cells] at hcs
      obtain ⟨rfl, rfl, rfl⟩ := hcs
      exact ⟨[], .inl ⟨rfl, rfl, rfl, rfl⟩⟩
    · simp [Value.cells] at hcs
      obtain ⟨rfl, rfl, rfl⟩ := hcs
      exact ⟨zs, .inr ⟨_, rfl, hl, hm, by simpa using hz, hcell, hwz⟩⟩
  obtain ⟨a1, rfl, rfl, rfl, w1⟩ := open_int Try.underlying5 (hval 1 5 v1 rfl rfl) h1
  clear hA0 hval0
  refine (walk a0 len0 cap0 z0 a1 W w0 w1).mono fun e W' ⟨he, bel⟩ => ?_
  subst he
  exact ⟨_, rfl, _, _, _, [], _, [], hW', trodAll_mk1 (shut_bool Try.underlying4 _), (trodAll_cons_mk (Below.trod laidOut (by kernel_rfl) (of_decide_eq_true (by kernel_rfl)) k0 bel lt0) (trodAll_cons_mk (shut_int Try.underlying5 w1) trodAll_mk0)), rfl, bel.frame _, fun h => by cases h⟩

theorem over : Rows.codeOwnRow.holds Try.pinned (OpenSpec.ofChange Rows.codeOwnSpec) :=
  OpenClaim.holds_of_wide 7 Try.f7 rfl rfl rfl rfl rfl rfl rfl ⟨rfl, rfl, rfl, rfl, rfl⟩ rfl rfl rfl rfl rfl (by kernel_rfl) Try.func7 (by kernel_rfl)
    (of_decide_eq_true (by kernel_rfl)) (by unfold Func.isWrapper; first | (rw [if_pos (by decide +kernel)]; kernel_rfl) | (rw [if_neg (by decide +kernel)]; exact ⟨rfl, rfl⟩))
    (fun os started H enc _ => lifted os started H enc)

theorem proved : Rows.CodeOwnSaid :=
  over
end Go.Proofs.Ytfmljoekfbnpiaa.codeOwn

namespace Go.Proofs.Ytfmljoekfbnpiaa
theorem codeOwn_holds : Rows.CodeOwnSaid := codeOwn.proved
#print axioms codeOwn_holds
end Go.Proofs.Ytfmljoekfbnpiaa
