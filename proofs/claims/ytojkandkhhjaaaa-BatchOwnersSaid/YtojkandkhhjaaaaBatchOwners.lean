/-
  Proved: whatever the arguments are, carrierlaw12.BatchOwners answers true and leaves its arguments as they were. No condition.
-/
import Derived.Test.YtojkandkhhjaaaaBn
namespace Go.Proofs.Ytojkandkhhjaaaa.batchOwners
open Go.ChangeShapes Go.WideShapes Go.ChangeAt Go.RowKit
set_option linter.unusedVariables false

theorem own : ownKnob Try.prog.godebug = none := by kernel_rfl
theorem laidOut : laidOutB Try.prog = true := by kernel_rfl

set_option maxHeartbeats 8000000 in
set_option maxRecDepth 100000 in
theorem walk (a0 : Option Addr) (len cap : Nat) (f : Nat → ActD) (a1 : Option Addr) (n1 c1 : Nat) (z1 : List Int) (a2 : Int) (W : World)
    (w0 : IsActs W W.heap.size a0 len f ∧ len ≤ maxLen) (w1 : IsRow .u8 W a1 n1 c1 z1) (w2 : (Lit.int .u8 a2).wf = true) :
    Calls Try.prog 8 #[.slice a0 len cap, .slice a1 n1 c1, .int .u8 a2] W fun e w' => e = .returned (.bool true) ∧ Below W.heap.size W w' := by
  obtain ⟨q, hq⟩ : ∃ n : Nat, a2 = n := ⟨a2.toNat, by have := bounds_u8 w2; omega⟩
  have q8 : q < 256 := by have := bounds_u8 w2; omega
  subst hq
  obtain ⟨bs, ebs, hbs⟩ := isRow_rd w1
  subst ebs
  have Hbs := Lib.hid hbs
  have HA := Lib.hid w0.1
  have hlm : len ≤ 9223372036854775807 := by have := w0.2; unfold maxLen at this; omega
  clear w0 w1 w2 hbs
  by_cases hg0 : 60 < len
  · have xg0 : (60 : Int) < (len : Int) := by omega
    go_enter Try.func8, Try.ntmps8
    go_wp2_with fail
    refine (seen_any W).mono ?_
    rintro e w1 ⟨rfl, k1⟩
    have K1 := Lib.hid k1; clear k1
    go_wp2_with fail
    refine (seen_any w1).mono ?_
    rintro e w2 ⟨rfl, k2⟩
    have K2 := Lib.hid (K1.out.trans k2 (by simp)); clear k2
    go_wp2
    go_ret
    exact ⟨rfl, K2.out.below (Nat.le_refl _) (by simp)⟩
  have xg0 : ¬ (60 : Int) < (len : Int) := by omega
  by_cases hg1 : 30 < bs.length
  · have xg1 : (30 : Int) < (bs.length : Int) := by omega
    go_enter Try.func8, Try.ntmps8
    go_wp2_with fail
    refine (seen_any W).mono ?_
    rintro e w1 ⟨rfl, k1⟩
    have K1 := Lib.hid k1; clear k1
    go_wp2_with fail
    refine (seen_any w1).mono ?_
    rintro e w2 ⟨rfl, k2⟩
    have K2 := Lib.hid (K1.out.trans k2 (by simp)); clear k2
    go_wp2
    go_ret
    exact ⟨rfl, K2.out.below (Nat.le_refl _) (by simp)⟩
  have xg1 : ¬ (30 : Int) < (bs.length : Int) := by omega
  go_enter Try.func8, Try.ntmps8
  go_wp2_with fail
  refine (seen_any W).mono ?_
  rintro e w1 ⟨rfl, k1⟩
  have K1 := Lib.hid k1; clear k1
  have hm := Lib.hid (managers_any _ bs w1 (Hbs.out.kept K1.out (by simp)) (by omega))
  go_wp2_with fail
  refine hm.out.mono ?_
  rintro e w2 ⟨p, g, st, rfl, t2⟩
  have M2 := Lib.hid t2.man
  have K2 := Lib.hid (K1.out.trans t2.k (by simp)); clear t2 hm
  obtain ⟨W5, hW5⟩ : ∃ W5, W5 = (w2.alloc (.cells #[.int .i64 1, .slice none 0 0] 31)).alloc (.cells #[.int .i64 (1 + (q : Int)), .slice none 0 0] 31) := ⟨_, rfl⟩
  have hz : (w2.alloc (.cells #[.int .i64 1, .slice none 0 0] 31)).heap.size = w2.heap.size + 1 := by simp
  have k5 : Kept w2 W5 [] := by rw [hW5]; exact ((Kept.refl w2 []).alloc _).alloc _
  have g1 : W5.heap[w2.heap.size]? = some (.cells #[.int .i64 1, .slice none 0 0] 31 (0, 0)) := by rw [hW5]; exact ((Kept.refl _ []).alloc _).heap (by simp) (heap_alloc_new w2 _)
  have g2 : W5.heap[w2.heap.size + 1]? = some (.cells #[.int .i64 (1 + (q : Int)), .slice none 0 0] 31 (0, 0)) := by rw [hW5, ← hz]; exact heap_alloc_new _ _
  have G1 := Lib.hid g1; have G2 := Lib.hid g2; have HW5 := Lib.hid hW5
  have K5 := Lib.hid (K2.out.trans k5 (by simp))
  have M5 := Lib.hid (M2.out.1.keep k5)
  have he := Lib.hid (events_any (cap := cap) (HA.out.kept K5.out) (by omega))
  clear hW5 hz k5 g1 g2
  go_upto_region 5 with fail
  rw [← HW5.out]
  go_wp2_with fail
  refine he.out.mono ?_
  rintro e w6 ⟨v6, rfl, o6, k6⟩
  obtain ⟨a6, c6, hv6⟩ := o6.shape
  subst hv6
  rw [evsA_length] at o6 ⊢
  obtain ⟨wc, hwc⟩ : ∃ wc, wc = w6 := ⟨_, rfl⟩
  subst hwc
  have HL := Lib.hid (show len < 1000000 by omega)
  have CE := Lib.hid (fun Z (hZ : Kept wc Z []) => (o6.kept hZ (by simp)).rd)
  have CB := Lib.hid (fun o Z (hZ : Kept wc Z []) => bof_any o (CE.out Z hZ) (by rw [evsA_length]; exact HL.out) (M5.out.keep (k6.trans hZ (by simp))) (RdI.nil Z) (RdI.nil Z) (evsA_wf f len) (A := 1) (B := 1 + (q : Int)))
  have CF := Lib.hid (fun Z (hZ : Kept wc Z []) => And.intro (two_cells ((k6.trans hZ (by simp)).heap (by simp) G1.out)) (two_cells ((k6.trans hZ (by simp)).heap (by simp) G2.out)))
  have LL := Lib.hid (fun P => (show (srt byId ((evsA f len).filter P)).length ≤ len by rw [srt_length]; have := List.length_filter_le P (evsA f len); rw [evsA_length] at this; exact this))
  have K6 := Lib.hid (K5.out.trans k6 (by simp))
  clear o6 k6 he
  go_upto_region 6 with fail
  refine wp_region_held_drew (S := fun Z => Kept wc Z []) (by kernel_rfl) (Kept.refl wc []).drew (fun hHeld => ?_)
  refine wpAnyH_take (i := 0) (oi := _) (v := .slice a6 len c6) rfl (by kernel_rfl) (by kernel_rfl) (by kernel_rfl) (fun _ _ _ h => h) (Or.inl ⟨by rfl, fun V hV => by go_simp⟩) hHeld ?_
  change wpAnyH _ _ _ _ _ _ _ (Act.put _ (some 43) _) _
  simp only [Act.put, List.setIfInBounds_toArray, List.set_cons_zero, List.set_cons_succ]
  refine wpAnyH_take (i := 1) (oi := _) (v := .pointer (some ⟨p, 0, none⟩)) rfl (by kernel_rfl) (by kernel_rfl) (by kernel_rfl) (fun _ _ _ h => h) (Or.inl ⟨by rfl, fun V hV => by go_simp⟩) hHeld ?_
  change wpAnyH _ _ _ _ _ _ _ (Act.put _ (some 44) _) _
  simp only [Act.put, List.setIfInBounds_toArray, List.set_cons_zero, List.set_cons_succ]
  refine wpAnyH_take (i := 2) (oi := _) (v := .agg #[.int .i64 1, .slice none 0 0]) rfl (by kernel_rfl) (by kernel_rfl) (by kernel_rfl) (fun _ _ _ h => h) (Or.inl ⟨by rfl, fun V hV => by (obtain ⟨⟨y0, y1⟩, y2, y3⟩ := CF.out V hV; clear hV; go_simp)⟩) hHeld ?_
  change wpAnyH _ _ _ _ _ _ _ (Act.put _ (some 45) _) _
  simp only [Act.put, List.setIfInBounds_toArray, List.set_cons_zero, List.set_cons_succ]
  refine wpAnyH_take (i := 3) (oi := _) (v := .agg #[.int .i64 (1 + (q : Int)), .slice none 0 0]) rfl (by kernel_rfl) (by kernel_rfl) (by kernel_rfl) (fun _ _ _ h => h) (Or.inl ⟨by rfl, fun V hV => by (obtain ⟨⟨y0, y1⟩, y2, y3⟩ := CF.out V hV; clear hV; go_simp)⟩) hHeld ?_
  change wpAnyH _ _ _ _ _ _ _ (Act.put _ (some 46) _) _
  simp only [Act.put, List.setIfInBounds_toArray, List.set_cons_zero, List.set_cons_succ]
  refine wpAnyH_take (i := 5) (oi := _) (v := .slice a6 len c6) rfl (by kernel_rfl) (by kernel_rfl) (by kernel_rfl) (fun _ _ _ h => h) (Or.inl ⟨by rfl, fun V hV => by go_simp⟩) hHeld ?_
  change wpAnyH _ _ _ _ _ _ _ (Act.put _ (some 48) _) _
  simp only [Act.put, List.setIfInBounds_toArray, List.set_cons_zero, List.set_cons_succ]
  refine wpAnyH_take (i := 6) (oi := _) (v := .pointer (some ⟨p, 0, none⟩)) rfl (by kernel_rfl) (by kernel_rfl) (by kernel_rfl) (fun _ _ _ h => h) (Or.inl ⟨by rfl, fun V hV => by go_simp⟩) hHeld ?_
  change wpAnyH _ _ _ _ _ _ _ (Act.put _ (some 49) _) _
  simp only [Act.put, List.setIfInBounds_toArray, List.set_cons_zero, List.set_cons_succ]
  refine wpAnyH_take (i := 7) (oi := _) (v := .agg #[.int .i64 1, .slice none 0 0]) rfl (by kernel_rfl) (by kernel_rfl) (by kernel_rfl) (fun _ _ _ h => h) (Or.inl ⟨by rfl, fun V hV => by (obtain ⟨⟨y0, y1⟩, y2, y3⟩ := CF.out V hV; clear hV; go_simp)⟩) hHeld ?_
  change wpAnyH _ _ _ _ _ _ _ (Act.put _ (some 50) _) _
  simp only [Act.put, List.setIfInBounds_toArray, List.set_cons_zero, List.set_cons_succ]
  refine wpAnyH_take (i := 8) (oi := _) (v := .agg #[.int .i64 (1 + (q : Int)), .slice none 0 0]) rfl (by kernel_rfl) (by kernel_rfl) (by kernel_rfl) (fun _ _ _ h => h) (Or.inl ⟨by rfl, fun V hV => by (obtain ⟨⟨y0, y1⟩, y2, y3⟩ := CF.out V hV; clear hV; go_simp)⟩) hHeld ?_
  change wpAnyH _ _ _ _ _ _ _ (Act.put _ (some 51) _) _
  simp only [Act.put, List.setIfInBounds_toArray, List.set_cons_zero, List.set_cons_succ]
  refine wpAnyH_take (i := 10) (oi := _) (v := .slice a6 len c6) rfl (by kernel_rfl) (by kernel_rfl) (by kernel_rfl) (fun _ _ _ h => h) (Or.inl ⟨by rfl, fun V hV => by go_simp⟩) hHeld ?_
  change wpAnyH _ _ _ _ _ _ _ (Act.put _ (some 53) _) _
  simp only [Act.put, List.setIfInBounds_toArray, List.set_cons_zero, List.set_cons_succ]
  refine wpAnyH_take (i := 11) (oi := _) (v := .pointer (some ⟨p, 0, none⟩)) rfl (by kernel_rfl) (by kernel_rfl) (by kernel_rfl) (fun _ _ _ h => h) (Or.inl ⟨by rfl, fun V hV => by go_simp⟩) hHeld ?_
  change wpAnyH _ _ _ _ _ _ _ (Act.put _ (some 54) _) _
  simp only [Act.put, List.setIfInBounds_toArray, List.set_cons_zero, List.set_cons_succ]
  refine wpAnyH_take (i := 12) (oi := _) (v := .agg #[.int .i64 1, .slice none 0 0]) rfl (by kernel_rfl) (by kernel_rfl) (by kernel_rfl) (fun _ _ _ h => h) (Or.inl ⟨by rfl, fun V hV => by (obtain ⟨⟨y0, y1⟩, y2, y3⟩ := CF.out V hV; clear hV; go_simp)⟩) hHeld ?_
  change wpAnyH _ _ _ _ _ _ _ (Act.put _ (some 55) _) _
  simp only [Act.put, List.setIfInBounds_toArray, List.set_cons_zero, List.set_cons_succ]
  refine wpAnyH_take (i := 13) (oi := _) (v := .agg #[.int .i64 (1 + (q : Int)), .slice none 0 0]) rfl (by kernel_rfl) (by kernel_rfl) (by kernel_rfl) (fun _ _ _ h => h) (Or.inl ⟨by rfl, fun V hV => by (obtain ⟨⟨y0, y1⟩, y2, y3⟩ := CF.out V hV; clear hV; go_simp)⟩) hHeld ?_
  change wpAnyH _ _ _ _ _ _ _ (Act.put _ (some 56) _) _
  simp only [Act.put, List.setIfInBounds_toArray, List.set_cons_zero, List.set_cons_succ]
  refine wpAnyH_ready (rs := [4]) (by kernel_rfl) (by simp) ?_
  refine AllReadyH.cons (o := _) rfl (fun K hK => ?_) AllReadyH.nil
  go_simp
  go_at_call 14
  refine (CB.out ⟨#[97]⟩ _ (Kept.refl wc []).drew).mono ?_
  rintro e wa ⟨va, rfl, oa, ka⟩
  have ka := (Kept.refl wc []).drew.trans ka (by simp)
  go_wp2_with fail
  refine hK.out _ _ ka (fun hHeld => ?_)
  clear hK K
  refine wpAnyH_ready (rs := [9]) (by kernel_rfl) (by simp) ?_
  refine AllReadyH.cons (o := _) rfl (fun K hK => ?_) AllReadyH.nil
  go_simp
  go_at_call 14
  refine (CB.out ⟨#[98]⟩ _ ka).mono ?_
  rintro e wb ⟨vb, rfl, ob, kb⟩
  have oa := oa.rd.kept kb (by simp)
  have kb := ka.trans kb (by simp)
  clear ka
  go_wp2_with fail
  refine hK.out _ _ kb (fun hHeld => ?_)
  clear hK K
  refine wpAnyH_ready (rs := [14]) (by kernel_rfl) (by simp) ?_
  refine AllReadyH.cons (o := _) rfl (fun K hK => ?_) AllReadyH.nil
  go_simp
  go_at_call 14
  refine (CB.out ⟨#[99]⟩ _ kb).mono ?_
  rintro e wd ⟨vd, rfl, od, kd⟩
  have oa := oa.kept kd (by simp)
  have ob := ob.rd.kept kd (by simp)
  have kd := kb.trans kd (by simp)
  clear kb
  go_wp2_with fail
  refine hK.out _ _ kd (fun hHeld => ?_)
  clear hK K
  refine wpAnyH_take (i := 15) (oi := _) (v := va) rfl (by kernel_rfl) (by kernel_rfl) (by kernel_rfl) (fun _ _ _ h => h) (Or.inl ⟨by rfl, fun V hV => by go_simp⟩) hHeld ?_
  change wpAnyH _ _ _ _ _ _ _ (Act.put _ (some 12) _) _
  simp only [Act.put, List.setIfInBounds_toArray, List.set_cons_zero, List.set_cons_succ]
  refine wpAnyH_take (i := 16) (oi := _) (v := vb) rfl (by kernel_rfl) (by kernel_rfl) (by kernel_rfl) (fun _ _ _ h => h) (Or.inl ⟨by rfl, fun V hV => by go_simp⟩) hHeld ?_
  change wpAnyH _ _ _ _ _ _ _ (Act.put _ (some 13) _) _
  simp only [Act.put, List.setIfInBounds_toArray, List.set_cons_zero, List.set_cons_succ]
  refine wpAnyH_take (i := 17) (oi := _) (v := vd) rfl (by kernel_rfl) (by kernel_rfl) (by kernel_rfl) (fun _ _ _ h => h) (Or.inl ⟨by rfl, fun V hV => by go_simp⟩) hHeld ?_
  change wpAnyH _ _ _ _ _ _ _ (Act.put _ (some 14) _) _
  simp only [Act.put, List.setIfInBounds_toArray, List.set_cons_zero, List.set_cons_succ]
  refine wpAnyH_done (by kernel_rfl) ?_ _
  have KD := Lib.hid kd; have OA := Lib.hid oa; have OB := Lib.hid ob; have OD := Lib.hid od.rd
  obtain ⟨xa, ya, hva⟩ := OA.out.shape3; obtain ⟨xb, yb, hvb⟩ := OB.out.shape3; obtain ⟨xd, yd, hvd⟩ := OD.out.shape3
  subst hva; subst hvb; subst hvd
  have QA := Lib.hid (fun j e => @told_mem st 1 (1 + (q : Int)) [] [] ⟨#[97]⟩ f len j e); have QB := Lib.hid (fun j e => @told_mem st 1 (1 + (q : Int)) [] [] ⟨#[98]⟩ f len j e); have QD := Lib.hid (fun j e => @told_mem st 1 (1 + (q : Int)) [] [] ⟨#[99]⟩ f len j e)
  have NA := Lib.hid (@told_le st 1 (1 + (q : Int)) [] [] 97 f len); have NB := Lib.hid (@told_le st 1 (1 + (q : Int)) [] [] 98 f len)
  have LA := LL.out (told st 1 [] (1 + (q : Int)) [] ⟨#[97]⟩); have LB := LL.out (told st 1 [] (1 + (q : Int)) [] ⟨#[98]⟩); have LD := LL.out (told st 1 [] (1 + (q : Int)) [] ⟨#[99]⟩)
  generalize srt byId ((evsA f len).filter (told st 1 [] (1 + (q : Int)) [] ⟨#[97]⟩)) = la at *
  generalize srt byId ((evsA f len).filter (told st 1 [] (1 + (q : Int)) [] ⟨#[98]⟩)) = lb at *
  generalize srt byId ((evsA f len).filter (told st 1 [] (1 + (q : Int)) [] ⟨#[99]⟩)) = ld at *
  obtain ⟨na, hna⟩ : ∃ n, n = la.length := ⟨_, rfl⟩; obtain ⟨nb, hnb⟩ : ∃ n, n = lb.length := ⟨_, rfl⟩; obtain ⟨nd, hnd⟩ : ∃ n, n = ld.length := ⟨_, rfl⟩
  have NN := Lib.hid (show nd ≤ na ∧ nd ≤ nb from by rw [hna, hnb, hnd]; exact ⟨NA.out, NB.out⟩)
  rw [← hna] at LA ⊢; rw [← hnb] at LB ⊢; rw [← hnd] at LD ⊢
  have HNA := Lib.hid hna; have HNB := Lib.hid hnb; have HND := Lib.hid hnd
  clear kd hHeld oa ob od hna hnb hnd CE CB CF LL NA NB
  go_wp2
  go_loopg [15] na (fun kx s15 wr => ∃ i : Nat, s15 = .int .i64 i ∧ i ≤ na ∧ na - i ≤ kx ∧ RowKit.Hid (Kept wd wr []))
  case atStart => exact ⟨0, rfl, by omega, by omega, Kept.refl _ _⟩
  case round =>
    obtain ⟨i, rfl, hi, hkx, HK15⟩ := hrel
    by_cases hlt : i < na
    · have x1 : (i : Int) < (na : Int) := by omega
      obtain ⟨e, he⟩ : ∃ e, la[i]? = some e := ⟨_, List.getElem?_eq_getElem (by rw [← HNA.out]; exact hlt)⟩
      have D1 := (show (e.ow.toList == [98]) = false from due_not (by decide) (QA.out i e he).1)
      obtain ⟨bb, oo, hbo, p0, p1, p2, p3, p4, p5, p6, p7⟩ := (OA.out.kept HK15.out (by simp)).eight he
      subst hbo
      obtain ⟨b0, b1, b2, b3, b4, b5, b6, b7⟩ := e
      simp only at D1 p0 p1 p2 p3 p4 p5 p6 p7
      clear he
      go_wp2
      go_roundg (na - (i + 1))
      case measure => omega
      case rel => exact ⟨i + 1, by go_num, by omega, by omega, HK15⟩
    · have x1 : ¬ (i : Int) < (na : Int) := by omega
      clear hlt hkx hi
      go_wp2
      go_loopg [16] nb (fun kx s16 wr => ∃ i : Nat, s16 = .int .i64 i ∧ i ≤ nb ∧ nb - i ≤ kx ∧ RowKit.Hid (Kept wd wr []))
      case atStart => exact ⟨0, rfl, by omega, by omega, HK15.out⟩
      case round =>
        obtain ⟨i, rfl, hi, hkx, HK16⟩ := hrel
        by_cases hlt : i < nb
        · have x1 : (i : Int) < (nb : Int) := by omega
          obtain ⟨e, he⟩ : ∃ e, lb[i]? = some e := ⟨_, List.getElem?_eq_getElem (by rw [← HNB.out]; exact hlt)⟩
          have D1 := (show (e.ow.toList == [97]) = false from due_not (by decide) (QB.out i e he).1)
          obtain ⟨bb, oo, hbo, p0, p1, p2, p3, p4, p5, p6, p7⟩ := (OB.out.kept HK16.out (by simp)).eight he
          subst hbo
          obtain ⟨b0, b1, b2, b3, b4, b5, b6, b7⟩ := e
          simp only at D1 p0 p1 p2 p3 p4 p5 p6 p7
          clear he
          go_wp2
          go_roundg (nb - (i + 1))
          case measure => omega
          case rel => exact ⟨i + 1, by go_num, by omega, by omega, HK16⟩
        · have x1 : ¬ (i : Int) < (nb : Int) := by omega
          clear hlt hkx hi
          go_wp2
          go_loopg [17] nd (fun kx s17 wr => ∃ i : Nat, s17 = .int .i64 i ∧ i ≤ nd ∧ nd - i ≤ kx ∧ RowKit.Hid (Kept wd wr []))
          case atStart => exact ⟨0, rfl, by omega, by omega, HK16.out⟩
          case round =>
            obtain ⟨i, rfl, hi, hkx, HK17⟩ := hrel
            by_cases hlt : i < nd
            · have x1 : (i : Int) < (nd : Int) := by omega
              obtain ⟨e, he⟩ : ∃ e, ld[i]? = some e := ⟨_, List.getElem?_eq_getElem (by rw [← HND.out]; exact hlt)⟩
              have D1 := (show (e.ow.toList == []) = true from by obtain ⟨h1, k, h2⟩ := QD.out i e he; rw [h2] at h1 ⊢; rw [due_c h1]; rfl)
              obtain ⟨bb, oo, hbo, p0, p1, p2, p3, p4, p5, p6, p7⟩ := (OD.out.kept HK17.out (by simp)).eight he
              subst hbo
              obtain ⟨b0, b1, b2, b3, b4, b5, b6, b7⟩ := e
              simp only at D1 p0 p1 p2 p3 p4 p5 p6 p7
              clear he
              go_wp2
              go_roundg (nd - (i + 1))
              case measure => omega
              case rel => exact ⟨i + 1, by go_num, by omega, by omega, HK17⟩
            · have x1 : ¬ (i : Int) < (nd : Int) := by omega
              clear hlt hkx hi
              have N3 : nd ≤ na := NN.out.1
              have N4 : nd ≤ nb := NN.out.2
              have N1 : (nd : Int) ≤ (na : Int) := by have := NN.out; omega
              have N2 : (nd : Int) ≤ (nb : Int) := by have := NN.out; omega
              go_wp2
              go_ret
              exact ⟨by simp, (K6.out.trans (KD.out.trans HK17.out (by simp)) (by simp)).below (Nat.le_refl _) (by simp)⟩

set_option maxRecDepth 100000 in
theorem lifted (os : Os) (started : os.Started) (H : Type) (enc : TypeId × Value → H) :
    ReturnsInHanded {} Try.checked os 8 .any (Rows.batchOwnersSpec.pre6 enc Try.prog Try.f8 Rows.batchOwnersRow.domain false) (Rows.batchOwnersSpec.post enc Try.prog Try.f8 false true false false) := by
  refine returnsInHanded_of_change (C := Try.checked) own started (by kernel_rfl) Try.func8
    (ChangeSpec.witness6 (enc := enc) (C := Try.checked) false ⟨#[], #[.slice none 0 0, .slice none 0 0, .int .u8 0], []⟩ 8 (by kernel_rfl) (by kernel_rfl) (by kernel_rfl) (by kernel_rfl)) ?_
  intro W base args ds gs before hval0 hW hcnd _
  have hval : ∀ (j : Nat) t v, Try.f8.params[j]? = some t → args[j]? = some v → Value.okWide Try.prog W .any base t v := hval0
  have hW' := hW
  obtain ⟨p, q, hA0, hV, rfl, hfz, hnd⟩ := hW
  have hA : DataW.TrodAll enc Try.prog W 0 (fun _ => true) true Try.f8.params.toList args.toList ds p := hA0
  rw [Try.params8] at hA hval
  obtain ⟨v0, vs0, d0, ds0, p0, q0, hargs, rfl, rfl, h0, r0⟩ := trodAll_cons hA
  obtain ⟨v1, vs1, d1, ds1, p1, q1, rfl, rfl, rfl, h1, r1⟩ := trodAll_cons r0
  obtain ⟨v2, vs2, d2, ds2, p2, q2, rfl, rfl, rfl, h2, r2⟩ := trodAll_cons r1
  obtain ⟨rfl, rfl, rfl⟩ := trodAll_nil r2
  obtain rfl : args = #[v0, v1, v2] := by cases args; simp_all
  obtain ⟨rfl, rfl⟩ := trodVars_none hV
  obtain ⟨a0, len0, cap0, rfl⟩ := okWide_slice Try.underlying22 (hval 0 22 v0 rfl rfl)
  have k0 := h0
  have lt0 : ∀ x ∈ p0, x.block < W.heap.size := by obtain ⟨m, hm⟩ := k0; exact DataW.trod_lt m _ _ _ hm
  obtain ⟨z0, w0⟩ : ∃ f, IsActs W W.heap.size a0 len0 f ∧ len0 ≤ maxLen := by
    obtain ⟨fuel, hf⟩ := h0
    exact acts_open (by simpa [Value.cells] using hf)
  obtain ⟨a1, len1, cap1, rfl⟩ := okWide_slice Try.underlying23 (hval 1 23 v1 rfl rfl)
  have k1 := h1
  have lt1 : ∀ x ∈ p1, x.block < W.heap.size := by obtain ⟨m, hm⟩ := k1; exact DataW.trod_lt m _ _ _ hm
  obtain ⟨z1, w1⟩ : ∃ zs, IsRow .u8 W a1 len1 cap1 zs := by
    obtain ⟨fuel, hf⟩ := h1
    rcases open_ints Try.underlying23 Try.underlying5 (by kernel_rfl) hf with ⟨hcs, _⟩ | ⟨x, l, c, zs, hcs, _, hl, hm, hz, _, hcell, hwz⟩
    · simp [Value.cells] at hcs
      obtain ⟨rfl, rfl, rfl⟩ := hcs
      exact ⟨[], .inl ⟨rfl, rfl, rfl, rfl⟩⟩
    · simp [Value.cells] at hcs
      obtain ⟨rfl, rfl, rfl⟩ := hcs
      exact ⟨zs, .inr ⟨_, rfl, hl, hm, by simpa using hz, hcell, hwz⟩⟩
  obtain ⟨a2, rfl, rfl, rfl, w2⟩ := open_int Try.underlying5 (hval 2 5 v2 rfl rfl) h2
  clear hA0 hval0
  refine (walk a0 len0 cap0 z0 a1 len1 cap1 z1 a2 W w0 w1 w2).mono fun e W' ⟨he, bel⟩ => ?_
  subst he
  exact ⟨_, rfl, _, _, _, [], _, [], hW', trodAll_mk1 (shut_bool Try.underlying4 _), (trodAll_cons_mk (Below.trod laidOut (by kernel_rfl) (of_decide_eq_true (by kernel_rfl)) k0 bel lt0) (trodAll_cons_mk (Below.trod laidOut (by kernel_rfl) (of_decide_eq_true (by kernel_rfl)) k1 bel lt1) (trodAll_cons_mk (shut_int Try.underlying5 w2) trodAll_mk0))), rfl, bel.frame _, fun h => by cases h⟩

theorem over : Rows.batchOwnersRow.holds Try.pinned (OpenSpec.ofChange Rows.batchOwnersSpec) :=
  OpenClaim.holds_of_wide 8 Try.f8 rfl rfl rfl rfl rfl rfl rfl ⟨rfl, rfl, rfl, rfl, rfl⟩ rfl rfl rfl rfl rfl (by kernel_rfl) Try.func8 (by kernel_rfl)
    (of_decide_eq_true (by kernel_rfl)) (by unfold Func.isWrapper; first | (rw [if_pos (by decide +kernel)]; kernel_rfl) | (rw [if_neg (by decide +kernel)]; exact ⟨rfl, rfl⟩))
    (fun os started H enc _ => lifted os started H enc)

theorem proved : Rows.BatchOwnersSaid :=
  over
end Go.Proofs.Ytojkandkhhjaaaa.batchOwners

namespace Go.Proofs.Ytojkandkhhjaaaa
theorem batchOwners_holds : Rows.BatchOwnersSaid := batchOwners.proved
#print axioms batchOwners_holds
end Go.Proofs.Ytojkandkhhjaaaa

