/-
  Proved: whatever the arguments are, carrierlaw07.HeapRedo answers true and leaves its arguments as they were. No condition.
-/
import Derived.Test.YtpknnpdnhdcnjaaHu
import Derived.Deep.RegionHeld3
namespace Go.Proofs.Ytpknnpdnhdcnjaa.heapRedo
open Go.ChangeShapes Go.WideShapes Go.ChangeAt Go.RowKit
set_option linter.unusedVariables false

theorem own : ownKnob Try.prog.godebug = none := by kernel_rfl
theorem laidOut : laidOutB Try.prog = true := by kernel_rfl

theorem cells2 {w w' : World} {b o : Nat} {k t : Value} (hk : Kept w w' []) (h : w.cell? ⟨b, o + 2, none⟩ = some k ∧ w.cell? ⟨b, o + 3, none⟩ = some t) :
    w'.cell? ⟨b, o + 2, none⟩ = some k ∧ w'.cell? ⟨b, o + 3, none⟩ = some t :=
  ⟨hk.cell (p := ⟨b, o + 2, none⟩) (by simp) h.1, hk.cell (p := ⟨b, o + 3, none⟩) (by simp) h.2⟩

theorem st_new (st : List Nat) : stAt (st ++ [1]) ((st.length : Int) + 1) = 1 := by
  rw [stAt_nat (by simp)]
  simp
theorem st_set (st : List Nat) (s : Nat) : List.set (st ++ [1]) (((st.length : Int) + 1).toNat - 1) s = st ++ [s] := by
  rw [show ((st.length : Int) + 1).toNat - 1 = st.length by omega]
  simp
theorem st_one {st : List Nat} (h : stAt st 1 = 2) (s : Nat) : stAt (st ++ [s]) 1 = 2 := by
  have h1 := stAt_in (by rw [h]; decide : stAt st 1 ≠ 0)
  have e := stAt_nat (st := st) (i := 0) (by omega)
  have e2 := stAt_nat (st := st ++ [s]) (i := 0) (by simp)
  rw [show ((0 : Nat) : Int) + 1 = 1 from rfl] at e e2
  rw [e2, List.getElem_append_left (by omega), ← e, h]
theorem st_opens (st : List Nat) (s : Nat) (hs : s ≠ 1) : opens (st ++ [s]) = opens st := by
  rw [opens, opensFrom_append, opens]
  simp [opensFrom, hs]


theorem wf_mod5 (x : Int) : (Lit.int .i64 (x.tmod 5)).wf = true := by
  have h1 := Int.tmod_lt_of_pos x (by decide : (0 : Int) < 5)
  have h2 := Int.lt_tmod_of_pos x (by decide : (0 : Int) < 5)
  exact wf_i64 (by omega)

theorem Try.infoOp : (Try.prog.info? 56).map (fun i => (i.zero, i.size, i.bytes)) = some (some (.agg #[.bool false, .int .i64 0, .string ByteArray.empty]), 3, 32) := by kernel_rfl

theorem st_done (st : List Nat) : stAt (st ++ [2]) ((st.length : Int) + 1) = 2 := by
  rw [stAt_nat (by simp)]
  simp

theorem ocl_src {w w1 : World} {gone : Bool} {key : Int} {txt : ByteArray} (hw : w1 = w.alloc (.cells #[.bool gone, .int .i64 key, .string txt] 56)) : Src Try.prog 3 54 (.slice (some ⟨w.heap.size, 0, none⟩) 1 1) 1 (ocl [⟨gone, key, txt⟩]) w1 := by
  have hb : w1.heap[w.heap.size]? = some (.cells #[.bool gone, .int .i64 key, .string txt] 56 (0, 0)) := by rw [hw]; exact heap_alloc_new w _
  refine Src.ofSlice w1 Try.underlying54 ⟨w.heap.size, 0, none⟩ 1 1 _ rfl (fun j u hu => ?_) (by intro u hu; simp [ocl] at hu; rcases hu with rfl | rfl | rfl <;> rfl)
  rw [Addr.add_lit, cell_of_row w1 _ _ _ _ _ hb, Nat.zero_add]
  simpa [ocl] using hu

set_option maxHeartbeats 8000000 in
set_option maxRecDepth 100000 in
theorem walk (a0 : Option Addr) (len0 cap0 : Nat) (f0 : Nat → ActD) (W : World) (w0 : IsActs W W.heap.size a0 len0 f0 ∧ len0 ≤ maxLen) :
    Calls Try.prog 5 #[.slice a0 len0 cap0] W fun e w' => e = .returned (.bool true) ∧ Below W.heap.size W w' := by
  have A0 := Lib.hid w0
  clear w0
  obtain ⟨i0, hi0, hz0, hz1, hzb⟩ := info_parts Try.infoOp
  have I := Lib.hid (And.intro hi0 (And.intro hz0 (And.intro hz1 hzb)))
  clear hi0 hz0 hz1 hzb
  go_enter Try.func5, Try.ntmps5
  go_wp2_with fail
  refine (clash_any W).mono ?_
  rintro e w2 ⟨rfl, hk⟩
  have K2 := Lib.hid hk
  have sm0 := Lib.hid (small_any (cap := cap0) (A0.out.1.below (Kept.below hk (Nat.le_refl _) (by simp))) A0.out.2)
  clear hk
  go_wp2_with fail
  refine sm0.out.mono ?_
  rintro e w3 ⟨s0, rfl, h80, rfl⟩
  cases s0
  · go_wp2_with fail
    refine (clash_any w2).mono ?_
    rintro e w4 ⟨rfl, hk⟩
    have K4 := Lib.hid (K2.out.trans hk (by simp))
    clear hk
    go_wp2
    go_ret
    exact ⟨rfl, K4.out.below (Nat.le_refl _) (by simp)⟩
  have L0 := Lib.hid (h80 rfl)
  have hl0 : len0 ≤ 80 := L0.out
  clear h80
  go_wp2_with fail
  refine (mnew_any w2).mono ?_
  rintro e w3 ⟨p, b, v1, rfl, hm, hk⟩
  have M3 := Lib.hid hm; have K3 := Lib.hid hk
  clear hm hk
  go_wp2_with fail
  refine (mnew_any w3).mono ?_
  rintro e w4 ⟨q, b2, v2, rfl, hm, hk⟩
  have M4 := Lib.hid hm; have K4 := Lib.hid hk; have N4 := Lib.hid (M3.out.keep hk)
  clear hm hk
  go_wp2_with fail
  refine (hnew_sd N4.out).mono ?_
  rintro e w5 ⟨h, O5, rfl, s, hk, fo⟩
  have S5 := Lib.hid s; have K5 := Lib.hid hk; have FO5 := Lib.hid fo
  have M5 := Lib.hid ((M4.out.keep hk).low K3.out.size)
  clear s hk fo
  go_wp2_with fail
  refine (hnew_sd M5.out).mono ?_
  rintro e w6 ⟨g, Q6, rfl, s, hk, fo⟩
  have T6 := Lib.hid s; have S6 := Lib.hid (S5.out.keep hk)
  have B6 := Lib.hid (show Below w2.heap.size w2 w6 from (((K3.out.trans K4.out (by simp)).trans K5.out (by simp)).trans hk (by simp)).below (Nat.le_refl _) (by simp))
  have D6 : Hid (Dis O5 Q6) := Lib.hid (fun k h1 h2 => by
    have e1 := (S5.out.bound k h1).2
    have e0 := K4.out.size
    rcases FO5.out k h1 with h3 | h3 <;> rcases fo k h2 with h4 | h4
    · have := (M3.out.foot k h3).2; have := (M4.out.foot k h4).1; omega
    · omega
    · have := (M4.out.foot k h4).2; omega
    · omega)
  clear s hk fo
  go_wp2
  go_loopw [7, 8, 9, 10, 11, 12, 13, 14] (fun t _ _ _ _ _ _ _ wr => ∃ (O Q : Nat → Prop) (st : List Nat) (ks : List Int) (F : Int → List Vr), t = .int .i64 (st.length : Int) ∧ st.length ≤ len0 ∧ Sd wr w2.heap.size p h O st ks F ∧ Sd wr w2.heap.size q g Q st ks F ∧ Dis O Q ∧ AllC st ∧ RInv st.length F ∧ Lim st.length ks F ∧ Below w2.heap.size w2 wr) (fun t _ _ _ _ _ _ _ _ => len0 - (intOf t).toNat)
  case atStart => exact ⟨O5, Q6, [], [], _, rfl, Nat.zero_le _, S6.out, T6.out, D6.out, (fun _ h => by simp at h), (fun _ _ h => by simp at h), ⟨by simp, by simp⟩, B6.out⟩
  case round =>
    obtain ⟨O, Q, st, ks, F, rfl, hj, hs, ht, hd, hc, hi, hl, hb⟩ := hrel
    have S := Lib.hid hs; have T := Lib.hid ht; have D := Lib.hid hd; have AC := Lib.hid hc; have RI := Lib.hid hi; have LM := Lib.hid hl; have BB := Lib.hid hb
    obtain ⟨i, hil⟩ : ∃ i, i = st.length := ⟨_, rfl⟩
    have HI := Lib.hid hil
    rw [← hil] at hj ⊢
    clear hs ht hd hc hi hl hb hil S5 S6 T6 M3 M4 N4 M5 D6 B6 FO5 K3 K4 K5
    by_cases hlt : i < len0
    · obtain ⟨cb, co, rfl, hx⟩ := A0.out.1 (by omega)
      have X := hx i hlt
      generalize f0 i = x at X
      obtain ⟨d, who, key, txt⟩ := x
      have XX := Lib.hid X
      have XB : Hid (∀ U : World, Below w2.heap.size w2 U → ActAt U cb (co + i * 4) ⟨d, who, key, txt⟩) := Lib.hid (fun U hU => XX.out.frame (Kept.ofBelow ((Kept.below K2.out (Nat.le_refl _) (by simp)).trans (hU.mono K2.out.size)) []))
      have x1 : (i : Int) < (len0 : Int) := by omega
      obtain ⟨N, hN⟩ : ∃ N : Int, N = (st.length : Int) + 1 := ⟨_, rfl⟩
      obtain ⟨M, hM⟩ : ∃ M : Int, M = (st.length : Int) + 1 + 1 := ⟨_, rfl⟩
      have hNw : (Lit.int .i64 N).wf = true := by rw [hN, ← HI.out]; exact wf_i64 (by omega)
      have hn9 : Hid (st.length ≤ 900) := Lib.hid (by rw [← HI.out]; omega)
      have HN := Lib.hid hN; have HM := Lib.hid hM; have HNW := Lib.hid hNw
      have c := begin_sd S.out (by rw [opens_all AC.out]; decide) (by have := hn9.out; omega)
      rw [← hN] at c
      have c2 : Hid (∀ (w : World) (Q' : Nat → Prop), Sd w w2.heap.size q g Q' st ks F → Calls Try.prog 12 #[.pointer (some ⟨q, 0, none⟩)] w fun e w' => e = .returned (.tuple #[.int .i64 N, .int .i64 0]) ∧ ∃ O', Sd w' w2.heap.size q g O' (st ++ [1]) ks F ∧ Stp Q' O' w w') := Lib.hid (fun w Q' a => by
        have c := begin_sd a (by rw [opens_all AC.out]; decide) (by have := hn9.out; omega)
        rwa [← hN] at c)
      clear hx X hN hM hNw
      go_wp2_with fail
      refine c.mono ?_
      rintro e w20 ⟨rfl, O20, s, f⟩
      have S20 := Lib.hid s; have B20 := Lib.hid (BB.out.trans (S.out.below f.1)); have T20 := Lib.hid (T.out.fo f.1 (fun k a c => D.out k c a)); have D20 := Lib.hid (D.out.step f T.out)
      clear s f c
      go_wp2_with fail
      refine (c2.out w20 Q T20.out).mono ?_
      rintro e w21 ⟨rfl, Q21, s, f⟩
      have T21 := Lib.hid s; have B21 := Lib.hid (B20.out.trans (T20.out.below f.1)); have S21 := Lib.hid (S20.out.fo f.1 (fun k a c => D20.out k a c)); have D21 := Lib.hid ((D20.out.symm.step f S20.out).symm)
      clear s f c2
      have e1 : opens (st ++ [1]) = [N] := by rw [opens_snoc, opens_all AC.out, HN.out]; rfl
      have e2 : ((st ++ [1]).length : Int) + 1 = M := by rw [HM.out]; simp
      have c := now_sd S21.out
      rw [e1, e2] at c
      have c' : Calls Try.prog 13 #[.pointer (some ⟨p, 0, none⟩)] w21 fun e w' => ∃ u c, e = .returned (.agg #[.int .i64 M, .slice u 1 c]) ∧ Vo w' (.slice u 1 c) [N] ∧ Kept w21 w' [] := c
      clear c e1 e2
      go_wp2_with fail
      refine c'.mono ?_
      rintro e x22 ⟨u22, d22, rfl, vo, hk⟩
      obtain ⟨w22, hW⟩ : ∃ w22, w22 = x22.alloc (.cells #[.int .i64 M, .slice u22 1 d22, .int .i64 N] 37) := ⟨_, rfl⟩
      obtain ⟨g3, hg⟩ : ∃ g3, g3 = x22.heap.size := ⟨_, rfl⟩
      have U22 : Hid (Bv w22 g3 M N (.slice u22 1 d22) [N]) := Lib.hid (by rw [hW, hg]; exact Bv.make vo)
      have k : Kept w21 w22 [] := by rw [hW]; exact hk.alloc _
      have S22 := Lib.hid (S21.out.keep k); have T22 := Lib.hid (T21.out.keep k); have B22 := Lib.hid (B21.out.trans (k.below (B := w2.heap.size) S21.out.size (by simp)))
      have YA := Lib.hid (XB.out w22 B22.out)
      have y2 := YA.out.c2; have y3 := YA.out.c3
      simp only at y2 y3
      have yy : w22.drew.cell? ⟨cb, co + i * 4 + 2, none⟩ = some (.int .i64 key) ∧ w22.drew.cell? ⟨cb, co + i * 4 + 3, none⟩ = some (.string txt) := ⟨y2, y3⟩
      have yy1 : (w22.alloc (.cells #[.int .i64 0, .string ⟨#[]⟩] 42)).drew.cell? ⟨cb, co + i * 4 + 2, none⟩ = some (.int .i64 key) ∧ (w22.alloc (.cells #[.int .i64 0, .string ⟨#[]⟩] 42)).drew.cell? ⟨cb, co + i * 4 + 3, none⟩ = some (.string txt) := cells2 (((Kept.refl w22 []).alloc _).drew) ⟨y2, y3⟩
      have yy2 : (w22.alloc (.cells #[.int .i64 (key.tmod 5), .string txt] 42)).drew.cell? ⟨cb, co + i * 4 + 2, none⟩ = some (.int .i64 key) ∧ (w22.alloc (.cells #[.int .i64 (key.tmod 5), .string txt] 42)).drew.cell? ⟨cb, co + i * 4 + 3, none⟩ = some (.string txt) := cells2 (((Kept.refl w22 []).alloc _).drew) ⟨y2, y3⟩
      clear vo hk k c' y2 y3
      go_wp2_with fail
      rw [← hW, ← hg]
      clear hW hg
      go_region_held3 (fun U => U.cell? ⟨cb, co + i * 4 + 2, none⟩ = some (.int .i64 key) ∧ U.cell? ⟨cb, co + i * 4 + 3, none⟩ = some (.string txt)) (first | exact yy | exact yy1 | exact yy2 | go_keep) (fail)
      obtain ⟨w23, hW2⟩ : ∃ w23, w23 = (w22.alloc (.cells #[.int .i64 (key.tmod 5), .string txt] 42)).drew := ⟨_, rfl⟩
      obtain ⟨rb, hrb⟩ : ∃ rb, rb = w22.heap.size := ⟨_, rfl⟩
      have RB : Hid (w23.heap[rb]? = some (.cells #[.int .i64 (key.tmod 5), .string txt] 42 (0, 0))) := Lib.hid (by rw [hW2, hrb]; exact heap_alloc_new w22 _)
      have k : Kept w22 w23 [] := by rw [hW2]; exact ((Kept.refl w22 []).alloc _).drew
      have S23 := Lib.hid (S22.out.keep k); have T23 := Lib.hid (T22.out.keep k); have B23 := Lib.hid (B22.out.trans (k.below (B := w2.heap.size) S22.out.size (by simp))); have U23 := Lib.hid (U22.out.keep k)
      have y0 := (XB.out w23 B23.out).c0
      simp only at y0
      obtain ⟨z0, z1, z2⟩ := U23.out.cells
      have r0 : w23.cell? ⟨rb, 0, none⟩ = some (.int .i64 (key.tmod 5)) := by rw [cell_of_row _ _ 0 _ _ _ RB.out]; rfl
      have r1 : w23.cell? ⟨rb, 1, none⟩ = some (.string txt) := by rw [cell_of_row _ _ 1 _ _ _ RB.out]; rfl
      obtain ⟨k5, hk5⟩ : ∃ k5 : Int, k5 = key.tmod 5 := ⟨_, rfl⟩
      have HK5 : Hid ((Lit.int .i64 k5).wf = true) := Lib.hid (by rw [hk5]; exact wf_mod5 key)
      rw [← hk5] at r0 RB
      have hd3 : (d : Int) % 3 = 0 ∨ (d : Int) % 3 = 1 ∨ (d : Int) % 3 = 2 := by omega
      have t3 : (d : Int).tmod 3 = (d : Int) % 3 := Int.tmod_eq_emod_of_nonneg (by omega)
      have V23 : Hid (Vo w23 (.slice u22 1 d22) [(st.length : Int) + 1]) := Lib.hid (by rw [← HN.out]; exact U23.out.2)
      rw [← hW2, ← hrb]
      clear hW2 hrb k yy yy1 yy2 hk5
      rcases hd3 with hd | hd | hd
      · rw [hd] at t3
        have c := ins_again AC.out RI.out LM.out hn9.out S23.out u22 1 d22 V23.out (by rw [← HN.out]; exact HNW.out) k5 txt HK5.out
        rw [← HM.out, ← HN.out] at c
        have C := Lib.hid c
        clear c
        go_wp2_with fail
        refine C.out.mono ?_
        rintro e w24 ⟨E, rfl, O24, ks3, G3, s, f, ag⟩
        have S24 := Lib.hid s; have AG := Lib.hid ag; have B24 := Lib.hid (B23.out.trans (S23.out.below f.1)); have T24 := Lib.hid (T23.out.fo f.1 (fun k a c => D21.out k c a)); have D24 := Lib.hid (D21.out.step f T23.out)
        have rb24 := S23.out.heap f.1 RB.out (by decide)
        have q0 : w24.cell? ⟨rb, 0, none⟩ = some (.int .i64 k5) := by rw [cell_of_row _ _ 0 _ _ _ rb24]; rfl
        have q1 : w24.cell? ⟨rb, 1, none⟩ = some (.string txt) := by rw [cell_of_row _ _ 1 _ _ _ rb24]; rfl
        have LIM : Hid (Lim (st.length + 1) ks3 G3) := Lib.hid ag.lim
        have RIN : Hid (RInv (st.length + 1) G3) := Lib.hid ag.inv
        obtain ⟨l, hl⟩ : ∃ l, l = opsOf E false k5 txt := ⟨_, rfl⟩
        have HLL := Lib.hid hl
        have EK : Hid (redoKs l ks = ks3) := Lib.hid (by rw [hl]; exact ag.eqK)
        have EF : Hid (redoFs (st ++ [2]) N l F = G3) := Lib.hid (by rw [hl, HN.out]; exact ag.eqF)
        clear s f ag C z0 z1 z2 r0 r1 y0 rb24 hl
        by_cases hE : E = 0
        · have hl1 : Hid (l = [⟨false, k5, txt⟩]) := Lib.hid (by rw [HLL.out, opsOf, if_pos hE])
          subst hE
          obtain ⟨x24, hx24⟩ : ∃ x24, x24 = w24.alloc (.cells #[.bool false, .int .i64 k5, .string txt] 56) := ⟨_, rfl⟩
          have HX24 := Lib.hid hx24
          have kx : Kept w24 x24 [] := by rw [hx24]; exact (Kept.refl w24 []).alloc _
          have SRC := Lib.hid (ocl_src hx24)
          have KX := Lib.hid kx
          clear hx24 kx
          go_wp2_with (at_builtin; refine wpList_append_all _ rfl (.tmp 96) (.tmp 99) 54 54 rfl 0 56 i0 _ 3 32 Try.underlying54 I.out.1 I.out.2.1 I.out.2.2.1 I.out.2.2.2 rfl (.slice none 0 0) 0 [] rfl (World.ownsRow_nil _ _ _ _) _ 1 (ocl [⟨false, k5, txt⟩]) rfl ?hsrc (by unfold maxLen; omega) (by omega) (Nat.zero_le _) ?next)
          case hsrc => rw [← HX24.out]; exact SRC.out
          case next =>
            intro v5 w25 ho5 _ hg5 _
            rw [← HX24.out] at hg5
            obtain ⟨oa, oc, hs5⟩ := ownsRow_shape ho5
            subst hs5
            have k25 : Kept w24 w25 [] := KX.out.grown hg5 (fun k hk => by cases hk)
            have OV : Hid (w25.ownsRow 0 56 3 (.slice oa 1 oc) l.length (ocl l)) := Lib.hid (by rw [hl1.out]; exact ho5)
            have S25 := Lib.hid (S24.out.keep k25); have T25 := Lib.hid (T24.out.keep k25); have D25 := D24; have B25 := Lib.hid (B24.out.trans (k25.below (B := w2.heap.size) S24.out.size (by simp)))
            clear ho5 hg5 k25 q0 q1
            have KEYS : Hid (∀ o ∈ l, (Lit.int .i64 o.key).wf = true) := Lib.hid (fun o ho => by rw [HLL.out] at ho; unfold opsOf at ho; split at ho <;> simp at ho; subst ho; exact HK5.out)
            have LE1 : Hid (l.length ≤ 1) := Lib.hid (by rw [HLL.out]; unfold opsOf; split <;> simp)
            have c := commit_sd S25.out N HNW.out (by rw [HN.out]; exact st_new st)
            rw [show List.set (st ++ [1]) (N.toNat - 1) 2 = st ++ [2] by rw [HN.out]; exact st_set st 2] at c
            have C := Lib.hid c
            clear c
            go_wp2_with fail
            refine C.out.mono ?_
            rintro e w26 ⟨rfl, s, f⟩
            have S26 := Lib.hid s; have B26 := Lib.hid (B25.out.trans (S25.out.below f.1)); have T26 := Lib.hid (T25.out.fo f.1 (fun k a c => D25.out k c a)); have D26 := Lib.hid (D25.out.step f T25.out); have V26 := Lib.hid (S25.out.row f.1 OV.out (by decide))
            clear s f C
            have c := redo_sd T26.out N HNW.out (.slice oa 1 oc) l V26.out LE1.out KEYS.out (by have := LM.out.1; have := hn9.out; omega) (fun k => by have := LM.out.2 k; have := hn9.out; omega)
            rw [if_neg (by rw [HN.out, st_new]; decide), if_neg (by rw [HN.out, st_new]; decide), if_neg (by rw [HN.out, st_new]; decide)] at c
            have C := Lib.hid c
            clear c
            go_wp2_with fail
            refine C.out.mono ?_
            rintro e w27 ⟨rfl, Q27, s, f⟩
            have T27 := Lib.hid s; have B27 := Lib.hid (B26.out.trans (T26.out.below f.1)); have S27 := Lib.hid (S26.out.fo f.1 (fun k a c => D26.out k a c)); have D27 := Lib.hid ((D26.out.symm.step f S26.out).symm); have V27 := Lib.hid (T26.out.row f.1 V26.out (by decide))
            clear s f C
            have c := commit_sd T27.out N HNW.out (by rw [HN.out]; exact st_new st)
            rw [show List.set (st ++ [1]) (N.toNat - 1) 2 = st ++ [2] by rw [HN.out]; exact st_set st 2] at c
            have C := Lib.hid c
            clear c
            go_wp2_with fail
            refine C.out.mono ?_
            rintro e w28 ⟨rfl, s, f⟩
            have T28 := Lib.hid s; have B28 := Lib.hid (B27.out.trans (T27.out.below f.1)); have S28 := Lib.hid (S27.out.fo f.1 (fun k a c => D27.out k a c)); have D28 := Lib.hid ((D27.out.symm.step f S27.out).symm); have V28 := Lib.hid (T27.out.row f.1 V27.out (by decide))
            clear s f C
            have c := redo_sd T28.out N HNW.out (.slice oa 1 oc) l V28.out LE1.out KEYS.out (by have := LM.out.1; have := hn9.out; omega) (fun k => by have := LM.out.2 k; have := hn9.out; omega)
            rw [if_pos (by rw [HN.out]; exact st_done st), if_pos (by rw [HN.out]; exact st_done st), if_pos (by rw [HN.out]; exact st_done st), EK.out, EF.out] at c
            have C := Lib.hid c
            clear c
            go_wp2_with fail
            refine C.out.mono ?_
            rintro e w29 ⟨rfl, Q29, s, f⟩
            have T29 := Lib.hid s; have B29 := Lib.hid (B28.out.trans (T28.out.below f.1)); have S29 := Lib.hid (S28.out.fo f.1 (fun k a c => D28.out k a c)); have D29 := Lib.hid ((D28.out.symm.step f S28.out).symm)
            clear s f C
            have e1 : opens (st ++ [2]) = [] := opens_all AC.out.snoc
            obtain ⟨MM, hMM⟩ : ∃ MM : Int, MM = ((st ++ [2]).length : Int) + 1 := ⟨_, rfl⟩
            have c := now_sd S29.out
            rw [e1, ← hMM] at c
            have C : Hid (Calls Try.prog 13 #[.pointer (some ⟨p, 0, none⟩)] w29 fun e w' => ∃ u c, e = .returned (.agg #[.int .i64 MM, .slice u 0 c]) ∧ Vo w' (.slice u 0 c) [] ∧ Kept w29 w' []) := Lib.hid c
            have C2 : Hid (∀ w, Sd w w2.heap.size q g Q29 (st ++ [2]) ks3 G3 → Calls Try.prog 13 #[.pointer (some ⟨q, 0, none⟩)] w fun e w' => ∃ u c, e = .returned (.agg #[.int .i64 MM, .slice u 0 c]) ∧ Vo w' (.slice u 0 c) [] ∧ Kept w w' []) := Lib.hid (fun w a => by
              have c := now_sd a
              rw [e1, ← hMM] at c
              exact c)
            clear c e1 hMM
            go_wp2_with fail
            refine C.out.mono ?_
            rintro e w30 ⟨u30, d30, rfl, vo, hk⟩
            have S30 := Lib.hid (S29.out.keep hk); have T30 := Lib.hid (T29.out.keep hk); have B30 := Lib.hid (B29.out.trans (hk.below (B := w2.heap.size) S29.out.size (by simp)))
            have c := scan_sd S30.out MM 0 u30 0 d30 [] vo (st.length + 1) ⟨LIM.out.1, LIM.out.2, by rw [← HI.out]; omega⟩
            have C3 := Lib.hid c
            clear vo hk C c
            go_wp2_with fail
            refine C3.out.mono ?_
            rintro e w31 ⟨sv, rfl, ho, hk⟩
            have S31 := Lib.hid (S30.out.keep hk); have T31 := Lib.hid (T30.out.keep hk); have B31 := Lib.hid (B30.out.trans (hk.below (B := w2.heap.size) S30.out.size (by simp)))
            obtain ⟨sa, sc, hsv⟩ := ownsRow_shape ho
            subst hsv
            obtain ⟨R, hR⟩ : ∃ R, R = scanR (sees (st ++ [2]) ⟨MM, [], 0⟩) ks3 G3 := ⟨_, rfl⟩
            rw [← hR] at ho ⊢
            have R31 := Lib.hid ho
            have HR := Lib.hid hR
            clear ho hk C3 hR
            go_wp2_with fail
            refine (C2.out w31 T31.out).mono ?_
            rintro e w32 ⟨u32, d32, rfl, vo, hk⟩
            have S32 := Lib.hid (S31.out.keep hk); have T32 := Lib.hid (T31.out.keep hk); have B32 := Lib.hid (B31.out.trans (hk.below (B := w2.heap.size) S31.out.size (by simp))); have R32 := Lib.hid (ownsRow_fr R31.out (Fr.ofKept hk 0 []) (by simp))
            have c := scan_sd T32.out MM 0 u32 0 d32 [] vo (st.length + 1) ⟨LIM.out.1, LIM.out.2, by rw [← HI.out]; omega⟩
            rw [← HR.out] at c
            have C3 := Lib.hid c
            clear vo hk C2 c
            go_wp2_with fail
            refine C3.out.mono ?_
            rintro e w33 ⟨sv, rfl, ho, hk⟩
            have S33 := Lib.hid (S32.out.keep hk); have T33 := Lib.hid (T32.out.keep hk); have B33 := Lib.hid (B32.out.trans (hk.below (B := w2.heap.size) S32.out.size (by simp))); have R33 := Lib.hid (ownsRow_fr R32.out (Fr.ofKept hk 0 []) (by simp))
            have c := lrows_same R33.out ho
            obtain ⟨ta, tc, htv⟩ := ownsRow_shape ho
            subst htv
            have C := Lib.hid c
            clear ho hk C3 c
            go_wp2_with fail
            refine C.out.mono ?_
            rintro e w34 ⟨rfl, hk⟩
            have S34 := Lib.hid (S33.out.keep hk); have T34 := Lib.hid (T33.out.keep hk); have B34 := Lib.hid (B33.out.trans (hk.below (B := w2.heap.size) S33.out.size (by simp)))
            clear hk C
            go_wp2
            go_roundw
            case rel => exact ⟨_, Q29, st ++ [2], ks3, G3, (by rw [List.length_append, ← HI.out]; rfl), (by rw [List.length_append, ← HI.out]; simp; omega), S34.out, T34.out, D29.out, AC.out.snoc, (by rw [List.length_append]; exact RIN.out), (by rw [List.length_append]; exact LIM.out), B34.out⟩
            case measure => simp [intOf]; omega
        · have hE' : (E == 0) = false := by simpa using hE
          have hl1 : Hid (l = []) := Lib.hid (by rw [HLL.out, opsOf, if_neg hE])
          obtain ⟨oa, hoa⟩ : ∃ oa : Option Addr, oa = none := ⟨_, rfl⟩
          obtain ⟨on, hon⟩ : ∃ on : Nat, on = 0 := ⟨_, rfl⟩
          obtain ⟨oc, hoc⟩ : ∃ oc : Nat, oc = 0 := ⟨_, rfl⟩
          have OV0 : w24.ownsRow 0 56 3 (.slice oa on oc) l.length (ocl l) := by rw [hl1.out, hoa, hon, hoc]; exact World.ownsRow_nil _ _ _ _
          subst hoa hon hoc
          have OV := Lib.hid OV0
          have S25 := S24; have T25 := T24; have D25 := D24; have B25 := B24
          clear q0 q1 OV0
          have KEYS : Hid (∀ o ∈ l, (Lit.int .i64 o.key).wf = true) := Lib.hid (fun o ho => by rw [HLL.out] at ho; unfold opsOf at ho; split at ho <;> simp at ho; subst ho; exact HK5.out)
          have LE1 : Hid (l.length ≤ 1) := Lib.hid (by rw [HLL.out]; unfold opsOf; split <;> simp)
          have c := commit_sd S25.out N HNW.out (by rw [HN.out]; exact st_new st)
          rw [show List.set (st ++ [1]) (N.toNat - 1) 2 = st ++ [2] by rw [HN.out]; exact st_set st 2] at c
          have C := Lib.hid c
          clear c
          go_wp2_with fail
          refine C.out.mono ?_
          rintro e w26 ⟨rfl, s, f⟩
          have S26 := Lib.hid s; have B26 := Lib.hid (B25.out.trans (S25.out.below f.1)); have T26 := Lib.hid (T25.out.fo f.1 (fun k a c => D25.out k c a)); have D26 := Lib.hid (D25.out.step f T25.out); have V26 := Lib.hid (S25.out.row f.1 OV.out (by decide))
          clear s f C
          have c := redo_sd T26.out N HNW.out (.slice none 0 0) l V26.out LE1.out KEYS.out (by have := LM.out.1; have := hn9.out; omega) (fun k => by have := LM.out.2 k; have := hn9.out; omega)
          rw [if_neg (by rw [HN.out, st_new]; decide), if_neg (by rw [HN.out, st_new]; decide), if_neg (by rw [HN.out, st_new]; decide)] at c
          have C := Lib.hid c
          clear c
          go_wp2_with fail
          refine C.out.mono ?_
          rintro e w27 ⟨rfl, Q27, s, f⟩
          have T27 := Lib.hid s; have B27 := Lib.hid (B26.out.trans (T26.out.below f.1)); have S27 := Lib.hid (S26.out.fo f.1 (fun k a c => D26.out k a c)); have D27 := Lib.hid ((D26.out.symm.step f S26.out).symm); have V27 := Lib.hid (T26.out.row f.1 V26.out (by decide))
          clear s f C
          have c := commit_sd T27.out N HNW.out (by rw [HN.out]; exact st_new st)
          rw [show List.set (st ++ [1]) (N.toNat - 1) 2 = st ++ [2] by rw [HN.out]; exact st_set st 2] at c
          have C := Lib.hid c
          clear c
          go_wp2_with fail
          refine C.out.mono ?_
          rintro e w28 ⟨rfl, s, f⟩
          have T28 := Lib.hid s; have B28 := Lib.hid (B27.out.trans (T27.out.below f.1)); have S28 := Lib.hid (S27.out.fo f.1 (fun k a c => D27.out k a c)); have D28 := Lib.hid ((D27.out.symm.step f S27.out).symm); have V28 := Lib.hid (T27.out.row f.1 V27.out (by decide))
          clear s f C
          have c := redo_sd T28.out N HNW.out (.slice none 0 0) l V28.out LE1.out KEYS.out (by have := LM.out.1; have := hn9.out; omega) (fun k => by have := LM.out.2 k; have := hn9.out; omega)
          rw [if_pos (by rw [HN.out]; exact st_done st), if_pos (by rw [HN.out]; exact st_done st), if_pos (by rw [HN.out]; exact st_done st), EK.out, EF.out] at c
          have C := Lib.hid c
          clear c
          go_wp2_with fail
          refine C.out.mono ?_
          rintro e w29 ⟨rfl, Q29, s, f⟩
          have T29 := Lib.hid s; have B29 := Lib.hid (B28.out.trans (T28.out.below f.1)); have S29 := Lib.hid (S28.out.fo f.1 (fun k a c => D28.out k a c)); have D29 := Lib.hid ((D28.out.symm.step f S28.out).symm)
          clear s f C
          have e1 : opens (st ++ [2]) = [] := opens_all AC.out.snoc
          obtain ⟨MM, hMM⟩ : ∃ MM : Int, MM = ((st ++ [2]).length : Int) + 1 := ⟨_, rfl⟩
          have c := now_sd S29.out
          rw [e1, ← hMM] at c
          have C : Hid (Calls Try.prog 13 #[.pointer (some ⟨p, 0, none⟩)] w29 fun e w' => ∃ u c, e = .returned (.agg #[.int .i64 MM, .slice u 0 c]) ∧ Vo w' (.slice u 0 c) [] ∧ Kept w29 w' []) := Lib.hid c
          have C2 : Hid (∀ w, Sd w w2.heap.size q g Q29 (st ++ [2]) ks3 G3 → Calls Try.prog 13 #[.pointer (some ⟨q, 0, none⟩)] w fun e w' => ∃ u c, e = .returned (.agg #[.int .i64 MM, .slice u 0 c]) ∧ Vo w' (.slice u 0 c) [] ∧ Kept w w' []) := Lib.hid (fun w a => by
            have c := now_sd a
            rw [e1, ← hMM] at c
            exact c)
          clear c e1 hMM
          go_wp2_with fail
          refine C.out.mono ?_
          rintro e w30 ⟨u30, d30, rfl, vo, hk⟩
          have S30 := Lib.hid (S29.out.keep hk); have T30 := Lib.hid (T29.out.keep hk); have B30 := Lib.hid (B29.out.trans (hk.below (B := w2.heap.size) S29.out.size (by simp)))
          have c := scan_sd S30.out MM 0 u30 0 d30 [] vo (st.length + 1) ⟨LIM.out.1, LIM.out.2, by rw [← HI.out]; omega⟩
          have C3 := Lib.hid c
          clear vo hk C c
          go_wp2_with fail
          refine C3.out.mono ?_
          rintro e w31 ⟨sv, rfl, ho, hk⟩
          have S31 := Lib.hid (S30.out.keep hk); have T31 := Lib.hid (T30.out.keep hk); have B31 := Lib.hid (B30.out.trans (hk.below (B := w2.heap.size) S30.out.size (by simp)))
          obtain ⟨sa, sc, hsv⟩ := ownsRow_shape ho
          subst hsv
          obtain ⟨R, hR⟩ : ∃ R, R = scanR (sees (st ++ [2]) ⟨MM, [], 0⟩) ks3 G3 := ⟨_, rfl⟩
          rw [← hR] at ho ⊢
          have R31 := Lib.hid ho
          have HR := Lib.hid hR
          clear ho hk C3 hR
          go_wp2_with fail
          refine (C2.out w31 T31.out).mono ?_
          rintro e w32 ⟨u32, d32, rfl, vo, hk⟩
          have S32 := Lib.hid (S31.out.keep hk); have T32 := Lib.hid (T31.out.keep hk); have B32 := Lib.hid (B31.out.trans (hk.below (B := w2.heap.size) S31.out.size (by simp))); have R32 := Lib.hid (ownsRow_fr R31.out (Fr.ofKept hk 0 []) (by simp))
          have c := scan_sd T32.out MM 0 u32 0 d32 [] vo (st.length + 1) ⟨LIM.out.1, LIM.out.2, by rw [← HI.out]; omega⟩
          rw [← HR.out] at c
          have C3 := Lib.hid c
          clear vo hk C2 c
          go_wp2_with fail
          refine C3.out.mono ?_
          rintro e w33 ⟨sv, rfl, ho, hk⟩
          have S33 := Lib.hid (S32.out.keep hk); have T33 := Lib.hid (T32.out.keep hk); have B33 := Lib.hid (B32.out.trans (hk.below (B := w2.heap.size) S32.out.size (by simp))); have R33 := Lib.hid (ownsRow_fr R32.out (Fr.ofKept hk 0 []) (by simp))
          have c := lrows_same R33.out ho
          obtain ⟨ta, tc, htv⟩ := ownsRow_shape ho
          subst htv
          have C := Lib.hid c
          clear ho hk C3 c
          go_wp2_with fail
          refine C.out.mono ?_
          rintro e w34 ⟨rfl, hk⟩
          have S34 := Lib.hid (S33.out.keep hk); have T34 := Lib.hid (T33.out.keep hk); have B34 := Lib.hid (B33.out.trans (hk.below (B := w2.heap.size) S33.out.size (by simp)))
          clear hk C
          go_wp2
          go_roundw
          case rel => exact ⟨_, Q29, st ++ [2], ks3, G3, (by rw [List.length_append, ← HI.out]; rfl), (by rw [List.length_append, ← HI.out]; simp; omega), S34.out, T34.out, D29.out, AC.out.snoc, (by rw [List.length_append]; exact RIN.out), (by rw [List.length_append]; exact LIM.out), B34.out⟩
          case measure => simp [intOf]; omega

      · rw [hd] at t3
        have c := upd_again AC.out RI.out LM.out hn9.out S23.out u22 1 d22 V23.out (by rw [← HN.out]; exact HNW.out) k5 txt HK5.out
        rw [← HM.out, ← HN.out] at c
        have C := Lib.hid c
        clear c
        go_wp2_with fail
        refine C.out.mono ?_
        rintro e w24 ⟨E, rfl, O24, ks3, G3, s, f, ag⟩
        have S24 := Lib.hid s; have AG := Lib.hid ag; have B24 := Lib.hid (B23.out.trans (S23.out.below f.1)); have T24 := Lib.hid (T23.out.fo f.1 (fun k a c => D21.out k c a)); have D24 := Lib.hid (D21.out.step f T23.out)
        have rb24 := S23.out.heap f.1 RB.out (by decide)
        have q0 : w24.cell? ⟨rb, 0, none⟩ = some (.int .i64 k5) := by rw [cell_of_row _ _ 0 _ _ _ rb24]; rfl
        have q1 : w24.cell? ⟨rb, 1, none⟩ = some (.string txt) := by rw [cell_of_row _ _ 1 _ _ _ rb24]; rfl
        have LIM : Hid (Lim (st.length + 1) ks3 G3) := Lib.hid ag.lim
        have RIN : Hid (RInv (st.length + 1) G3) := Lib.hid ag.inv
        obtain ⟨l, hl⟩ : ∃ l, l = opsOf E false k5 txt := ⟨_, rfl⟩
        have HLL := Lib.hid hl
        have EK : Hid (redoKs l ks = ks3) := Lib.hid (by rw [hl]; exact ag.eqK)
        have EF : Hid (redoFs (st ++ [2]) N l F = G3) := Lib.hid (by rw [hl, HN.out]; exact ag.eqF)
        clear s f ag C z0 z1 z2 r0 r1 y0 rb24 hl
        by_cases hE : E = 0
        · have hl1 : Hid (l = [⟨false, k5, txt⟩]) := Lib.hid (by rw [HLL.out, opsOf, if_pos hE])
          subst hE
          obtain ⟨x24, hx24⟩ : ∃ x24, x24 = w24.alloc (.cells #[.bool false, .int .i64 k5, .string txt] 56) := ⟨_, rfl⟩
          have HX24 := Lib.hid hx24
          have kx : Kept w24 x24 [] := by rw [hx24]; exact (Kept.refl w24 []).alloc _
          have SRC := Lib.hid (ocl_src hx24)
          have KX := Lib.hid kx
          clear hx24 kx
          go_wp2_with (at_builtin; refine wpList_append_all _ rfl (.tmp 108) (.tmp 111) 54 54 rfl 0 56 i0 _ 3 32 Try.underlying54 I.out.1 I.out.2.1 I.out.2.2.1 I.out.2.2.2 rfl (.slice none 0 0) 0 [] rfl (World.ownsRow_nil _ _ _ _) _ 1 (ocl [⟨false, k5, txt⟩]) rfl ?hsrc (by unfold maxLen; omega) (by omega) (Nat.zero_le _) ?next)
          case hsrc => rw [← HX24.out]; exact SRC.out
          case next =>
            intro v5 w25 ho5 _ hg5 _
            rw [← HX24.out] at hg5
            obtain ⟨oa, oc, hs5⟩ := ownsRow_shape ho5
            subst hs5
            have k25 : Kept w24 w25 [] := KX.out.grown hg5 (fun k hk => by cases hk)
            have OV : Hid (w25.ownsRow 0 56 3 (.slice oa 1 oc) l.length (ocl l)) := Lib.hid (by rw [hl1.out]; exact ho5)
            have S25 := Lib.hid (S24.out.keep k25); have T25 := Lib.hid (T24.out.keep k25); have D25 := D24; have B25 := Lib.hid (B24.out.trans (k25.below (B := w2.heap.size) S24.out.size (by simp)))
            clear ho5 hg5 k25 q0 q1
            have KEYS : Hid (∀ o ∈ l, (Lit.int .i64 o.key).wf = true) := Lib.hid (fun o ho => by rw [HLL.out] at ho; unfold opsOf at ho; split at ho <;> simp at ho; subst ho; exact HK5.out)
            have LE1 : Hid (l.length ≤ 1) := Lib.hid (by rw [HLL.out]; unfold opsOf; split <;> simp)
            have c := commit_sd S25.out N HNW.out (by rw [HN.out]; exact st_new st)
            rw [show List.set (st ++ [1]) (N.toNat - 1) 2 = st ++ [2] by rw [HN.out]; exact st_set st 2] at c
            have C := Lib.hid c
            clear c
            go_wp2_with fail
            refine C.out.mono ?_
            rintro e w26 ⟨rfl, s, f⟩
            have S26 := Lib.hid s; have B26 := Lib.hid (B25.out.trans (S25.out.below f.1)); have T26 := Lib.hid (T25.out.fo f.1 (fun k a c => D25.out k c a)); have D26 := Lib.hid (D25.out.step f T25.out); have V26 := Lib.hid (S25.out.row f.1 OV.out (by decide))
            clear s f C
            have c := redo_sd T26.out N HNW.out (.slice oa 1 oc) l V26.out LE1.out KEYS.out (by have := LM.out.1; have := hn9.out; omega) (fun k => by have := LM.out.2 k; have := hn9.out; omega)
            rw [if_neg (by rw [HN.out, st_new]; decide), if_neg (by rw [HN.out, st_new]; decide), if_neg (by rw [HN.out, st_new]; decide)] at c
            have C := Lib.hid c
            clear c
            go_wp2_with fail
            refine C.out.mono ?_
            rintro e w27 ⟨rfl, Q27, s, f⟩
            have T27 := Lib.hid s; have B27 := Lib.hid (B26.out.trans (T26.out.below f.1)); have S27 := Lib.hid (S26.out.fo f.1 (fun k a c => D26.out k a c)); have D27 := Lib.hid ((D26.out.symm.step f S26.out).symm); have V27 := Lib.hid (T26.out.row f.1 V26.out (by decide))
            clear s f C
            have c := commit_sd T27.out N HNW.out (by rw [HN.out]; exact st_new st)
            rw [show List.set (st ++ [1]) (N.toNat - 1) 2 = st ++ [2] by rw [HN.out]; exact st_set st 2] at c
            have C := Lib.hid c
            clear c
            go_wp2_with fail
            refine C.out.mono ?_
            rintro e w28 ⟨rfl, s, f⟩
            have T28 := Lib.hid s; have B28 := Lib.hid (B27.out.trans (T27.out.below f.1)); have S28 := Lib.hid (S27.out.fo f.1 (fun k a c => D27.out k a c)); have D28 := Lib.hid ((D27.out.symm.step f S27.out).symm); have V28 := Lib.hid (T27.out.row f.1 V27.out (by decide))
            clear s f C
            have c := redo_sd T28.out N HNW.out (.slice oa 1 oc) l V28.out LE1.out KEYS.out (by have := LM.out.1; have := hn9.out; omega) (fun k => by have := LM.out.2 k; have := hn9.out; omega)
            rw [if_pos (by rw [HN.out]; exact st_done st), if_pos (by rw [HN.out]; exact st_done st), if_pos (by rw [HN.out]; exact st_done st), EK.out, EF.out] at c
            have C := Lib.hid c
            clear c
            go_wp2_with fail
            refine C.out.mono ?_
            rintro e w29 ⟨rfl, Q29, s, f⟩
            have T29 := Lib.hid s; have B29 := Lib.hid (B28.out.trans (T28.out.below f.1)); have S29 := Lib.hid (S28.out.fo f.1 (fun k a c => D28.out k a c)); have D29 := Lib.hid ((D28.out.symm.step f S28.out).symm)
            clear s f C
            have e1 : opens (st ++ [2]) = [] := opens_all AC.out.snoc
            obtain ⟨MM, hMM⟩ : ∃ MM : Int, MM = ((st ++ [2]).length : Int) + 1 := ⟨_, rfl⟩
            have c := now_sd S29.out
            rw [e1, ← hMM] at c
            have C : Hid (Calls Try.prog 13 #[.pointer (some ⟨p, 0, none⟩)] w29 fun e w' => ∃ u c, e = .returned (.agg #[.int .i64 MM, .slice u 0 c]) ∧ Vo w' (.slice u 0 c) [] ∧ Kept w29 w' []) := Lib.hid c
            have C2 : Hid (∀ w, Sd w w2.heap.size q g Q29 (st ++ [2]) ks3 G3 → Calls Try.prog 13 #[.pointer (some ⟨q, 0, none⟩)] w fun e w' => ∃ u c, e = .returned (.agg #[.int .i64 MM, .slice u 0 c]) ∧ Vo w' (.slice u 0 c) [] ∧ Kept w w' []) := Lib.hid (fun w a => by
              have c := now_sd a
              rw [e1, ← hMM] at c
              exact c)
            clear c e1 hMM
            go_wp2_with fail
            refine C.out.mono ?_
            rintro e w30 ⟨u30, d30, rfl, vo, hk⟩
            have S30 := Lib.hid (S29.out.keep hk); have T30 := Lib.hid (T29.out.keep hk); have B30 := Lib.hid (B29.out.trans (hk.below (B := w2.heap.size) S29.out.size (by simp)))
            have c := scan_sd S30.out MM 0 u30 0 d30 [] vo (st.length + 1) ⟨LIM.out.1, LIM.out.2, by rw [← HI.out]; omega⟩
            have C3 := Lib.hid c
            clear vo hk C c
            go_wp2_with fail
            refine C3.out.mono ?_
            rintro e w31 ⟨sv, rfl, ho, hk⟩
            have S31 := Lib.hid (S30.out.keep hk); have T31 := Lib.hid (T30.out.keep hk); have B31 := Lib.hid (B30.out.trans (hk.below (B := w2.heap.size) S30.out.size (by simp)))
            obtain ⟨sa, sc, hsv⟩ := ownsRow_shape ho
            subst hsv
            obtain ⟨R, hR⟩ : ∃ R, R = scanR (sees (st ++ [2]) ⟨MM, [], 0⟩) ks3 G3 := ⟨_, rfl⟩
            rw [← hR] at ho ⊢
            have R31 := Lib.hid ho
            have HR := Lib.hid hR
            clear ho hk C3 hR
            go_wp2_with fail
            refine (C2.out w31 T31.out).mono ?_
            rintro e w32 ⟨u32, d32, rfl, vo, hk⟩
            have S32 := Lib.hid (S31.out.keep hk); have T32 := Lib.hid (T31.out.keep hk); have B32 := Lib.hid (B31.out.trans (hk.below (B := w2.heap.size) S31.out.size (by simp))); have R32 := Lib.hid (ownsRow_fr R31.out (Fr.ofKept hk 0 []) (by simp))
            have c := scan_sd T32.out MM 0 u32 0 d32 [] vo (st.length + 1) ⟨LIM.out.1, LIM.out.2, by rw [← HI.out]; omega⟩
            rw [← HR.out] at c
            have C3 := Lib.hid c
            clear vo hk C2 c
            go_wp2_with fail
            refine C3.out.mono ?_
            rintro e w33 ⟨sv, rfl, ho, hk⟩
            have S33 := Lib.hid (S32.out.keep hk); have T33 := Lib.hid (T32.out.keep hk); have B33 := Lib.hid (B32.out.trans (hk.below (B := w2.heap.size) S32.out.size (by simp))); have R33 := Lib.hid (ownsRow_fr R32.out (Fr.ofKept hk 0 []) (by simp))
            have c := lrows_same R33.out ho
            obtain ⟨ta, tc, htv⟩ := ownsRow_shape ho
            subst htv
            have C := Lib.hid c
            clear ho hk C3 c
            go_wp2_with fail
            refine C.out.mono ?_
            rintro e w34 ⟨rfl, hk⟩
            have S34 := Lib.hid (S33.out.keep hk); have T34 := Lib.hid (T33.out.keep hk); have B34 := Lib.hid (B33.out.trans (hk.below (B := w2.heap.size) S33.out.size (by simp)))
            clear hk C
            go_wp2
            go_roundw
            case rel => exact ⟨_, Q29, st ++ [2], ks3, G3, (by rw [List.length_append, ← HI.out]; rfl), (by rw [List.length_append, ← HI.out]; simp; omega), S34.out, T34.out, D29.out, AC.out.snoc, (by rw [List.length_append]; exact RIN.out), (by rw [List.length_append]; exact LIM.out), B34.out⟩
            case measure => simp [intOf]; omega
        · have hE' : (E == 0) = false := by simpa using hE
          have hl1 : Hid (l = []) := Lib.hid (by rw [HLL.out, opsOf, if_neg hE])
          obtain ⟨oa, hoa⟩ : ∃ oa : Option Addr, oa = none := ⟨_, rfl⟩
          obtain ⟨on, hon⟩ : ∃ on : Nat, on = 0 := ⟨_, rfl⟩
          obtain ⟨oc, hoc⟩ : ∃ oc : Nat, oc = 0 := ⟨_, rfl⟩
          have OV0 : w24.ownsRow 0 56 3 (.slice oa on oc) l.length (ocl l) := by rw [hl1.out, hoa, hon, hoc]; exact World.ownsRow_nil _ _ _ _
          subst hoa hon hoc
          have OV := Lib.hid OV0
          have S25 := S24; have T25 := T24; have D25 := D24; have B25 := B24
          clear q0 q1 OV0
          have KEYS : Hid (∀ o ∈ l, (Lit.int .i64 o.key).wf = true) := Lib.hid (fun o ho => by rw [HLL.out] at ho; unfold opsOf at ho; split at ho <;> simp at ho; subst ho; exact HK5.out)
          have LE1 : Hid (l.length ≤ 1) := Lib.hid (by rw [HLL.out]; unfold opsOf; split <;> simp)
          have c := commit_sd S25.out N HNW.out (by rw [HN.out]; exact st_new st)
          rw [show List.set (st ++ [1]) (N.toNat - 1) 2 = st ++ [2] by rw [HN.out]; exact st_set st 2] at c
          have C := Lib.hid c
          clear c
          go_wp2_with fail
          refine C.out.mono ?_
          rintro e w26 ⟨rfl, s, f⟩
          have S26 := Lib.hid s; have B26 := Lib.hid (B25.out.trans (S25.out.below f.1)); have T26 := Lib.hid (T25.out.fo f.1 (fun k a c => D25.out k c a)); have D26 := Lib.hid (D25.out.step f T25.out); have V26 := Lib.hid (S25.out.row f.1 OV.out (by decide))
          clear s f C
          have c := redo_sd T26.out N HNW.out (.slice none 0 0) l V26.out LE1.out KEYS.out (by have := LM.out.1; have := hn9.out; omega) (fun k => by have := LM.out.2 k; have := hn9.out; omega)
          rw [if_neg (by rw [HN.out, st_new]; decide), if_neg (by rw [HN.out, st_new]; decide), if_neg (by rw [HN.out, st_new]; decide)] at c
          have C := Lib.hid c
          clear c
          go_wp2_with fail
          refine C.out.mono ?_
          rintro e w27 ⟨rfl, Q27, s, f⟩
          have T27 := Lib.hid s; have B27 := Lib.hid (B26.out.trans (T26.out.below f.1)); have S27 := Lib.hid (S26.out.fo f.1 (fun k a c => D26.out k a c)); have D27 := Lib.hid ((D26.out.symm.step f S26.out).symm); have V27 := Lib.hid (T26.out.row f.1 V26.out (by decide))
          clear s f C
          have c := commit_sd T27.out N HNW.out (by rw [HN.out]; exact st_new st)
          rw [show List.set (st ++ [1]) (N.toNat - 1) 2 = st ++ [2] by rw [HN.out]; exact st_set st 2] at c
          have C := Lib.hid c
          clear c
          go_wp2_with fail
          refine C.out.mono ?_
          rintro e w28 ⟨rfl, s, f⟩
          have T28 := Lib.hid s; have B28 := Lib.hid (B27.out.trans (T27.out.below f.1)); have S28 := Lib.hid (S27.out.fo f.1 (fun k a c => D27.out k a c)); have D28 := Lib.hid ((D27.out.symm.step f S27.out).symm); have V28 := Lib.hid (T27.out.row f.1 V27.out (by decide))
          clear s f C
          have c := redo_sd T28.out N HNW.out (.slice none 0 0) l V28.out LE1.out KEYS.out (by have := LM.out.1; have := hn9.out; omega) (fun k => by have := LM.out.2 k; have := hn9.out; omega)
          rw [if_pos (by rw [HN.out]; exact st_done st), if_pos (by rw [HN.out]; exact st_done st), if_pos (by rw [HN.out]; exact st_done st), EK.out, EF.out] at c
          have C := Lib.hid c
          clear c
          go_wp2_with fail
          refine C.out.mono ?_
          rintro e w29 ⟨rfl, Q29, s, f⟩
          have T29 := Lib.hid s; have B29 := Lib.hid (B28.out.trans (T28.out.below f.1)); have S29 := Lib.hid (S28.out.fo f.1 (fun k a c => D28.out k a c)); have D29 := Lib.hid ((D28.out.symm.step f S28.out).symm)
          clear s f C
          have e1 : opens (st ++ [2]) = [] := opens_all AC.out.snoc
          obtain ⟨MM, hMM⟩ : ∃ MM : Int, MM = ((st ++ [2]).length : Int) + 1 := ⟨_, rfl⟩
          have c := now_sd S29.out
          rw [e1, ← hMM] at c
          have C : Hid (Calls Try.prog 13 #[.pointer (some ⟨p, 0, none⟩)] w29 fun e w' => ∃ u c, e = .returned (.agg #[.int .i64 MM, .slice u 0 c]) ∧ Vo w' (.slice u 0 c) [] ∧ Kept w29 w' []) := Lib.hid c
          have C2 : Hid (∀ w, Sd w w2.heap.size q g Q29 (st ++ [2]) ks3 G3 → Calls Try.prog 13 #[.pointer (some ⟨q, 0, none⟩)] w fun e w' => ∃ u c, e = .returned (.agg #[.int .i64 MM, .slice u 0 c]) ∧ Vo w' (.slice u 0 c) [] ∧ Kept w w' []) := Lib.hid (fun w a => by
            have c := now_sd a
            rw [e1, ← hMM] at c
            exact c)
          clear c e1 hMM
          go_wp2_with fail
          refine C.out.mono ?_
          rintro e w30 ⟨u30, d30, rfl, vo, hk⟩
          have S30 := Lib.hid (S29.out.keep hk); have T30 := Lib.hid (T29.out.keep hk); have B30 := Lib.hid (B29.out.trans (hk.below (B := w2.heap.size) S29.out.size (by simp)))
          have c := scan_sd S30.out MM 0 u30 0 d30 [] vo (st.length + 1) ⟨LIM.out.1, LIM.out.2, by rw [← HI.out]; omega⟩
          have C3 := Lib.hid c
          clear vo hk C c
          go_wp2_with fail
          refine C3.out.mono ?_
          rintro e w31 ⟨sv, rfl, ho, hk⟩
          have S31 := Lib.hid (S30.out.keep hk); have T31 := Lib.hid (T30.out.keep hk); have B31 := Lib.hid (B30.out.trans (hk.below (B := w2.heap.size) S30.out.size (by simp)))
          obtain ⟨sa, sc, hsv⟩ := ownsRow_shape ho
          subst hsv
          obtain ⟨R, hR⟩ : ∃ R, R = scanR (sees (st ++ [2]) ⟨MM, [], 0⟩) ks3 G3 := ⟨_, rfl⟩
          rw [← hR] at ho ⊢
          have R31 := Lib.hid ho
          have HR := Lib.hid hR
          clear ho hk C3 hR
          go_wp2_with fail
          refine (C2.out w31 T31.out).mono ?_
          rintro e w32 ⟨u32, d32, rfl, vo, hk⟩
          have S32 := Lib.hid (S31.out.keep hk); have T32 := Lib.hid (T31.out.keep hk); have B32 := Lib.hid (B31.out.trans (hk.below (B := w2.heap.size) S31.out.size (by simp))); have R32 := Lib.hid (ownsRow_fr R31.out (Fr.ofKept hk 0 []) (by simp))
          have c := scan_sd T32.out MM 0 u32 0 d32 [] vo (st.length + 1) ⟨LIM.out.1, LIM.out.2, by rw [← HI.out]; omega⟩
          rw [← HR.out] at c
          have C3 := Lib.hid c
          clear vo hk C2 c
          go_wp2_with fail
          refine C3.out.mono ?_
          rintro e w33 ⟨sv, rfl, ho, hk⟩
          have S33 := Lib.hid (S32.out.keep hk); have T33 := Lib.hid (T32.out.keep hk); have B33 := Lib.hid (B32.out.trans (hk.below (B := w2.heap.size) S32.out.size (by simp))); have R33 := Lib.hid (ownsRow_fr R32.out (Fr.ofKept hk 0 []) (by simp))
          have c := lrows_same R33.out ho
          obtain ⟨ta, tc, htv⟩ := ownsRow_shape ho
          subst htv
          have C := Lib.hid c
          clear ho hk C3 c
          go_wp2_with fail
          refine C.out.mono ?_
          rintro e w34 ⟨rfl, hk⟩
          have S34 := Lib.hid (S33.out.keep hk); have T34 := Lib.hid (T33.out.keep hk); have B34 := Lib.hid (B33.out.trans (hk.below (B := w2.heap.size) S33.out.size (by simp)))
          clear hk C
          go_wp2
          go_roundw
          case rel => exact ⟨_, Q29, st ++ [2], ks3, G3, (by rw [List.length_append, ← HI.out]; rfl), (by rw [List.length_append, ← HI.out]; simp; omega), S34.out, T34.out, D29.out, AC.out.snoc, (by rw [List.length_append]; exact RIN.out), (by rw [List.length_append]; exact LIM.out), B34.out⟩
          case measure => simp [intOf]; omega

      · rw [hd] at t3
        have c := del_again AC.out RI.out LM.out S23.out u22 1 d22 V23.out (by rw [← HN.out]; exact HNW.out) k5 txt HK5.out
        rw [← HM.out, ← HN.out] at c
        have C := Lib.hid c
        clear c
        go_wp2_with fail
        refine C.out.mono ?_
        rintro e w24 ⟨E, rfl, O24, ks3, G3, s, f, ag⟩
        have S24 := Lib.hid s; have AG := Lib.hid ag; have B24 := Lib.hid (B23.out.trans (S23.out.below f.1)); have T24 := Lib.hid (T23.out.fo f.1 (fun k a c => D21.out k c a)); have D24 := Lib.hid (D21.out.step f T23.out)
        have rb24 := S23.out.heap f.1 RB.out (by decide)
        have q0 : w24.cell? ⟨rb, 0, none⟩ = some (.int .i64 k5) := by rw [cell_of_row _ _ 0 _ _ _ rb24]; rfl
        have q1 : w24.cell? ⟨rb, 1, none⟩ = some (.string txt) := by rw [cell_of_row _ _ 1 _ _ _ rb24]; rfl
        have LIM : Hid (Lim (st.length + 1) ks3 G3) := Lib.hid ag.lim
        have RIN : Hid (RInv (st.length + 1) G3) := Lib.hid ag.inv
        obtain ⟨l, hl⟩ : ∃ l, l = opsOf E true k5 txt := ⟨_, rfl⟩
        have HLL := Lib.hid hl
        have EK : Hid (redoKs l ks = ks3) := Lib.hid (by rw [hl]; exact ag.eqK)
        have EF : Hid (redoFs (st ++ [2]) N l F = G3) := Lib.hid (by rw [hl, HN.out]; exact ag.eqF)
        clear s f ag C z0 z1 z2 r0 r1 y0 rb24 hl
        by_cases hE : E = 0
        · have hl1 : Hid (l = [⟨true, k5, txt⟩]) := Lib.hid (by rw [HLL.out, opsOf, if_pos hE])
          subst hE
          obtain ⟨x24, hx24⟩ : ∃ x24, x24 = w24.alloc (.cells #[.bool true, .int .i64 k5, .string txt] 56) := ⟨_, rfl⟩
          have HX24 := Lib.hid hx24
          have kx : Kept w24 x24 [] := by rw [hx24]; exact (Kept.refl w24 []).alloc _
          have SRC := Lib.hid (ocl_src hx24)
          have KX := Lib.hid kx
          clear hx24 kx
          go_wp2_with (at_builtin; refine wpList_append_all _ rfl (.tmp 84) (.tmp 87) 54 54 rfl 0 56 i0 _ 3 32 Try.underlying54 I.out.1 I.out.2.1 I.out.2.2.1 I.out.2.2.2 rfl (.slice none 0 0) 0 [] rfl (World.ownsRow_nil _ _ _ _) _ 1 (ocl [⟨true, k5, txt⟩]) rfl ?hsrc (by unfold maxLen; omega) (by omega) (Nat.zero_le _) ?next)
          case hsrc => rw [← HX24.out]; exact SRC.out
          case next =>
            intro v5 w25 ho5 _ hg5 _
            rw [← HX24.out] at hg5
            obtain ⟨oa, oc, hs5⟩ := ownsRow_shape ho5
            subst hs5
            have k25 : Kept w24 w25 [] := KX.out.grown hg5 (fun k hk => by cases hk)
            have OV : Hid (w25.ownsRow 0 56 3 (.slice oa 1 oc) l.length (ocl l)) := Lib.hid (by rw [hl1.out]; exact ho5)
            have S25 := Lib.hid (S24.out.keep k25); have T25 := Lib.hid (T24.out.keep k25); have D25 := D24; have B25 := Lib.hid (B24.out.trans (k25.below (B := w2.heap.size) S24.out.size (by simp)))
            clear ho5 hg5 k25 q0 q1
            have KEYS : Hid (∀ o ∈ l, (Lit.int .i64 o.key).wf = true) := Lib.hid (fun o ho => by rw [HLL.out] at ho; unfold opsOf at ho; split at ho <;> simp at ho; subst ho; exact HK5.out)
            have LE1 : Hid (l.length ≤ 1) := Lib.hid (by rw [HLL.out]; unfold opsOf; split <;> simp)
            have c := commit_sd S25.out N HNW.out (by rw [HN.out]; exact st_new st)
            rw [show List.set (st ++ [1]) (N.toNat - 1) 2 = st ++ [2] by rw [HN.out]; exact st_set st 2] at c
            have C := Lib.hid c
            clear c
            go_wp2_with fail
            refine C.out.mono ?_
            rintro e w26 ⟨rfl, s, f⟩
            have S26 := Lib.hid s; have B26 := Lib.hid (B25.out.trans (S25.out.below f.1)); have T26 := Lib.hid (T25.out.fo f.1 (fun k a c => D25.out k c a)); have D26 := Lib.hid (D25.out.step f T25.out); have V26 := Lib.hid (S25.out.row f.1 OV.out (by decide))
            clear s f C
            have c := redo_sd T26.out N HNW.out (.slice oa 1 oc) l V26.out LE1.out KEYS.out (by have := LM.out.1; have := hn9.out; omega) (fun k => by have := LM.out.2 k; have := hn9.out; omega)
            rw [if_neg (by rw [HN.out, st_new]; decide), if_neg (by rw [HN.out, st_new]; decide), if_neg (by rw [HN.out, st_new]; decide)] at c
            have C := Lib.hid c
            clear c
            go_wp2_with fail
            refine C.out.mono ?_
            rintro e w27 ⟨rfl, Q27, s, f⟩
            have T27 := Lib.hid s; have B27 := Lib.hid (B26.out.trans (T26.out.below f.1)); have S27 := Lib.hid (S26.out.fo f.1 (fun k a c => D26.out k a c)); have D27 := Lib.hid ((D26.out.symm.step f S26.out).symm); have V27 := Lib.hid (T26.out.row f.1 V26.out (by decide))
            clear s f C
            have c := commit_sd T27.out N HNW.out (by rw [HN.out]; exact st_new st)
            rw [show List.set (st ++ [1]) (N.toNat - 1) 2 = st ++ [2] by rw [HN.out]; exact st_set st 2] at c
            have C := Lib.hid c
            clear c
            go_wp2_with fail
            refine C.out.mono ?_
            rintro e w28 ⟨rfl, s, f⟩
            have T28 := Lib.hid s; have B28 := Lib.hid (B27.out.trans (T27.out.below f.1)); have S28 := Lib.hid (S27.out.fo f.1 (fun k a c => D27.out k a c)); have D28 := Lib.hid ((D27.out.symm.step f S27.out).symm); have V28 := Lib.hid (T27.out.row f.1 V27.out (by decide))
            clear s f C
            have c := redo_sd T28.out N HNW.out (.slice oa 1 oc) l V28.out LE1.out KEYS.out (by have := LM.out.1; have := hn9.out; omega) (fun k => by have := LM.out.2 k; have := hn9.out; omega)
            rw [if_pos (by rw [HN.out]; exact st_done st), if_pos (by rw [HN.out]; exact st_done st), if_pos (by rw [HN.out]; exact st_done st), EK.out, EF.out] at c
            have C := Lib.hid c
            clear c
            go_wp2_with fail
            refine C.out.mono ?_
            rintro e w29 ⟨rfl, Q29, s, f⟩
            have T29 := Lib.hid s; have B29 := Lib.hid (B28.out.trans (T28.out.below f.1)); have S29 := Lib.hid (S28.out.fo f.1 (fun k a c => D28.out k a c)); have D29 := Lib.hid ((D28.out.symm.step f S28.out).symm)
            clear s f C
            have e1 : opens (st ++ [2]) = [] := opens_all AC.out.snoc
            obtain ⟨MM, hMM⟩ : ∃ MM : Int, MM = ((st ++ [2]).length : Int) + 1 := ⟨_, rfl⟩
            have c := now_sd S29.out
            rw [e1, ← hMM] at c
            have C : Hid (Calls Try.prog 13 #[.pointer (some ⟨p, 0, none⟩)] w29 fun e w' => ∃ u c, e = .returned (.agg #[.int .i64 MM, .slice u 0 c]) ∧ Vo w' (.slice u 0 c) [] ∧ Kept w29 w' []) := Lib.hid c
            have C2 : Hid (∀ w, Sd w w2.heap.size q g Q29 (st ++ [2]) ks3 G3 → Calls Try.prog 13 #[.pointer (some ⟨q, 0, none⟩)] w fun e w' => ∃ u c, e = .returned (.agg #[.int .i64 MM, .slice u 0 c]) ∧ Vo w' (.slice u 0 c) [] ∧ Kept w w' []) := Lib.hid (fun w a => by
              have c := now_sd a
              rw [e1, ← hMM] at c
              exact c)
            clear c e1 hMM
            go_wp2_with fail
            refine C.out.mono ?_
            rintro e w30 ⟨u30, d30, rfl, vo, hk⟩
            have S30 := Lib.hid (S29.out.keep hk); have T30 := Lib.hid (T29.out.keep hk); have B30 := Lib.hid (B29.out.trans (hk.below (B := w2.heap.size) S29.out.size (by simp)))
            have c := scan_sd S30.out MM 0 u30 0 d30 [] vo (st.length + 1) ⟨LIM.out.1, LIM.out.2, by rw [← HI.out]; omega⟩
            have C3 := Lib.hid c
            clear vo hk C c
            go_wp2_with fail
            refine C3.out.mono ?_
            rintro e w31 ⟨sv, rfl, ho, hk⟩
            have S31 := Lib.hid (S30.out.keep hk); have T31 := Lib.hid (T30.out.keep hk); have B31 := Lib.hid (B30.out.trans (hk.below (B := w2.heap.size) S30.out.size (by simp)))
            obtain ⟨sa, sc, hsv⟩ := ownsRow_shape ho
            subst hsv
            obtain ⟨R, hR⟩ : ∃ R, R = scanR (sees (st ++ [2]) ⟨MM, [], 0⟩) ks3 G3 := ⟨_, rfl⟩
            rw [← hR] at ho ⊢
            have R31 := Lib.hid ho
            have HR := Lib.hid hR
            clear ho hk C3 hR
            go_wp2_with fail
            refine (C2.out w31 T31.out).mono ?_
            rintro e w32 ⟨u32, d32, rfl, vo, hk⟩
            have S32 := Lib.hid (S31.out.keep hk); have T32 := Lib.hid (T31.out.keep hk); have B32 := Lib.hid (B31.out.trans (hk.below (B := w2.heap.size) S31.out.size (by simp))); have R32 := Lib.hid (ownsRow_fr R31.out (Fr.ofKept hk 0 []) (by simp))
            have c := scan_sd T32.out MM 0 u32 0 d32 [] vo (st.length + 1) ⟨LIM.out.1, LIM.out.2, by rw [← HI.out]; omega⟩
            rw [← HR.out] at c
            have C3 := Lib.hid c
            clear vo hk C2 c
            go_wp2_with fail
            refine C3.out.mono ?_
            rintro e w33 ⟨sv, rfl, ho, hk⟩
            have S33 := Lib.hid (S32.out.keep hk); have T33 := Lib.hid (T32.out.keep hk); have B33 := Lib.hid (B32.out.trans (hk.below (B := w2.heap.size) S32.out.size (by simp))); have R33 := Lib.hid (ownsRow_fr R32.out (Fr.ofKept hk 0 []) (by simp))
            have c := lrows_same R33.out ho
            obtain ⟨ta, tc, htv⟩ := ownsRow_shape ho
            subst htv
            have C := Lib.hid c
            clear ho hk C3 c
            go_wp2_with fail
            refine C.out.mono ?_
            rintro e w34 ⟨rfl, hk⟩
            have S34 := Lib.hid (S33.out.keep hk); have T34 := Lib.hid (T33.out.keep hk); have B34 := Lib.hid (B33.out.trans (hk.below (B := w2.heap.size) S33.out.size (by simp)))
            clear hk C
            go_wp2
            go_roundw
            case rel => exact ⟨_, Q29, st ++ [2], ks3, G3, (by rw [List.length_append, ← HI.out]; rfl), (by rw [List.length_append, ← HI.out]; simp; omega), S34.out, T34.out, D29.out, AC.out.snoc, (by rw [List.length_append]; exact RIN.out), (by rw [List.length_append]; exact LIM.out), B34.out⟩
            case measure => simp [intOf]; omega
        · have hE' : (E == 0) = false := by simpa using hE
          have hl1 : Hid (l = []) := Lib.hid (by rw [HLL.out, opsOf, if_neg hE])
          obtain ⟨oa, hoa⟩ : ∃ oa : Option Addr, oa = none := ⟨_, rfl⟩
          obtain ⟨on, hon⟩ : ∃ on : Nat, on = 0 := ⟨_, rfl⟩
          obtain ⟨oc, hoc⟩ : ∃ oc : Nat, oc = 0 := ⟨_, rfl⟩
          have OV0 : w24.ownsRow 0 56 3 (.slice oa on oc) l.length (ocl l) := by rw [hl1.out, hoa, hon, hoc]; exact World.ownsRow_nil _ _ _ _
          subst hoa hon hoc
          have OV := Lib.hid OV0
          have S25 := S24; have T25 := T24; have D25 := D24; have B25 := B24
          clear q0 q1 OV0
          have KEYS : Hid (∀ o ∈ l, (Lit.int .i64 o.key).wf = true) := Lib.hid (fun o ho => by rw [HLL.out] at ho; unfold opsOf at ho; split at ho <;> simp at ho; subst ho; exact HK5.out)
          have LE1 : Hid (l.length ≤ 1) := Lib.hid (by rw [HLL.out]; unfold opsOf; split <;> simp)
          have c := commit_sd S25.out N HNW.out (by rw [HN.out]; exact st_new st)
          rw [show List.set (st ++ [1]) (N.toNat - 1) 2 = st ++ [2] by rw [HN.out]; exact st_set st 2] at c
          have C := Lib.hid c
          clear c
          go_wp2_with fail
          refine C.out.mono ?_
          rintro e w26 ⟨rfl, s, f⟩
          have S26 := Lib.hid s; have B26 := Lib.hid (B25.out.trans (S25.out.below f.1)); have T26 := Lib.hid (T25.out.fo f.1 (fun k a c => D25.out k c a)); have D26 := Lib.hid (D25.out.step f T25.out); have V26 := Lib.hid (S25.out.row f.1 OV.out (by decide))
          clear s f C
          have c := redo_sd T26.out N HNW.out (.slice none 0 0) l V26.out LE1.out KEYS.out (by have := LM.out.1; have := hn9.out; omega) (fun k => by have := LM.out.2 k; have := hn9.out; omega)
          rw [if_neg (by rw [HN.out, st_new]; decide), if_neg (by rw [HN.out, st_new]; decide), if_neg (by rw [HN.out, st_new]; decide)] at c
          have C := Lib.hid c
          clear c
          go_wp2_with fail
          refine C.out.mono ?_
          rintro e w27 ⟨rfl, Q27, s, f⟩
          have T27 := Lib.hid s; have B27 := Lib.hid (B26.out.trans (T26.out.below f.1)); have S27 := Lib.hid (S26.out.fo f.1 (fun k a c => D26.out k a c)); have D27 := Lib.hid ((D26.out.symm.step f S26.out).symm); have V27 := Lib.hid (T26.out.row f.1 V26.out (by decide))
          clear s f C
          have c := commit_sd T27.out N HNW.out (by rw [HN.out]; exact st_new st)
          rw [show List.set (st ++ [1]) (N.toNat - 1) 2 = st ++ [2] by rw [HN.out]; exact st_set st 2] at c
          have C := Lib.hid c
          clear c
          go_wp2_with fail
          refine C.out.mono ?_
          rintro e w28 ⟨rfl, s, f⟩
          have T28 := Lib.hid s; have B28 := Lib.hid (B27.out.trans (T27.out.below f.1)); have S28 := Lib.hid (S27.out.fo f.1 (fun k a c => D27.out k a c)); have D28 := Lib.hid ((D27.out.symm.step f S27.out).symm); have V28 := Lib.hid (T27.out.row f.1 V27.out (by decide))
          clear s f C
          have c := redo_sd T28.out N HNW.out (.slice none 0 0) l V28.out LE1.out KEYS.out (by have := LM.out.1; have := hn9.out; omega) (fun k => by have := LM.out.2 k; have := hn9.out; omega)
          rw [if_pos (by rw [HN.out]; exact st_done st), if_pos (by rw [HN.out]; exact st_done st), if_pos (by rw [HN.out]; exact st_done st), EK.out, EF.out] at c
          have C := Lib.hid c
          clear c
          go_wp2_with fail
          refine C.out.mono ?_
          rintro e w29 ⟨rfl, Q29, s, f⟩
          have T29 := Lib.hid s; have B29 := Lib.hid (B28.out.trans (T28.out.below f.1)); have S29 := Lib.hid (S28.out.fo f.1 (fun k a c => D28.out k a c)); have D29 := Lib.hid ((D28.out.symm.step f S28.out).symm)
          clear s f C
          have e1 : opens (st ++ [2]) = [] := opens_all AC.out.snoc
          obtain ⟨MM, hMM⟩ : ∃ MM : Int, MM = ((st ++ [2]).length : Int) + 1 := ⟨_, rfl⟩
          have c := now_sd S29.out
          rw [e1, ← hMM] at c
          have C : Hid (Calls Try.prog 13 #[.pointer (some ⟨p, 0, none⟩)] w29 fun e w' => ∃ u c, e = .returned (.agg #[.int .i64 MM, .slice u 0 c]) ∧ Vo w' (.slice u 0 c) [] ∧ Kept w29 w' []) := Lib.hid c
          have C2 : Hid (∀ w, Sd w w2.heap.size q g Q29 (st ++ [2]) ks3 G3 → Calls Try.prog 13 #[.pointer (some ⟨q, 0, none⟩)] w fun e w' => ∃ u c, e = .returned (.agg #[.int .i64 MM, .slice u 0 c]) ∧ Vo w' (.slice u 0 c) [] ∧ Kept w w' []) := Lib.hid (fun w a => by
            have c := now_sd a
            rw [e1, ← hMM] at c
            exact c)
          clear c e1 hMM
          go_wp2_with fail
          refine C.out.mono ?_
          rintro e w30 ⟨u30, d30, rfl, vo, hk⟩
          have S30 := Lib.hid (S29.out.keep hk); have T30 := Lib.hid (T29.out.keep hk); have B30 := Lib.hid (B29.out.trans (hk.below (B := w2.heap.size) S29.out.size (by simp)))
          have c := scan_sd S30.out MM 0 u30 0 d30 [] vo (st.length + 1) ⟨LIM.out.1, LIM.out.2, by rw [← HI.out]; omega⟩
          have C3 := Lib.hid c
          clear vo hk C c
          go_wp2_with fail
          refine C3.out.mono ?_
          rintro e w31 ⟨sv, rfl, ho, hk⟩
          have S31 := Lib.hid (S30.out.keep hk); have T31 := Lib.hid (T30.out.keep hk); have B31 := Lib.hid (B30.out.trans (hk.below (B := w2.heap.size) S30.out.size (by simp)))
          obtain ⟨sa, sc, hsv⟩ := ownsRow_shape ho
          subst hsv
          obtain ⟨R, hR⟩ : ∃ R, R = scanR (sees (st ++ [2]) ⟨MM, [], 0⟩) ks3 G3 := ⟨_, rfl⟩
          rw [← hR] at ho ⊢
          have R31 := Lib.hid ho
          have HR := Lib.hid hR
          clear ho hk C3 hR
          go_wp2_with fail
          refine (C2.out w31 T31.out).mono ?_
          rintro e w32 ⟨u32, d32, rfl, vo, hk⟩
          have S32 := Lib.hid (S31.out.keep hk); have T32 := Lib.hid (T31.out.keep hk); have B32 := Lib.hid (B31.out.trans (hk.below (B := w2.heap.size) S31.out.size (by simp))); have R32 := Lib.hid (ownsRow_fr R31.out (Fr.ofKept hk 0 []) (by simp))
          have c := scan_sd T32.out MM 0 u32 0 d32 [] vo (st.length + 1) ⟨LIM.out.1, LIM.out.2, by rw [← HI.out]; omega⟩
          rw [← HR.out] at c
          have C3 := Lib.hid c
          clear vo hk C2 c
          go_wp2_with fail
          refine C3.out.mono ?_
          rintro e w33 ⟨sv, rfl, ho, hk⟩
          have S33 := Lib.hid (S32.out.keep hk); have T33 := Lib.hid (T32.out.keep hk); have B33 := Lib.hid (B32.out.trans (hk.below (B := w2.heap.size) S32.out.size (by simp))); have R33 := Lib.hid (ownsRow_fr R32.out (Fr.ofKept hk 0 []) (by simp))
          have c := lrows_same R33.out ho
          obtain ⟨ta, tc, htv⟩ := ownsRow_shape ho
          subst htv
          have C := Lib.hid c
          clear ho hk C3 c
          go_wp2_with fail
          refine C.out.mono ?_
          rintro e w34 ⟨rfl, hk⟩
          have S34 := Lib.hid (S33.out.keep hk); have T34 := Lib.hid (T33.out.keep hk); have B34 := Lib.hid (B33.out.trans (hk.below (B := w2.heap.size) S33.out.size (by simp)))
          clear hk C
          go_wp2
          go_roundw
          case rel => exact ⟨_, Q29, st ++ [2], ks3, G3, (by rw [List.length_append, ← HI.out]; rfl), (by rw [List.length_append, ← HI.out]; simp; omega), S34.out, T34.out, D29.out, AC.out.snoc, (by rw [List.length_append]; exact RIN.out), (by rw [List.length_append]; exact LIM.out), B34.out⟩
          case measure => simp [intOf]; omega

    · have x1 : ¬ (i : Int) < (len0 : Int) := by omega
      go_wp2
      go_ret
      exact ⟨rfl, (Kept.below K2.out (Nat.le_refl _) (by simp)).trans (BB.out.mono K2.out.size)⟩

set_option maxRecDepth 100000 in
theorem lifted (os : Os) (started : os.Started) (H : Type) (enc : TypeId × Value → H) :
    ReturnsInHanded {} Try.checked os 5 .any (Rows.heapRedoSpec.pre6 enc Try.prog Try.f5 Rows.heapRedoRow.domain false) (Rows.heapRedoSpec.post enc Try.prog Try.f5 false true false false) := by
  refine returnsInHanded_of_change (C := Try.checked) own started (by kernel_rfl) Try.func5
    (ChangeSpec.witness6 (enc := enc) (C := Try.checked) false ⟨#[], #[.slice none 0 0], []⟩ 8 (by kernel_rfl) (by kernel_rfl) (by kernel_rfl) (by kernel_rfl)) ?_
  intro W base args ds gs before hval0 hW hcnd _
  have hval : ∀ (j : Nat) t v, Try.f5.params[j]? = some t → args[j]? = some v → Value.okWide Try.prog W .any base t v := hval0
  have hW' := hW
  obtain ⟨p, q, hA0, hV, rfl, hfz, hnd⟩ := hW
  have hA : DataW.TrodAll enc Try.prog W 0 (fun _ => true) true Try.f5.params.toList args.toList ds p := hA0
  rw [Try.params5] at hA hval
  obtain ⟨v0, vs0, d0, ds0, p0, q0, hargs, rfl, rfl, h0, r0⟩ := trodAll_cons hA
  obtain ⟨rfl, rfl, rfl⟩ := trodAll_nil r0
  obtain rfl : args = #[v0] := by cases args; simp_all
  obtain ⟨rfl, rfl⟩ := trodVars_none hV
  obtain ⟨a0, len0, cap0, rfl⟩ := okWide_slice Try.underlying22 (hval 0 22 v0 rfl rfl)
  have k0 := h0
  have lt0 : ∀ x ∈ p0, x.block < W.heap.size := by obtain ⟨m, hm⟩ := k0; exact DataW.trod_lt m _ _ _ hm
  obtain ⟨z0, w0⟩ : ∃ f, IsActs W W.heap.size a0 len0 f ∧ len0 ≤ maxLen := by
    obtain ⟨fuel, hf⟩ := h0
    exact acts_open (by simpa [Value.cells] using hf)
  clear hA0 hval0
  refine (walk a0 len0 cap0 z0 W w0).mono fun e W' ⟨he, bel⟩ => ?_
  subst he
  exact ⟨_, rfl, _, _, _, [], _, [], hW', trodAll_mk1 (shut_bool Try.underlying4 _), (trodAll_cons_mk (Below.trod laidOut (by kernel_rfl) (of_decide_eq_true (by kernel_rfl)) k0 bel lt0) trodAll_mk0), rfl, bel.frame _, fun h => by cases h⟩

theorem over : Rows.heapRedoRow.holds Try.pinned (OpenSpec.ofChange Rows.heapRedoSpec) :=
  OpenClaim.holds_of_wide 5 Try.f5 rfl rfl rfl rfl rfl rfl rfl ⟨rfl, rfl, rfl, rfl, rfl⟩ rfl rfl rfl rfl rfl (by kernel_rfl) Try.func5 (by kernel_rfl)
    (of_decide_eq_true (by kernel_rfl)) (by unfold Func.isWrapper; first | (rw [if_pos (by decide +kernel)]; kernel_rfl) | (rw [if_neg (by decide +kernel)]; exact ⟨rfl, rfl⟩))
    (fun os started H enc _ => lifted os started H enc)

theorem proved : Rows.HeapRedoSaid :=
  over
end Go.Proofs.Ytpknnpdnhdcnjaa.heapRedo

namespace Go.Proofs.Ytpknnpdnhdcnjaa
theorem heapRedo_holds : Rows.HeapRedoSaid := heapRedo.proved
#print axioms heapRedo_holds
end Go.Proofs.Ytpknnpdnhdcnjaa

