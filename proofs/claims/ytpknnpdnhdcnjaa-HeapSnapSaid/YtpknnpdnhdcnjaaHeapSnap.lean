/-
  Proved: whatever the arguments are, carrierlaw07.HeapSnap answers true and leaves its arguments as they were. No condition.
-/
import Derived.Test.YtpknnpdnhdcnjaaHt
import Derived.Deep.RegionHeld3
namespace Go.Proofs.Ytpknnpdnhdcnjaa.heapSnap
open Go.ChangeShapes Go.WideShapes Go.ChangeAt Go.RowKit
set_option linter.unusedVariables false

theorem own : ownKnob Try.prog.godebug = none := by kernel_rfl
theorem laidOut : laidOutB Try.prog = true := by kernel_rfl

/-- What the first one lays. -/
def Inv1 (F : Int → List Vr) : Prop := ∀ k, ∀ r ∈ F k, r.birth = 1 ∧ r.death = 0

theorem put_inv1 {F : Int → List Vr} (h : Inv1 F) (E key : Int) (txt : ByteArray) : Inv1 (putF E key ⟨txt, 1, 0⟩ F) := by
  unfold putF
  split
  · intro k r hr
    by_cases e : k = key
    · subst e
      rw [updF_same] at hr
      rcases List.mem_append.1 hr with h1 | h1
      · exact h k r h1
      · simp at h1; subst h1; exact ⟨rfl, rfl⟩
    · rw [updF_other _ _ e] at hr; exact h k r hr
  · exact h

theorem Inv1.inv {F : Int → List Vr} (h : Inv1 F) : Inv F := fun k r hr => ⟨.inl (h k r hr).1, .inl (h k r hr).2⟩

section
variable {w : World} {B p h : Nat} {O : Nat → Prop} {st : List Nat} {ks : List Int} {F : Int → List Vr} {n : Nat}
theorem ins_first (a : Sd w B p h O st ks F) (hi : Inv1 F) (hl : Lim n ks F) (hn : n ≤ 900) (mx : Int) (u : Option Addr) (m c : Nat) (opl : List Int) (hv : Vo w (.slice u m c) opl) (key : Int) (txt : ByteArray) (hk : (Lit.int .i64 key).wf = true) :
    Calls Try.prog 14 #[.pointer (some ⟨h, 0, none⟩), .agg #[.int .i64 mx, .slice u m c, .int .i64 1], .agg #[.int .i64 key, .string txt]] w fun e w' => ∃ E, e = .returned (.int .i64 E) ∧ ∃ O' ks' F', Sd w' B p h O' st ks' F' ∧ Stp O O' w w' ∧ Inv1 F' ∧ Lim (n + 1) ks' F' := by
  refine (insert_sd a mx 1 u m c opl hv (by decide) key txt hk (by have := hl.1; omega) (by have := hl.2 key; omega)).mono ?_
  rintro e w' ⟨rfl, O', s, f⟩
  exact ⟨_, rfl, O', _, _, s, f, put_inv1 hi _ _ _, put_lim hl _ _ _⟩
end

theorem wf_mod9 (x : Int) : (Lit.int .i64 (x.tmod 9)).wf = true := by
  have h1 := Int.tmod_lt_of_pos x (by decide : (0 : Int) < 9)
  have h2 := Int.lt_tmod_of_pos x (by decide : (0 : Int) < 9)
  exact wf_i64 (by omega)

theorem cells5 {w w' : World} {g b o : Nat} {x y z k t : Value} (hk : Kept w w' []) (h : ((w.cell? ⟨g, 0, none⟩ = some x ∧ w.cell? ⟨g, 1, none⟩ = some y) ∧ w.cell? ⟨g, 2, none⟩ = some z) ∧ w.cell? ⟨b, o + 2, none⟩ = some k ∧ w.cell? ⟨b, o + 3, none⟩ = some t) :
    ((w'.cell? ⟨g, 0, none⟩ = some x ∧ w'.cell? ⟨g, 1, none⟩ = some y) ∧ w'.cell? ⟨g, 2, none⟩ = some z) ∧ w'.cell? ⟨b, o + 2, none⟩ = some k ∧ w'.cell? ⟨b, o + 3, none⟩ = some t :=
  ⟨⟨⟨hk.cell (p := ⟨g, 0, none⟩) (by simp) h.1.1.1, hk.cell (p := ⟨g, 1, none⟩) (by simp) h.1.1.2⟩, hk.cell (p := ⟨g, 2, none⟩) (by simp) h.1.2⟩, hk.cell (p := ⟨b, o + 2, none⟩) (by simp) h.2.1, hk.cell (p := ⟨b, o + 3, none⟩) (by simp) h.2.2⟩

theorem cells2 {w w' : World} {b o : Nat} {k t : Value} (hk : Kept w w' []) (h : w.cell? ⟨b, o + 2, none⟩ = some k ∧ w.cell? ⟨b, o + 3, none⟩ = some t) :
    w'.cell? ⟨b, o + 2, none⟩ = some k ∧ w'.cell? ⟨b, o + 3, none⟩ = some t :=
  ⟨hk.cell (p := ⟨b, o + 2, none⟩) (by simp) h.1, hk.cell (p := ⟨b, o + 3, none⟩) (by simp) h.2⟩

theorem st_new (st : List Nat) : stAt (st ++ [1]) ((st.length : Int) + 1) = 1 := by
  rw [stAt_nat (by simp)]
  simp
theorem st_set (st : List Nat) (s : Nat) : List.set (st ++ [1]) (((st.length : Int) + 1).toNat - 1) s = st ++ [s] := by
  rw [show ((st.length : Int) + 1).toNat - 1 = st.length by omega]
  simp
theorem st_one {st : List Nat} (h : stAt st 1 = 2) (s : Nat) : stAt (st ++ [s]) 1 = 2 := by
  have h1 := stAt_in (by rw [h]; decide : stAt st 1 ≠ 0)
  have e := stAt_nat (st := st) (i := 0) (by omega)
  have e2 := stAt_nat (st := st ++ [s]) (i := 0) (by simp)
  rw [show ((0 : Nat) : Int) + 1 = 1 from rfl] at e e2
  rw [e2, List.getElem_append_left (by omega), ← e, h]
theorem st_opens (st : List Nat) (s : Nat) (hs : s ≠ 1) : opens (st ++ [s]) = opens st := by
  rw [opens, opensFrom_append, opens]
  simp [opensFrom, hs]

theorem below_cell {w w' : World} {B : Nat} (h : Below B w w') {p : Addr} (hp : p.block < B) {v : Value} (hv : w.cell? p = some v) : w'.cell? p = some v :=
  (World.cell?_of_block (h.block p.block hp)).trans hv

set_option maxHeartbeats 8000000 in
set_option maxRecDepth 100000 in
theorem walk (a0 : Option Addr) (len0 cap0 : Nat) (f0 : Nat → ActD) (a1 : Option Addr) (len1 cap1 : Nat) (f1 : Nat → ActD) (W : World) (w0 : IsActs W W.heap.size a0 len0 f0 ∧ len0 ≤ maxLen) (w1 : IsActs W W.heap.size a1 len1 f1 ∧ len1 ≤ maxLen) :
    Calls Try.prog 3 #[.slice a0 len0 cap0, .slice a1 len1 cap1] W fun e w' => e = .returned (.bool true) ∧ Below W.heap.size W w' := by
  have A0 := Lib.hid w0; have A1 := Lib.hid w1
  clear w0 w1
  go_enter Try.func3, Try.ntmps3
  go_wp2_with fail
  refine (clash_any W).mono ?_
  rintro e w2 ⟨rfl, hk⟩
  have K2 := Lib.hid hk
  have sm0 := Lib.hid (small_any (cap := cap0) (A0.out.1.below (Kept.below hk (Nat.le_refl _) (by simp))) A0.out.2)
  have sm1 := Lib.hid (small_any (cap := cap1) (A1.out.1.below (Kept.below hk (Nat.le_refl _) (by simp))) A1.out.2)
  clear hk
  go_wp2_with fail
  refine sm0.out.mono ?_
  rintro e w3 ⟨s0, rfl, h80, rfl⟩
  cases s0
  · go_wp2_with fail
    refine (clash_any w2).mono ?_
    rintro e w4 ⟨rfl, hk⟩
    have K4 := Lib.hid (K2.out.trans hk (by simp))
    clear hk
    go_wp2
    go_ret
    exact ⟨rfl, K4.out.below (Nat.le_refl _) (by simp)⟩
  have L0 := Lib.hid (h80 rfl)
  clear h80
  go_wp2_with fail
  refine sm1.out.mono ?_
  rintro e w3 ⟨s1, rfl, h80, rfl⟩
  cases s1
  · go_wp2_with fail
    refine (clash_any w2).mono ?_
    rintro e w4 ⟨rfl, hk⟩
    have K4 := Lib.hid (K2.out.trans hk (by simp))
    clear hk
    go_wp2
    go_ret
    exact ⟨rfl, K4.out.below (Nat.le_refl _) (by simp)⟩
  have L1 := Lib.hid (h80 rfl)
  have hl0 : len0 ≤ 80 := L0.out
  have hl1 : len1 ≤ 80 := L1.out
  clear h80
  go_wp2_with fail
  refine (mnew_any w2).mono ?_
  rintro e w3 ⟨p, b, v1, rfl, hm, hk⟩
  have M3 := Lib.hid hm; have K3 := Lib.hid hk
  clear hm hk
  go_wp2_with fail
  refine (hnew_sd M3.out).mono ?_
  rintro e w4 ⟨h, O4, rfl, s, hk, _⟩
  have S4 := Lib.hid s; have B4 := Lib.hid (show Below w2.heap.size w2 w4 from (K3.out.trans hk (by simp)).below (Nat.le_refl _) (by simp))
  clear s hk
  have c : Calls Try.prog 12 #[.pointer (some ⟨p, 0, none⟩)] w4 fun e w' => e = .returned (.tuple #[.int .i64 1, .int .i64 0]) ∧ ∃ O', Sd w' w2.heap.size p h O' [1] [] (fun _ => []) ∧ Stp O4 O' w4 w' := begin_sd S4.out (by decide) (by decide)
  go_wp2_with fail
  refine c.mono ?_
  rintro e w5 ⟨rfl, O5, s, f⟩
  have S5 := Lib.hid s; have B5 := Lib.hid (B4.out.trans (S4.out.below f.1))
  clear s f c
  have c : Calls Try.prog 13 #[.pointer (some ⟨p, 0, none⟩)] w5 fun e w' => ∃ u c, e = .returned (.agg #[.int .i64 2, .slice u 1 c]) ∧ Vo w' (.slice u 1 c) [1] ∧ Kept w5 w' [] := now_sd S5.out
  go_wp2_with fail
  refine c.mono ?_
  rintro e x6 ⟨u6, d6, rfl, vo, hk⟩
  obtain ⟨w6, hW⟩ : ∃ w6, w6 = x6.alloc (.cells #[.int .i64 2, .slice u6 1 d6, .int .i64 1] 37) := ⟨_, rfl⟩
  obtain ⟨g1, hg⟩ : ∃ g1, g1 = x6.heap.size := ⟨_, rfl⟩
  have V6 : Hid (Bv w6 g1 2 1 (.slice u6 1 d6) [1]) := Lib.hid (by rw [hW, hg]; exact Bv.make vo)
  have k : Kept w5 w6 [] := by rw [hW]; exact hk.alloc _
  have S6 := Lib.hid (S5.out.keep k); have B6 := Lib.hid (B5.out.trans (k.below (B := w2.heap.size) S5.out.size (by simp)))
  clear vo hk k c
  go_wp2
  rw [← hW, ← hg]
  clear hW hg
  go_loopw [10] (fun t wr => ∃ (i : Nat) (O : Nat → Prop) (ks : List Int) (F : Int → List Vr), t = .int .i64 i ∧ i ≤ len0 ∧ Sd wr w2.heap.size p h O [1] ks F ∧ Inv1 F ∧ Lim i ks F ∧ Bv wr g1 2 1 (.slice u6 1 d6) [1] ∧ Below w2.heap.size w2 wr) (fun t _ => len0 - (intOf t).toNat)
  case atStart => exact ⟨0, O5, [], _, rfl, Nat.zero_le _, S6.out, fun _ _ h => by simp at h, ⟨by simp, by simp⟩, V6.out, B6.out⟩
  case round =>
    obtain ⟨i, O, ks, F, rfl, hi, hs, hinv, hlim, hv, hb⟩ := hrel
    have S := Lib.hid hs; have IV := Lib.hid hinv; have LM := Lib.hid hlim; have V := Lib.hid hv; have BW := Lib.hid hb
    have KW := Lib.hid (Kept.ofBelow ((Kept.below K2.out (Nat.le_refl _) (by simp)).trans (hb.mono K2.out.size)) [])
    clear hs hinv hlim hv hb S4 S5 S6 V6 B4 B5 B6
    by_cases hlt : i < len0
    · obtain ⟨ab, ao, rfl, hx⟩ := A0.out.1 (by omega)
      have X := hx i hlt
      generalize f0 i = x at X
      obtain ⟨d, who, key, txt⟩ := x
      have Y := X.frame KW.out
      have y2 := Y.c2; have y3 := Y.c3
      have abl : ab < W.heap.size := World.block_lt_of_cell? W _ X.c0
      simp only at y2 y3
      obtain ⟨z0, z1, z2⟩ := V.out.cells
      have x1 : (i : Int) < (len0 : Int) := by omega
      have HI := Lib.hid (fun U (hU : Kept wr U []) => ins_first (S.out.keep hU) IV.out LM.out (by omega) 2 u6 1 d6 [1] (V.out.keep hU).2 (key.tmod 9) txt (wf_mod9 key))
      have yy : ((wr.cell? ⟨g1, 0, none⟩ = some (.int .i64 2) ∧ wr.cell? ⟨g1, 1, none⟩ = some (.slice u6 1 d6)) ∧ wr.cell? ⟨g1, 2, none⟩ = some (.int .i64 1)) ∧ wr.cell? ⟨ab, ao + i * 4 + 2, none⟩ = some (.int .i64 key) ∧ wr.cell? ⟨ab, ao + i * 4 + 3, none⟩ = some (.string txt) := ⟨⟨⟨z0, z1⟩, z2⟩, y2, y3⟩
      have YY := Lib.hid yy
      have k8 : Kept wr wr.drew [] := (Kept.refl wr []).drew
      have yy := cells5 k8 YY.out
      have AB := Lib.hid abl
      clear X Y hx y2 y3 z0 z1 z2 abl
      go_wp2_with fail
      go_region_held3 (fun U => ((U.cell? ⟨g1, 0, none⟩ = some (.int .i64 2) ∧ U.cell? ⟨g1, 1, none⟩ = some (.slice u6 1 d6)) ∧ U.cell? ⟨g1, 2, none⟩ = some (.int .i64 1)) ∧ U.cell? ⟨ab, ao + i * 4 + 2, none⟩ = some (.int .i64 key) ∧ U.cell? ⟨ab, ao + i * 4 + 3, none⟩ = some (.string txt)) (exact yy)
        (first
          | (go_at_call 14; refine (HI.out _ ?_).mono ?_; exact k8; rintro e w8 ⟨E, rfl, O', ks', F', s8, f8, i8, l8⟩; have S8 := Lib.hid s8; have F8 := Lib.hid f8; have I8 := Lib.hid i8; have L8 := Lib.hid l8; have V8 := Lib.hid ((V.out.keep k8).fo (S.out.keep k8) f8.1); have B8 := Lib.hid ((BW.out.trans (k8.below (B := w2.heap.size) S.out.size (by simp))).trans ((S.out.keep k8).below f8.1)); have yy := And.intro (And.intro (And.intro V8.out.cells.1 V8.out.cells.2.1) V8.out.cells.2.2) (And.intro (below_cell ((S.out.keep k8).below f8.1) (p := ⟨ab, ao + i * 4 + 2, none⟩) (Nat.lt_of_lt_of_le AB.out K2.out.size) yy.2.1) (below_cell ((S.out.keep k8).below f8.1) (p := ⟨ab, ao + i * 4 + 3, none⟩) (Nat.lt_of_lt_of_le AB.out K2.out.size) yy.2.2))))
      clear s8 f8 i8 l8 yy k8
      go_wp2
      go_roundw
      case rel => exact ⟨i + 1, O', ks', F', by go_num, by omega, S8.out, I8.out, L8.out, V8.out, B8.out⟩
      case measure => simp [intOf]; omega
    · have x1 : ¬ (i : Int) < (len0 : Int) := by omega
      have hil : i ≤ 80 := by omega
      have c : Calls Try.prog 15 #[.pointer (some ⟨p, 0, none⟩), .int .i64 1] wr fun e w' => e = .returned (.int .i64 0) ∧ Sd w' w2.heap.size p h O [2] ks F ∧ Stp O O wr w' := commit_sd S.out 1 (by decide) (by decide)
      go_wp2_with fail
      refine c.mono ?_
      rintro e w10 ⟨rfl, s, f⟩
      have S10 := Lib.hid s; have B10 := Lib.hid (BW.out.trans (S.out.below f.1))
      clear s f c
      have c : Calls Try.prog 12 #[.pointer (some ⟨p, 0, none⟩)] w10 fun e w' => e = .returned (.tuple #[.int .i64 2, .int .i64 0]) ∧ ∃ O', Sd w' w2.heap.size p h O' [2, 1] ks F ∧ Stp O O' w10 w' := begin_sd S10.out (by decide) (by decide)
      go_wp2_with fail
      refine c.mono ?_
      rintro e w11 ⟨rfl, O11, s, f⟩
      have S11 := Lib.hid s; have B11 := Lib.hid (B10.out.trans (S10.out.below f.1))
      clear s f c
      have c : Calls Try.prog 13 #[.pointer (some ⟨p, 0, none⟩)] w11 fun e w' => ∃ u c, e = .returned (.agg #[.int .i64 3, .slice u 1 c]) ∧ Vo w' (.slice u 1 c) [2] ∧ Kept w11 w' [] := now_sd S11.out
      go_wp2_with fail
      refine c.mono ?_
      rintro e x12 ⟨u12, d12, rfl, vo, hk⟩
      obtain ⟨w12, hW⟩ : ∃ w12, w12 = x12.alloc (.cells #[.int .i64 3, .slice u12 1 d12, .int .i64 2] 37) := ⟨_, rfl⟩
      obtain ⟨g2, hg⟩ : ∃ g2, g2 = x12.heap.size := ⟨_, rfl⟩
      have V12 : Hid (Bv w12 g2 3 2 (.slice u12 1 d12) [2]) := Lib.hid (by rw [hW, hg]; exact Bv.make vo)
      have k : Kept w11 w12 [] := by rw [hW]; exact hk.alloc _
      have S12 := Lib.hid (S11.out.keep k); have B12 := Lib.hid (B11.out.trans (k.below (B := w2.heap.size) S11.out.size (by simp)))
      obtain ⟨R0, hR0⟩ : ∃ R0, R0 = scanF P0 ks F := ⟨_, rfl⟩
      have HR0 := Lib.hid hR0
      have cs := scan_sd S12.out 3 2 u12 1 d12 [2] V12.out.2 i ⟨LM.out.1, LM.out.2, by omega⟩
      rw [sees_P0 (by decide : stAt [2, 1] 1 = 2), scanR_eq, ← hR0] at cs
      have CS := Lib.hid cs
      clear vo hk k c cs hR0
      go_wp2_with fail
      rw [← hW, ← hg]
      clear hW hg
      refine CS.out.mono ?_
      rintro e w13 ⟨was, rfl, ho, hk⟩
      obtain ⟨wa, wc, hwas⟩ := ownsRow_shape ho
      subst hwas
      have S13 := Lib.hid (S12.out.keep hk); have V13 := Lib.hid (V12.out.keep hk); have B13 := Lib.hid (B12.out.trans (hk.below (B := w2.heap.size) S12.out.size (by simp)))
      have WAS := Lib.hid (ownsRow_low ho (Nat.zero_le _))
      obtain ⟨rn, hrn⟩ : ∃ rn, R0.length = rn := ⟨_, rfl⟩
      have HRN := Lib.hid hrn
      rw [hrn] at WAS ⊢
      clear ho hk hrn
      go_wp2
      go_loopw [15, 16, 17, 18, 19] (fun t _ _ _ _ wr => ∃ (j : Nat) (O : Nat → Prop) (st : List Nat) (ks : List Int) (F : Int → List Vr), t = .int .i64 j ∧ j ≤ len1 ∧ Sd wr w2.heap.size p h O st ks F ∧ st.length = 2 + j ∧ stAt st 1 = 2 ∧ opens st = [2] ∧ Inv F ∧ Lim (i + j) ks F ∧ scanF P0 ks F = R0 ∧ Bv wr g2 3 2 (.slice u12 1 d12) [2] ∧ wr.ownsRow 0 42 2 (.slice wa rn wc) rn (rcl R0) ∧ Below w2.heap.size w2 wr) (fun t _ _ _ _ _ => len1 - (intOf t).toNat)
      case atStart => exact ⟨0, O11, [2, 1], ks, F, rfl, Nat.zero_le _, S13.out, rfl, by decide, by decide, IV.out.inv, LM.out, HR0.out.symm, V13.out, WAS.out, B13.out⟩
      case round =>
        obtain ⟨j, O2, st, ks2, G, rfl, hj, hs, hln, hst, hop, hinv, hlim, hsc, hv, hwas, hb⟩ := hrel
        have T := Lib.hid hs; have IG := Lib.hid hinv; have LG := Lib.hid hlim; have SC := Lib.hid hsc; have VV := Lib.hid hv; have WW := Lib.hid hwas; have BB := Lib.hid hb
        have HLN := Lib.hid hln; have HST := Lib.hid hst; have HOP := Lib.hid hop
        have KW2 := Lib.hid (Kept.ofBelow ((Kept.below K2.out (Nat.le_refl _) (by simp)).trans (hb.mono K2.out.size)) [])
        clear hs hln hst hop hinv hlim hsc hv hwas hb S10 S11 S12 S13 V12 V13 B10 B11 B12 B13 WAS CS
        by_cases hlt2 : j < len1
        · obtain ⟨cb, co, rfl, hx⟩ := A1.out.1 (by omega)
          have X := hx j hlt2
          generalize f1 j = x at X
          obtain ⟨d, who, key, txt⟩ := x
          have cbl : cb < W.heap.size := World.block_lt_of_cell? W _ X.c0
          have CBL := Lib.hid cbl
          have XX := Lib.hid X
          have x2 : (j : Int) < (len1 : Int) := by omega
          obtain ⟨N, hN⟩ : ∃ N : Int, N = (st.length : Int) + 1 := ⟨_, rfl⟩
          have h3N : 3 ≤ N := by rw [hN, HLN.out]; omega
          have hNw : (Lit.int .i64 N).wf = true := by rw [hN, HLN.out]; exact wf_i64 (by omega)
          have c := begin_sd T.out (by rw [HOP.out]; decide) (by rw [HLN.out]; omega)
          rw [← hN] at c
          have HNN := Lib.hid hN; have H3N := Lib.hid h3N; have HNW := Lib.hid hNw
          clear hx X cbl hN h3N hNw
          go_wp2_with fail
          refine c.mono ?_
          rintro e w20 ⟨rfl, O20, s, f⟩
          have S20 := Lib.hid s; have B20 := Lib.hid (BB.out.trans (T.out.below f.1)); have V20 := Lib.hid (VV.out.fo T.out f.1); have W20 := Lib.hid (T.out.row f.1 WW.out (by decide))
          clear s f c
          have c := now_sd S20.out
          obtain ⟨M, hM⟩ : ∃ M : Int, M = ((st ++ [1]).length : Int) + 1 := ⟨_, rfl⟩
          obtain ⟨OL, hOL⟩ : ∃ OL, OL = opens (st ++ [1]) := ⟨_, rfl⟩
          obtain ⟨m, hm⟩ : ∃ m, m = OL.length := ⟨_, rfl⟩
          rw [← hM, ← hOL, ← hm] at c
          clear hM hOL hm
          go_wp2_with fail
          refine c.mono ?_
          rintro e x21 ⟨u21, d21, rfl, vo, hk⟩
          obtain ⟨w21, hW⟩ : ∃ w21, w21 = x21.alloc (.cells #[.int .i64 M, .slice u21 m d21, .int .i64 N] 37) := ⟨_, rfl⟩
          obtain ⟨g3, hg⟩ : ∃ g3, g3 = x21.heap.size := ⟨_, rfl⟩
          have U21 : Hid (Bv w21 g3 M N (.slice u21 m d21) OL) := Lib.hid (by rw [hW, hg]; exact Bv.make vo)
          have k : Kept w20 w21 [] := by rw [hW]; exact hk.alloc _
          have S21 := Lib.hid (S20.out.keep k); have B21 := Lib.hid (B20.out.trans (k.below (B := w2.heap.size) S20.out.size (by simp))); have V21 := Lib.hid (V20.out.keep k); have W21 := Lib.hid (ownsRow_fr W20.out (Fr.ofKept k 0 []) (by simp))
          have YA := Lib.hid (XX.out.frame (Kept.ofBelow ((Kept.below K2.out (Nat.le_refl _) (by simp)).trans (B21.out.mono K2.out.size)) []))
          have y2 := YA.out.c2; have y3 := YA.out.c3
          simp only at y2 y3
          have yy : w21.drew.cell? ⟨cb, co + j * 4 + 2, none⟩ = some (.int .i64 key) ∧ w21.drew.cell? ⟨cb, co + j * 4 + 3, none⟩ = some (.string txt) := ⟨y2, y3⟩
          have yy1 : (w21.alloc (.cells #[.int .i64 0, .string ⟨#[]⟩] 42)).drew.cell? ⟨cb, co + j * 4 + 2, none⟩ = some (.int .i64 key) ∧ (w21.alloc (.cells #[.int .i64 0, .string ⟨#[]⟩] 42)).drew.cell? ⟨cb, co + j * 4 + 3, none⟩ = some (.string txt) := cells2 (((Kept.refl w21 []).alloc _).drew) ⟨y2, y3⟩
          have yy2 : (w21.alloc (.cells #[.int .i64 (key.tmod 9), .string txt] 42)).drew.cell? ⟨cb, co + j * 4 + 2, none⟩ = some (.int .i64 key) ∧ (w21.alloc (.cells #[.int .i64 (key.tmod 9), .string txt] 42)).drew.cell? ⟨cb, co + j * 4 + 3, none⟩ = some (.string txt) := cells2 (((Kept.refl w21 []).alloc _).drew) ⟨y2, y3⟩
          clear vo hk k c y2 y3
          go_wp2_with fail
          rw [← hW, ← hg]
          clear hW hg
          go_region_held3 (fun U => U.cell? ⟨cb, co + j * 4 + 2, none⟩ = some (.int .i64 key) ∧ U.cell? ⟨cb, co + j * 4 + 3, none⟩ = some (.string txt)) (first | exact yy | exact yy1 | exact yy2 | go_keep) (fail)
          obtain ⟨w22, hW2⟩ : ∃ w22, w22 = (w21.alloc (.cells #[.int .i64 (key.tmod 9), .string txt] 42)).drew := ⟨_, rfl⟩
          obtain ⟨rb, hrb⟩ : ∃ rb, rb = w21.heap.size := ⟨_, rfl⟩
          have RB : Hid (w22.heap[rb]? = some (.cells #[.int .i64 (key.tmod 9), .string txt] 42 (0, 0))) := Lib.hid (by rw [hW2, hrb]; exact heap_alloc_new w21 _)
          have k : Kept w21 w22 [] := by rw [hW2]; exact ((Kept.refl w21 []).alloc _).drew
          have S22 := Lib.hid (S21.out.keep k); have B22 := Lib.hid (B21.out.trans (k.below (B := w2.heap.size) S21.out.size (by simp))); have V22 := Lib.hid (V21.out.keep k); have U22 := Lib.hid (U21.out.keep k); have W22 := Lib.hid (ownsRow_fr W21.out (Fr.ofKept k 0 []) (by simp))
          have XB : Hid (∀ U : World, Below w2.heap.size w2 U → ActAt U cb (co + j * 4) ⟨d, who, key, txt⟩) := Lib.hid (fun U hU => XX.out.frame (Kept.ofBelow ((Kept.below K2.out (Nat.le_refl _) (by simp)).trans (hU.mono K2.out.size)) []))
          have y0 := (XB.out w22 B22.out).c0
          simp only at y0
          obtain ⟨z0, z1, z2⟩ := U22.out.cells
          have r0 : w22.cell? ⟨rb, 0, none⟩ = some (.int .i64 (key.tmod 9)) := by rw [cell_of_row _ _ 0 _ _ _ RB.out]; rfl
          have r1 : w22.cell? ⟨rb, 1, none⟩ = some (.string txt) := by rw [cell_of_row _ _ 1 _ _ _ RB.out]; rfl
          have hij : i + j ≤ 900 := by omega
          have HIJ := Lib.hid hij
          have hd4 : (d : Int) % 4 = 0 ∨ (d : Int) % 4 = 1 ∨ (d : Int) % 4 = 2 ∨ (d : Int) % 4 = 3 := by omega
          have t4 : (d : Int).tmod 4 = (d : Int) % 4 := Int.tmod_eq_emod_of_nonneg (by omega)
          have hw3 : (who : Int) % 3 = 0 ∨ ¬ (who : Int) % 3 = 0 := by omega
          have t3 : (who : Int).tmod 3 = (who : Int) % 3 := Int.tmod_eq_emod_of_nonneg (by omega)
          rw [← hW2, ← hrb]
          clear hW2 hrb k yy yy1 yy2
          rcases hd4 with hd | hd | hd | hd
          · rw [hd] at t4
            have c := ins_round S22.out IG.out LG.out HIJ.out M N u21 m d21 OL U22.out.2 HNW.out H3N.out (key.tmod 9) txt (wf_mod9 key)
            have C := Lib.hid c
            clear c
            go_wp2_with fail
            refine C.out.mono ?_
            rintro e w23 ⟨E, rfl, O23, ks3, G3, s, f, nx⟩
            have S23 := Lib.hid s; have NX := Lib.hid nx; have B23 := Lib.hid (B22.out.trans (S22.out.below f.1)); have V23 := Lib.hid (V22.out.fo S22.out f.1); have W23 := Lib.hid (S22.out.row f.1 W22.out (by decide))
            clear s f nx C z0 z1 z2 r0 r1 y0
            have y1 := (XB.out w23 B23.out).c1
            simp only at y1
            obtain ⟨z0, z1, z2⟩ := V23.out.cells
            rcases hw3 with hw | hw
            · rw [hw] at t3
              have c := abort_sd S23.out N HNW.out (by rw [HNN.out]; exact st_new st)
              rw [show List.set (st ++ [1]) (N.toNat - 1) 3 = st ++ [3] by rw [HNN.out]; exact st_set st 3] at c
              have C := Lib.hid c
              clear c
              go_wp2_with fail
              refine C.out.mono ?_
              rintro e w24 ⟨rfl, s, f⟩
              have S24 := Lib.hid s; have B24 := Lib.hid (B23.out.trans (S23.out.below f.1)); have V24 := Lib.hid (V23.out.fo S23.out f.1); have W24 := Lib.hid (S23.out.row f.1 W23.out (by decide))
              clear s f C z0 z1 z2 y1
              obtain ⟨z0, z1, z2⟩ := V24.out.cells
              have hst2 : stAt (st ++ [3]) 1 = 2 := st_one HST.out 3
              have c := scan_sd S24.out 3 2 u12 1 d12 [2] V24.out.2 (i + j + 1) ⟨NX.out.lim.1, NX.out.lim.2, by omega⟩
              rw [sees_P0 hst2, scanR_eq, NX.out.scan, SC.out] at c
              have C := Lib.hid c; have HS2 := Lib.hid hst2
              clear c hst2
              go_wp2_with fail
              refine C.out.mono ?_
              rintro e w25 ⟨sv, rfl, ho, hk⟩
              have S25 := Lib.hid (S24.out.keep hk); have B25 := Lib.hid (B24.out.trans (hk.below (B := w2.heap.size) S24.out.size (by simp))); have V25 := Lib.hid (V24.out.keep hk); have W25 := Lib.hid (ownsRow_fr W24.out (Fr.ofKept hk 0 []) (by simp))
              have c := lrows_same ho (show w25.ownsRow 0 42 2 (.slice wa rn wc) R0.length (rcl R0) by rw [HRN.out]; exact W25.out)
              obtain ⟨qa, qc, hqs⟩ := ownsRow_shape ho
              subst hqs
              have C := Lib.hid c
              clear ho hk c z0 z1 z2
              go_wp2_with fail
              refine C.out.mono ?_
              rintro e w26 ⟨rfl, hk⟩
              have S26 := Lib.hid (S25.out.keep hk); have B26 := Lib.hid (B25.out.trans (hk.below (B := w2.heap.size) S25.out.size (by simp))); have V26 := Lib.hid (V25.out.keep hk); have W26 := Lib.hid (ownsRow_fr W25.out (Fr.ofKept hk 0 []) (by simp))
              clear hk C
              go_wp2
              go_roundw
              case rel => exact ⟨j + 1, O23, st ++ [3], ks3, G3, by go_num, by omega, S26.out, by rw [List.length_append, HLN.out]; rfl, HS2.out, (st_opens st 3 (by decide)).trans HOP.out, NX.out.inv, NX.out.lim, NX.out.scan.trans SC.out, V26.out, W26.out, B26.out⟩
              case measure => simp [intOf]; omega
            · have t3' : ¬ (who : Int).tmod 3 = 0 := by omega
              have c := commit_sd S23.out N HNW.out (by rw [HNN.out]; exact st_new st)
              rw [show List.set (st ++ [1]) (N.toNat - 1) 2 = st ++ [2] by rw [HNN.out]; exact st_set st 2] at c
              have C := Lib.hid c
              clear c
              go_wp2_with fail
              refine C.out.mono ?_
              rintro e w24 ⟨rfl, s, f⟩
              have S24 := Lib.hid s; have B24 := Lib.hid (B23.out.trans (S23.out.below f.1)); have V24 := Lib.hid (V23.out.fo S23.out f.1); have W24 := Lib.hid (S23.out.row f.1 W23.out (by decide))
              clear s f C z0 z1 z2 y1
              obtain ⟨z0, z1, z2⟩ := V24.out.cells
              have hst2 : stAt (st ++ [2]) 1 = 2 := st_one HST.out 2
              have c := scan_sd S24.out 3 2 u12 1 d12 [2] V24.out.2 (i + j + 1) ⟨NX.out.lim.1, NX.out.lim.2, by omega⟩
              rw [sees_P0 hst2, scanR_eq, NX.out.scan, SC.out] at c
              have C := Lib.hid c; have HS2 := Lib.hid hst2
              clear c hst2
              go_wp2_with fail
              refine C.out.mono ?_
              rintro e w25 ⟨sv, rfl, ho, hk⟩
              have S25 := Lib.hid (S24.out.keep hk); have B25 := Lib.hid (B24.out.trans (hk.below (B := w2.heap.size) S24.out.size (by simp))); have V25 := Lib.hid (V24.out.keep hk); have W25 := Lib.hid (ownsRow_fr W24.out (Fr.ofKept hk 0 []) (by simp))
              have c := lrows_same ho (show w25.ownsRow 0 42 2 (.slice wa rn wc) R0.length (rcl R0) by rw [HRN.out]; exact W25.out)
              obtain ⟨qa, qc, hqs⟩ := ownsRow_shape ho
              subst hqs
              have C := Lib.hid c
              clear ho hk c z0 z1 z2
              go_wp2_with fail
              refine C.out.mono ?_
              rintro e w26 ⟨rfl, hk⟩
              have S26 := Lib.hid (S25.out.keep hk); have B26 := Lib.hid (B25.out.trans (hk.below (B := w2.heap.size) S25.out.size (by simp))); have V26 := Lib.hid (V25.out.keep hk); have W26 := Lib.hid (ownsRow_fr W25.out (Fr.ofKept hk 0 []) (by simp))
              clear hk C
              go_wp2
              go_roundw
              case rel => exact ⟨j + 1, O23, st ++ [2], ks3, G3, by go_num, by omega, S26.out, by rw [List.length_append, HLN.out]; rfl, HS2.out, (st_opens st 2 (by decide)).trans HOP.out, NX.out.inv, NX.out.lim, NX.out.scan.trans SC.out, V26.out, W26.out, B26.out⟩
              case measure => simp [intOf]; omega
          · rw [hd] at t4
            have c := upd_round S22.out IG.out LG.out HIJ.out M N u21 m d21 OL U22.out.2 HNW.out H3N.out (key.tmod 9) txt (wf_mod9 key)
            have C := Lib.hid c
            clear c
            go_wp2_with fail
            refine C.out.mono ?_
            rintro e w23 ⟨E, rfl, O23, ks3, G3, s, f, nx⟩
            have S23 := Lib.hid s; have NX := Lib.hid nx; have B23 := Lib.hid (B22.out.trans (S22.out.below f.1)); have V23 := Lib.hid (V22.out.fo S22.out f.1); have W23 := Lib.hid (S22.out.row f.1 W22.out (by decide))
            clear s f nx C z0 z1 z2 r0 r1 y0
            have y1 := (XB.out w23 B23.out).c1
            simp only at y1
            obtain ⟨z0, z1, z2⟩ := V23.out.cells
            rcases hw3 with hw | hw
            · rw [hw] at t3
              have c := abort_sd S23.out N HNW.out (by rw [HNN.out]; exact st_new st)
              rw [show List.set (st ++ [1]) (N.toNat - 1) 3 = st ++ [3] by rw [HNN.out]; exact st_set st 3] at c
              have C := Lib.hid c
              clear c
              go_wp2_with fail
              refine C.out.mono ?_
              rintro e w24 ⟨rfl, s, f⟩
              have S24 := Lib.hid s; have B24 := Lib.hid (B23.out.trans (S23.out.below f.1)); have V24 := Lib.hid (V23.out.fo S23.out f.1); have W24 := Lib.hid (S23.out.row f.1 W23.out (by decide))
              clear s f C z0 z1 z2 y1
              obtain ⟨z0, z1, z2⟩ := V24.out.cells
              have hst2 : stAt (st ++ [3]) 1 = 2 := st_one HST.out 3
              have c := scan_sd S24.out 3 2 u12 1 d12 [2] V24.out.2 (i + j + 1) ⟨NX.out.lim.1, NX.out.lim.2, by omega⟩
              rw [sees_P0 hst2, scanR_eq, NX.out.scan, SC.out] at c
              have C := Lib.hid c; have HS2 := Lib.hid hst2
              clear c hst2
              go_wp2_with fail
              refine C.out.mono ?_
              rintro e w25 ⟨sv, rfl, ho, hk⟩
              have S25 := Lib.hid (S24.out.keep hk); have B25 := Lib.hid (B24.out.trans (hk.below (B := w2.heap.size) S24.out.size (by simp))); have V25 := Lib.hid (V24.out.keep hk); have W25 := Lib.hid (ownsRow_fr W24.out (Fr.ofKept hk 0 []) (by simp))
              have c := lrows_same ho (show w25.ownsRow 0 42 2 (.slice wa rn wc) R0.length (rcl R0) by rw [HRN.out]; exact W25.out)
              obtain ⟨qa, qc, hqs⟩ := ownsRow_shape ho
              subst hqs
              have C := Lib.hid c
              clear ho hk c z0 z1 z2
              go_wp2_with fail
              refine C.out.mono ?_
              rintro e w26 ⟨rfl, hk⟩
              have S26 := Lib.hid (S25.out.keep hk); have B26 := Lib.hid (B25.out.trans (hk.below (B := w2.heap.size) S25.out.size (by simp))); have V26 := Lib.hid (V25.out.keep hk); have W26 := Lib.hid (ownsRow_fr W25.out (Fr.ofKept hk 0 []) (by simp))
              clear hk C
              go_wp2
              go_roundw
              case rel => exact ⟨j + 1, O23, st ++ [3], ks3, G3, by go_num, by omega, S26.out, by rw [List.length_append, HLN.out]; rfl, HS2.out, (st_opens st 3 (by decide)).trans HOP.out, NX.out.inv, NX.out.lim, NX.out.scan.trans SC.out, V26.out, W26.out, B26.out⟩
              case measure => simp [intOf]; omega
            · have t3' : ¬ (who : Int).tmod 3 = 0 := by omega
              have c := commit_sd S23.out N HNW.out (by rw [HNN.out]; exact st_new st)
              rw [show List.set (st ++ [1]) (N.toNat - 1) 2 = st ++ [2] by rw [HNN.out]; exact st_set st 2] at c
              have C := Lib.hid c
              clear c
              go_wp2_with fail
              refine C.out.mono ?_
              rintro e w24 ⟨rfl, s, f⟩
              have S24 := Lib.hid s; have B24 := Lib.hid (B23.out.trans (S23.out.below f.1)); have V24 := Lib.hid (V23.out.fo S23.out f.1); have W24 := Lib.hid (S23.out.row f.1 W23.out (by decide))
              clear s f C z0 z1 z2 y1
              obtain ⟨z0, z1, z2⟩ := V24.out.cells
              have hst2 : stAt (st ++ [2]) 1 = 2 := st_one HST.out 2
              have c := scan_sd S24.out 3 2 u12 1 d12 [2] V24.out.2 (i + j + 1) ⟨NX.out.lim.1, NX.out.lim.2, by omega⟩
              rw [sees_P0 hst2, scanR_eq, NX.out.scan, SC.out] at c
              have C := Lib.hid c; have HS2 := Lib.hid hst2
              clear c hst2
              go_wp2_with fail
              refine C.out.mono ?_
              rintro e w25 ⟨sv, rfl, ho, hk⟩
              have S25 := Lib.hid (S24.out.keep hk); have B25 := Lib.hid (B24.out.trans (hk.below (B := w2.heap.size) S24.out.size (by simp))); have V25 := Lib.hid (V24.out.keep hk); have W25 := Lib.hid (ownsRow_fr W24.out (Fr.ofKept hk 0 []) (by simp))
              have c := lrows_same ho (show w25.ownsRow 0 42 2 (.slice wa rn wc) R0.length (rcl R0) by rw [HRN.out]; exact W25.out)
              obtain ⟨qa, qc, hqs⟩ := ownsRow_shape ho
              subst hqs
              have C := Lib.hid c
              clear ho hk c z0 z1 z2
              go_wp2_with fail
              refine C.out.mono ?_
              rintro e w26 ⟨rfl, hk⟩
              have S26 := Lib.hid (S25.out.keep hk); have B26 := Lib.hid (B25.out.trans (hk.below (B := w2.heap.size) S25.out.size (by simp))); have V26 := Lib.hid (V25.out.keep hk); have W26 := Lib.hid (ownsRow_fr W25.out (Fr.ofKept hk 0 []) (by simp))
              clear hk C
              go_wp2
              go_roundw
              case rel => exact ⟨j + 1, O23, st ++ [2], ks3, G3, by go_num, by omega, S26.out, by rw [List.length_append, HLN.out]; rfl, HS2.out, (st_opens st 2 (by decide)).trans HOP.out, NX.out.inv, NX.out.lim, NX.out.scan.trans SC.out, V26.out, W26.out, B26.out⟩
              case measure => simp [intOf]; omega
          · rw [hd] at t4
            have c := del_round S22.out IG.out LG.out M N u21 m d21 OL U22.out.2 HNW.out H3N.out (key.tmod 9) (wf_mod9 key)
            have C := Lib.hid c
            clear c
            go_wp2_with fail
            refine C.out.mono ?_
            rintro e w23 ⟨E, rfl, O23, ks3, G3, s, f, nx⟩
            have S23 := Lib.hid s; have NX := Lib.hid nx; have B23 := Lib.hid (B22.out.trans (S22.out.below f.1)); have V23 := Lib.hid (V22.out.fo S22.out f.1); have W23 := Lib.hid (S22.out.row f.1 W22.out (by decide))
            clear s f nx C z0 z1 z2 r0 r1 y0
            have y1 := (XB.out w23 B23.out).c1
            simp only at y1
            obtain ⟨z0, z1, z2⟩ := V23.out.cells
            rcases hw3 with hw | hw
            · rw [hw] at t3
              have c := abort_sd S23.out N HNW.out (by rw [HNN.out]; exact st_new st)
              rw [show List.set (st ++ [1]) (N.toNat - 1) 3 = st ++ [3] by rw [HNN.out]; exact st_set st 3] at c
              have C := Lib.hid c
              clear c
              go_wp2_with fail
              refine C.out.mono ?_
              rintro e w24 ⟨rfl, s, f⟩
              have S24 := Lib.hid s; have B24 := Lib.hid (B23.out.trans (S23.out.below f.1)); have V24 := Lib.hid (V23.out.fo S23.out f.1); have W24 := Lib.hid (S23.out.row f.1 W23.out (by decide))
              clear s f C z0 z1 z2 y1
              obtain ⟨z0, z1, z2⟩ := V24.out.cells
              have hst2 : stAt (st ++ [3]) 1 = 2 := st_one HST.out 3
              have c := scan_sd S24.out 3 2 u12 1 d12 [2] V24.out.2 (i + j + 1) ⟨NX.out.lim.1, NX.out.lim.2, by omega⟩
              rw [sees_P0 hst2, scanR_eq, NX.out.scan, SC.out] at c
              have C := Lib.hid c; have HS2 := Lib.hid hst2
              clear c hst2
              go_wp2_with fail
              refine C.out.mono ?_
              rintro e w25 ⟨sv, rfl, ho, hk⟩
              have S25 := Lib.hid (S24.out.keep hk); have B25 := Lib.hid (B24.out.trans (hk.below (B := w2.heap.size) S24.out.size (by simp))); have V25 := Lib.hid (V24.out.keep hk); have W25 := Lib.hid (ownsRow_fr W24.out (Fr.ofKept hk 0 []) (by simp))
              have c := lrows_same ho (show w25.ownsRow 0 42 2 (.slice wa rn wc) R0.length (rcl R0) by rw [HRN.out]; exact W25.out)
              obtain ⟨qa, qc, hqs⟩ := ownsRow_shape ho
              subst hqs
              have C := Lib.hid c
              clear ho hk c z0 z1 z2
              go_wp2_with fail
              refine C.out.mono ?_
              rintro e w26 ⟨rfl, hk⟩
              have S26 := Lib.hid (S25.out.keep hk); have B26 := Lib.hid (B25.out.trans (hk.below (B := w2.heap.size) S25.out.size (by simp))); have V26 := Lib.hid (V25.out.keep hk); have W26 := Lib.hid (ownsRow_fr W25.out (Fr.ofKept hk 0 []) (by simp))
              clear hk C
              go_wp2
              go_roundw
              case rel => exact ⟨j + 1, O23, st ++ [3], ks3, G3, by go_num, by omega, S26.out, by rw [List.length_append, HLN.out]; rfl, HS2.out, (st_opens st 3 (by decide)).trans HOP.out, NX.out.inv, NX.out.lim, NX.out.scan.trans SC.out, V26.out, W26.out, B26.out⟩
              case measure => simp [intOf]; omega
            · have t3' : ¬ (who : Int).tmod 3 = 0 := by omega
              have c := commit_sd S23.out N HNW.out (by rw [HNN.out]; exact st_new st)
              rw [show List.set (st ++ [1]) (N.toNat - 1) 2 = st ++ [2] by rw [HNN.out]; exact st_set st 2] at c
              have C := Lib.hid c
              clear c
              go_wp2_with fail
              refine C.out.mono ?_
              rintro e w24 ⟨rfl, s, f⟩
              have S24 := Lib.hid s; have B24 := Lib.hid (B23.out.trans (S23.out.below f.1)); have V24 := Lib.hid (V23.out.fo S23.out f.1); have W24 := Lib.hid (S23.out.row f.1 W23.out (by decide))
              clear s f C z0 z1 z2 y1
              obtain ⟨z0, z1, z2⟩ := V24.out.cells
              have hst2 : stAt (st ++ [2]) 1 = 2 := st_one HST.out 2
              have c := scan_sd S24.out 3 2 u12 1 d12 [2] V24.out.2 (i + j + 1) ⟨NX.out.lim.1, NX.out.lim.2, by omega⟩
              rw [sees_P0 hst2, scanR_eq, NX.out.scan, SC.out] at c
              have C := Lib.hid c; have HS2 := Lib.hid hst2
              clear c hst2
              go_wp2_with fail
              refine C.out.mono ?_
              rintro e w25 ⟨sv, rfl, ho, hk⟩
              have S25 := Lib.hid (S24.out.keep hk); have B25 := Lib.hid (B24.out.trans (hk.below (B := w2.heap.size) S24.out.size (by simp))); have V25 := Lib.hid (V24.out.keep hk); have W25 := Lib.hid (ownsRow_fr W24.out (Fr.ofKept hk 0 []) (by simp))
              have c := lrows_same ho (show w25.ownsRow 0 42 2 (.slice wa rn wc) R0.length (rcl R0) by rw [HRN.out]; exact W25.out)
              obtain ⟨qa, qc, hqs⟩ := ownsRow_shape ho
              subst hqs
              have C := Lib.hid c
              clear ho hk c z0 z1 z2
              go_wp2_with fail
              refine C.out.mono ?_
              rintro e w26 ⟨rfl, hk⟩
              have S26 := Lib.hid (S25.out.keep hk); have B26 := Lib.hid (B25.out.trans (hk.below (B := w2.heap.size) S25.out.size (by simp))); have V26 := Lib.hid (V25.out.keep hk); have W26 := Lib.hid (ownsRow_fr W25.out (Fr.ofKept hk 0 []) (by simp))
              clear hk C
              go_wp2
              go_roundw
              case rel => exact ⟨j + 1, O23, st ++ [2], ks3, G3, by go_num, by omega, S26.out, by rw [List.length_append, HLN.out]; rfl, HS2.out, (st_opens st 2 (by decide)).trans HOP.out, NX.out.inv, NX.out.lim, NX.out.scan.trans SC.out, V26.out, W26.out, B26.out⟩
              case measure => simp [intOf]; omega
          · rw [hd] at t4
            have c := tru_round S22.out IG.out LG.out HIJ.out M N u21 m d21 OL U22.out.2 HNW.out H3N.out
            have C := Lib.hid c
            clear c
            go_wp2_with fail
            refine C.out.mono ?_
            rintro e w23 ⟨u', m', c', E, rfl, O23, ks3, G3, s, f, nx⟩
            have S23 := Lib.hid s; have NX := Lib.hid nx; have B23 := Lib.hid (B22.out.trans (S22.out.below f.1)); have V23 := Lib.hid (V22.out.fo S22.out f.1); have W23 := Lib.hid (S22.out.row f.1 W22.out (by decide))
            clear s f nx C z0 z1 z2 r0 r1 y0
            have y1 := (XB.out w23 B23.out).c1
            simp only at y1
            obtain ⟨z0, z1, z2⟩ := V23.out.cells
            rcases hw3 with hw | hw
            · rw [hw] at t3
              have c := abort_sd S23.out N HNW.out (by rw [HNN.out]; exact st_new st)
              rw [show List.set (st ++ [1]) (N.toNat - 1) 3 = st ++ [3] by rw [HNN.out]; exact st_set st 3] at c
              have C := Lib.hid c
              clear c
              go_wp2_with fail
              refine C.out.mono ?_
              rintro e w24 ⟨rfl, s, f⟩
              have S24 := Lib.hid s; have B24 := Lib.hid (B23.out.trans (S23.out.below f.1)); have V24 := Lib.hid (V23.out.fo S23.out f.1); have W24 := Lib.hid (S23.out.row f.1 W23.out (by decide))
              clear s f C z0 z1 z2 y1
              obtain ⟨z0, z1, z2⟩ := V24.out.cells
              have hst2 : stAt (st ++ [3]) 1 = 2 := st_one HST.out 3
              have c := scan_sd S24.out 3 2 u12 1 d12 [2] V24.out.2 (i + j + 1) ⟨NX.out.lim.1, NX.out.lim.2, by omega⟩
              rw [sees_P0 hst2, scanR_eq, NX.out.scan, SC.out] at c
              have C := Lib.hid c; have HS2 := Lib.hid hst2
              clear c hst2
              go_wp2_with fail
              refine C.out.mono ?_
              rintro e w25 ⟨sv, rfl, ho, hk⟩
              have S25 := Lib.hid (S24.out.keep hk); have B25 := Lib.hid (B24.out.trans (hk.below (B := w2.heap.size) S24.out.size (by simp))); have V25 := Lib.hid (V24.out.keep hk); have W25 := Lib.hid (ownsRow_fr W24.out (Fr.ofKept hk 0 []) (by simp))
              have c := lrows_same ho (show w25.ownsRow 0 42 2 (.slice wa rn wc) R0.length (rcl R0) by rw [HRN.out]; exact W25.out)
              obtain ⟨qa, qc, hqs⟩ := ownsRow_shape ho
              subst hqs
              have C := Lib.hid c
              clear ho hk c z0 z1 z2
              go_wp2_with fail
              refine C.out.mono ?_
              rintro e w26 ⟨rfl, hk⟩
              have S26 := Lib.hid (S25.out.keep hk); have B26 := Lib.hid (B25.out.trans (hk.below (B := w2.heap.size) S25.out.size (by simp))); have V26 := Lib.hid (V25.out.keep hk); have W26 := Lib.hid (ownsRow_fr W25.out (Fr.ofKept hk 0 []) (by simp))
              clear hk C
              go_wp2
              go_roundw
              case rel => exact ⟨j + 1, O23, st ++ [3], ks3, G3, by go_num, by omega, S26.out, by rw [List.length_append, HLN.out]; rfl, HS2.out, (st_opens st 3 (by decide)).trans HOP.out, NX.out.inv, NX.out.lim, NX.out.scan.trans SC.out, V26.out, W26.out, B26.out⟩
              case measure => simp [intOf]; omega
            · have t3' : ¬ (who : Int).tmod 3 = 0 := by omega
              have c := commit_sd S23.out N HNW.out (by rw [HNN.out]; exact st_new st)
              rw [show List.set (st ++ [1]) (N.toNat - 1) 2 = st ++ [2] by rw [HNN.out]; exact st_set st 2] at c
              have C := Lib.hid c
              clear c
              go_wp2_with fail
              refine C.out.mono ?_
              rintro e w24 ⟨rfl, s, f⟩
              have S24 := Lib.hid s; have B24 := Lib.hid (B23.out.trans (S23.out.below f.1)); have V24 := Lib.hid (V23.out.fo S23.out f.1); have W24 := Lib.hid (S23.out.row f.1 W23.out (by decide))
              clear s f C z0 z1 z2 y1
              obtain ⟨z0, z1, z2⟩ := V24.out.cells
              have hst2 : stAt (st ++ [2]) 1 = 2 := st_one HST.out 2
              have c := scan_sd S24.out 3 2 u12 1 d12 [2] V24.out.2 (i + j + 1) ⟨NX.out.lim.1, NX.out.lim.2, by omega⟩
              rw [sees_P0 hst2, scanR_eq, NX.out.scan, SC.out] at c
              have C := Lib.hid c; have HS2 := Lib.hid hst2
              clear c hst2
              go_wp2_with fail
              refine C.out.mono ?_
              rintro e w25 ⟨sv, rfl, ho, hk⟩
              have S25 := Lib.hid (S24.out.keep hk); have B25 := Lib.hid (B24.out.trans (hk.below (B := w2.heap.size) S24.out.size (by simp))); have V25 := Lib.hid (V24.out.keep hk); have W25 := Lib.hid (ownsRow_fr W24.out (Fr.ofKept hk 0 []) (by simp))
              have c := lrows_same ho (show w25.ownsRow 0 42 2 (.slice wa rn wc) R0.length (rcl R0) by rw [HRN.out]; exact W25.out)
              obtain ⟨qa, qc, hqs⟩ := ownsRow_shape ho
              subst hqs
              have C := Lib.hid c
              clear ho hk c z0 z1 z2
              go_wp2_with fail
              refine C.out.mono ?_
              rintro e w26 ⟨rfl, hk⟩
              have S26 := Lib.hid (S25.out.keep hk); have B26 := Lib.hid (B25.out.trans (hk.below (B := w2.heap.size) S25.out.size (by simp))); have V26 := Lib.hid (V25.out.keep hk); have W26 := Lib.hid (ownsRow_fr W25.out (Fr.ofKept hk 0 []) (by simp))
              clear hk C
              go_wp2
              go_roundw
              case rel => exact ⟨j + 1, O23, st ++ [2], ks3, G3, by go_num, by omega, S26.out, by rw [List.length_append, HLN.out]; rfl, HS2.out, (st_opens st 2 (by decide)).trans HOP.out, NX.out.inv, NX.out.lim, NX.out.scan.trans SC.out, V26.out, W26.out, B26.out⟩
              case measure => simp [intOf]; omega
        · have x2 : ¬ (j : Int) < (len1 : Int) := by omega
          go_wp2
          go_ret
          exact ⟨rfl, (Kept.below K2.out (Nat.le_refl _) (by simp)).trans (BB.out.mono K2.out.size)⟩

set_option maxRecDepth 100000 in
theorem lifted (os : Os) (started : os.Started) (H : Type) (enc : TypeId × Value → H) :
    ReturnsInHanded {} Try.checked os 3 .any (Rows.heapSnapSpec.pre6 enc Try.prog Try.f3 Rows.heapSnapRow.domain false) (Rows.heapSnapSpec.post enc Try.prog Try.f3 false true false false) := by
  refine returnsInHanded_of_change (C := Try.checked) own started (by kernel_rfl) Try.func3
    (ChangeSpec.witness6 (enc := enc) (C := Try.checked) false ⟨#[], #[.slice none 0 0, .slice none 0 0], []⟩ 8 (by kernel_rfl) (by kernel_rfl) (by kernel_rfl) (by kernel_rfl)) ?_
  intro W base args ds gs before hval0 hW hcnd _
  have hval : ∀ (j : Nat) t v, Try.f3.params[j]? = some t → args[j]? = some v → Value.okWide Try.prog W .any base t v := hval0
  have hW' := hW
  obtain ⟨p, q, hA0, hV, rfl, hfz, hnd⟩ := hW
  have hA : DataW.TrodAll enc Try.prog W 0 (fun _ => true) true Try.f3.params.toList args.toList ds p := hA0
  rw [Try.params3] at hA hval
  obtain ⟨v0, vs0, d0, ds0, p0, q0, hargs, rfl, rfl, h0, r0⟩ := trodAll_cons hA
  obtain ⟨v1, vs1, d1, ds1, p1, q1, rfl, rfl, rfl, h1, r1⟩ := trodAll_cons r0
  obtain ⟨rfl, rfl, rfl⟩ := trodAll_nil r1
  obtain rfl : args = #[v0, v1] := by cases args; simp_all
  obtain ⟨rfl, rfl⟩ := trodVars_none hV
  obtain ⟨a0, len0, cap0, rfl⟩ := okWide_slice Try.underlying22 (hval 0 22 v0 rfl rfl)
  have k0 := h0
  have lt0 : ∀ x ∈ p0, x.block < W.heap.size := by obtain ⟨m, hm⟩ := k0; exact DataW.trod_lt m _ _ _ hm
  obtain ⟨z0, w0⟩ : ∃ f, IsActs W W.heap.size a0 len0 f ∧ len0 ≤ maxLen := by
    obtain ⟨fuel, hf⟩ := h0
    exact acts_open (by simpa [Value.cells] using hf)
  obtain ⟨a1, len1, cap1, rfl⟩ := okWide_slice Try.underlying22 (hval 1 22 v1 rfl rfl)
  have k1 := h1
  have lt1 : ∀ x ∈ p1, x.block < W.heap.size := by obtain ⟨m, hm⟩ := k1; exact DataW.trod_lt m _ _ _ hm
  obtain ⟨z1, w1⟩ : ∃ f, IsActs W W.heap.size a1 len1 f ∧ len1 ≤ maxLen := by
    obtain ⟨fuel, hf⟩ := h1
    exact acts_open (by simpa [Value.cells] using hf)
  clear hA0 hval0
  refine (walk a0 len0 cap0 z0 a1 len1 cap1 z1 W w0 w1).mono fun e W' ⟨he, bel⟩ => ?_
  subst he
  exact ⟨_, rfl, _, _, _, [], _, [], hW', trodAll_mk1 (shut_bool Try.underlying4 _), (trodAll_cons_mk (Below.trod laidOut (by kernel_rfl) (of_decide_eq_true (by kernel_rfl)) k0 bel lt0) (trodAll_cons_mk (Below.trod laidOut (by kernel_rfl) (of_decide_eq_true (by kernel_rfl)) k1 bel lt1) trodAll_mk0)), rfl, bel.frame _, fun h => by cases h⟩

theorem over : Rows.heapSnapRow.holds Try.pinned (OpenSpec.ofChange Rows.heapSnapSpec) :=
  OpenClaim.holds_of_wide 3 Try.f3 rfl rfl rfl rfl rfl rfl rfl ⟨rfl, rfl, rfl, rfl, rfl⟩ rfl rfl rfl rfl rfl (by kernel_rfl) Try.func3 (by kernel_rfl)
    (of_decide_eq_true (by kernel_rfl)) (by unfold Func.isWrapper; first | (rw [if_pos (by decide +kernel)]; kernel_rfl) | (rw [if_neg (by decide +kernel)]; exact ⟨rfl, rfl⟩))
    (fun os started H enc _ => lifted os started H enc)

theorem proved : Rows.HeapSnapSaid :=
  over
end Go.Proofs.Ytpknnpdnhdcnjaa.heapSnap

namespace Go.Proofs.Ytpknnpdnhdcnjaa
theorem heapSnap_holds : Rows.HeapSnapSaid := heapSnap.proved
#print axioms heapSnap_holds
end Go.Proofs.Ytpknnpdnhdcnjaa

