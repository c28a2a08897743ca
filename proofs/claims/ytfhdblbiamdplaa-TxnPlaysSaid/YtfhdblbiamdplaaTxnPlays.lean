/-
  Proved: whatever the arguments are, carrierlaw06.TxnPlays answers true and leaves its arguments as they were. No condition.
-/
import Derived.Test.YtfhdblbiamdplaaTk
import Derived.ProofKit
import Derived.OpenShut
import Derived.ChangeOld
import Derived.Below
import Derived.Deep.DeepCutAuto
import Derived.Deep.CutBlock
namespace Go.Proofs.Ytfhdblbiamdplaa.txnPlays
open Go.ChangeShapes Go.WideShapes Go.ChangeAt Go.RowKit
set_option linter.unusedVariables false

theorem own : ownKnob Try.prog.godebug = none := by kernel_rfl
theorem laidOut : laidOutB Try.prog = true := by kernel_rfl

theorem kept_fm {a b c : World} {ts : List TypeId} (h : Kept a b []) (hf : Fm a.heap.size ts b c) : Kept a c [] := ((Fm.ofKept h a.heap.size ts).trans hf).kept (Nat.le_refl _)
theorem kept_fr {a b c : World} {ts : List TypeId} (h : Kept a b []) (hf : Fr a.heap.size ts b c) : Kept a c [] := kept_fm h (Fm.ofFr hf)

theorem three_cells {w : World} {g : Nat} {a b c : Value} {t : TypeId} (h : w.heap[g]? = some (.cells #[a, b, c] t (0, 0))) : w.cell? ⟨g, 0, none⟩ = some a ∧ w.cell? ⟨g, 1, none⟩ = some b ∧ w.cell? ⟨g, 2, none⟩ = some c :=
  ⟨by rw [cell_of_row w g 0 _ _ _ h]; rfl, by rw [cell_of_row w g 1 _ _ _ h]; rfl, by rw [cell_of_row w g 2 _ _ _ h]; rfl⟩

/-- What Begin tells, and what has become of each then. -/
def bfull (st : List Nat) : Bool := decide (6 ≤ (opens st).length ∨ st.length + 1 = 1048576)
def bx (st : List Nat) : Int := if bfull st then 0 else (st.length : Int) + 1
def be (st : List Nat) : Int := if bfull st then 8 else 0
def bst (st : List Nat) : List Nat := if bfull st then st else st ++ [1]

theorem bfull_yes {st : List Nat} (h : bfull st = true) : 6 ≤ (opens st).length ∨ st.length + 1 = 1048576 := by simpa [bfull] using h
theorem bfull_no {st : List Nat} (h : bfull st = false) (hl : st.length < 1048576) : (opens st).length < 6 ∧ st.length + 1 < 1048576 := by
  have : ¬ (6 ≤ (opens st).length ∨ st.length + 1 = 1048576) := by rw [bfull, decide_eq_false_iff_not] at h; exact h
  omega

theorem mbegin_all {w : World} {B p b : Nat} {v : Value} {st : List Nat} (h : Mg w B p b v st) :
    Calls Try.prog 41 #[.pointer (some ⟨p, 0, none⟩)] w fun e w' => e = .returned (.tuple #[.int .i64 (bx st), .int .i64 (be st)]) ∧ ∃ v', Mg w' B p b v' (bst st) ∧ Fm B mts w w' := by
  cases hf : bfull st with
  | true =>
    rw [bx, be, bst, hf]
    exact (mbegin_full h (bfull_yes hf)).mono (by rintro e w' ⟨rfl, rfl⟩; exact ⟨rfl, v, h, Fm.refl _ _ _⟩)
  | false =>
    rw [bx, be, bst, hf]
    have hn := bfull_no hf h.hl
    exact mbegin_ok h hn.1 hn.2

theorem rbegin_all {w : World} {B q : Nat} {v : Value} {st : List Nat} (h : Rm w B q v st) :
    Calls Try.prog 42 #[.pointer (some ⟨q, 0, none⟩)] w fun e w' => e = .returned (.tuple #[.int .i64 (bx st), .int .i64 (be st)]) ∧ ∃ v', Rm w' B q v' (bst st) ∧ Fr B rts w w' := by
  cases hf : bfull st with
  | true =>
    rw [bx, be, bst, hf]
    exact (rbegin_full h (bfull_yes hf)).mono (by rintro e w' ⟨rfl, hk⟩; exact ⟨rfl, v, h.keep hk, Fr.ofKept hk _ _⟩)
  | false =>
    rw [bx, be, bst, hf]
    have hn := bfull_no hf h.hl
    exact rbegin_ok h hn.1 hn.2

/-- What an end tells, and what has become of each then. -/
def ec (st : List Nat) (x : Int) : Int := if stAt st x = 1 then 0 else 7
def cst (st : List Nat) (x : Int) (s : Nat) : List Nat := if stAt st x = 1 then st.set (x.toNat - 1) s else st

theorem mcommit_all {w : World} {B p b : Nat} {v : Value} {st : List Nat} (h : Mg w B p b v st) (x : Int) (hx : (Lit.int .i64 x).wf = true) :
    Calls Try.prog 43 #[.pointer (some ⟨p, 0, none⟩), .int .i64 x] w fun e w' => e = .returned (.int .i64 (ec st x)) ∧ Mg w' B p b v (cst st x 2) ∧ Fm B mts w w' := by
  by_cases hb : stAt st x = 1
  · rw [ec, cst, if_pos hb, if_pos hb]; exact mcommit_ok h x hx hb
  · rw [ec, cst, if_neg hb, if_neg hb]
    exact (mcommit_bad h x hx hb).mono (by rintro e w' ⟨rfl, rfl⟩; exact ⟨rfl, h, Fm.refl _ _ _⟩)

theorem mabort_all {w : World} {B p b : Nat} {v : Value} {st : List Nat} (h : Mg w B p b v st) (x : Int) (hx : (Lit.int .i64 x).wf = true) :
    Calls Try.prog 45 #[.pointer (some ⟨p, 0, none⟩), .int .i64 x] w fun e w' => e = .returned (.int .i64 (ec st x)) ∧ Mg w' B p b v (cst st x 3) ∧ Fm B mts w w' := by
  by_cases hb : stAt st x = 1
  · rw [ec, cst, if_pos hb, if_pos hb]; exact mabort_ok h x hx hb
  · rw [ec, cst, if_neg hb, if_neg hb]
    exact (mabort_bad h x hx hb).mono (by rintro e w' ⟨rfl, rfl⟩; exact ⟨rfl, h, Fm.refl _ _ _⟩)

theorem rend_all {w : World} {B q : Nat} {v : Value} {st : List Nat} (h : Rm w B q v st) (x : Int) (s : Nat) (hs : 1 ≤ s ∧ s ≤ 3) :
    Calls Try.prog 44 #[.pointer (some ⟨q, 0, none⟩), .int .i64 x, .int .u8 (s : Int)] w fun e w' => e = .returned (.int .i64 (ec st x)) ∧ Rm w' B q v (cst st x s) ∧ Fr B rts w w' := by
  by_cases hb : stAt st x = 1
  · rw [ec, cst, if_pos hb, if_pos hb]; exact rend_ok h x s hs hb
  · rw [ec, cst, if_neg hb, if_neg hb]
    exact (rend_bad h x s hb).mono (by rintro e w' ⟨rfl, rfl⟩; exact ⟨rfl, h, Fr.refl _ _ _⟩)

/-- What Load tells, and what has become of each then. -/
def elo (N : Int) (l : List Int) : Int := if okLd N l then 0 else 1
def lst (N : Int) (l : List Int) (st : List Nat) : List Nat := if okLd N l then ldS N.toNat l else st

theorem mload_all {w : World} {B p b : Nat} {v : Value} {st : List Nat} (h : Mg w B p b v st) (N : Int) (u : Value) (l : List Int) (hr : RdI w u l) :
    Calls Try.prog 46 #[.pointer (some ⟨p, 0, none⟩), .int .i64 N, u] w fun e w' => e = .returned (.int .i64 (elo N l)) ∧ ∃ b' v', Mg w' B p b' v' (lst N l st) ∧ Fm B mts w w' :=
  (mload_any h N u l hr).mono (by
    rintro e w' (⟨h0, h1, ⟨b', v', h2⟩, h3⟩ | ⟨h0, h1, h2, h3⟩)
    · rw [elo, lst, h0]; exact ⟨h1, b', v', h2, h3⟩
    · rw [elo, lst, h0]; exact ⟨h1, b, v, h2, Fm.ofKept h3 _ _⟩)

theorem rload_all {w : World} {B q : Nat} {v : Value} {st : List Nat} (h : Rm w B q v st) (N : Int) (u : Value) (l : List Int) (hr : RdI w u l) :
    Calls Try.prog 47 #[.pointer (some ⟨q, 0, none⟩), .int .i64 N, u] w fun e w' => e = .returned (.int .i64 (elo N l)) ∧ ∃ v', Rm w' B q v' (lst N l st) ∧ Fr B rts w w' :=
  (rload_any h N u l hr).mono (by
    rintro e w' (⟨h0, h1, ⟨v', h2⟩, h3⟩ | ⟨h0, h1, h2⟩)
    · rw [elo, lst, h0]; exact ⟨h1, v', h2, h3⟩
    · subst h2; rw [elo, lst, h0]; exact ⟨h1, v, h, Fr.refl _ _ _⟩)

theorem rdI_own {w : World} {B n c : Nat} {a : Option Addr} {l : List Int} (h : w.ownsRow B 2 1 (.slice a n c) n (l.map encZ)) (hn : l.length = n) : RdI w (.slice a n c) l := by
  subst hn
  rcases h.2 with ⟨hv, h0⟩ | ⟨g, cap, cur, hv, hbg, hg, hnc, hcm, hcs, htk⟩
  · simp only [Value.slice.injEq] at hv
    obtain ⟨rfl, _, rfl⟩ := hv
    exact ⟨none, 0, rfl, by omega, by simp [maxLen], fun _ => rfl, fun hne => absurd (List.eq_nil_of_length_eq_zero h0) hne⟩
  · simp only [Value.slice.injEq] at hv
    obtain ⟨rfl, _, rfl⟩ := hv
    refine ⟨_, c, rfl, hnc, hcm, by simp, fun _ => ⟨g, 0, rfl, fun i hi => ?_⟩⟩
    have := World.ownsRow.cells h (g := g) rfl i (.int .i64 (l.getD i 0)) (by simp [List.getD, hi])
    simpa [Addr.add_lit] using this

/-- What the first choice leaves: a number. -/
def AtPost (w4 : World) (s7 : Value) (wx : World) : Prop := ∃ A : Int, s7 = .int .i64 A ∧ (Lit.int .i64 A).wf = true ∧ Kept w4 wx []

/-- What the switch leaves. -/
def SwPost (w1 : World) (p q : Nat) (s8 : Value) (wx : World) : Prop := s8 = .bool true ∧ ∃ (b : Nat) (v u : Value) (st : List Nat), Mg wx w1.heap.size p b v st ∧ Rm wx w1.heap.size q u st ∧ Kept w1 wx []

theorem snap_two {w V : World} {g : Nat} {u v : Value} {t : TypeId} (hk : Kept w V []) (h : w.heap[g]? = some (.cells #[u, v] t (0, 0))) : V.cell? ⟨g, 0, none⟩ = some u ∧ V.cell? ⟨g, 1, none⟩ = some v :=
  ⟨(res_cells (hk.heap (by simp) h)).1, (res_cells (hk.heap (by simp) h)).2.1⟩

set_option maxHeartbeats 8000000 in
set_option maxRecDepth 100000 in
theorem walk (a0 : Option Addr) (len0 cap0 : Nat) (f0 : Nat → ActD) (W : World) (w0 : IsActs W W.heap.size a0 len0 f0 ∧ len0 ≤ maxLen) :
    Calls Try.prog 9 #[.slice a0 len0 cap0] W fun e w' => e = .returned (.bool true) ∧ Below W.heap.size W w' := by
  have Hf := Lib.hid w0.1
  clear w0
  by_cases h80 : (80 : Int) < (len0 : Int)
  · go_enter Try.func9, Try.ntmps9
    go_wp2_with fail
    refine (two_any W).mono ?_
    rintro e w1 ⟨rfl, hk⟩
    have K1 := Lib.hid hk
    clear hk
    go_wp2_with fail
    refine (two_any w1).mono ?_
    rintro e w2 ⟨rfl, hk⟩
    have K2 := Lib.hid (K1.out.trans hk (by simp))
    clear hk
    go_wp2
    go_ret
    exact ⟨rfl, K2.out.below (Nat.le_refl _) (by simp)⟩
  go_enter Try.func9, Try.ntmps9
  go_wp2_with fail
  refine (two_any W).mono ?_
  rintro e w1 ⟨rfl, hk⟩
  have K1 := Lib.hid hk
  clear hk
  go_wp2_with fail
  refine (mnew_any w1).mono ?_
  rintro e w2 ⟨p, b, v2, rfl, hm, hk⟩
  have hka := hk.alloc (.cells #[.slice none 0 0] 72)
  have M2 := Lib.hid (hm.keep ((Kept.refl w2 []).alloc (.cells #[.slice none 0 0] 72)))
  have K2 := Lib.hid hka
  have Q2 := Lib.hid (rnew w2 (B := w1.heap.size) hk.size)
  obtain ⟨q, hq⟩ : ∃ q, q = w2.heap.size := ⟨_, rfl⟩
  rw [← hq] at Q2
  clear hm hk hka
  go_wp2
  rw [← hq]
  clear hq
  go_loopw [5] (fun t wr => ∃ (i b : Nat) (v u : Value) (st : List Nat), t = .int .i64 i ∧ i ≤ len0 ∧ Mg wr w1.heap.size p b v st ∧ Rm wr w1.heap.size q u st ∧ Kept w1 wr []) (fun t _ => len0 - (intOf t).toNat)
  case atStart => exact ⟨0, b, _, _, [], rfl, Nat.zero_le _, M2.out, Q2.out, K2.out⟩
  case round =>
    obtain ⟨i, b, v, u, st, rfl, hi, hm, hr, hk⟩ := hrel
    have M := Lib.hid hm; have Q := Lib.hid hr; have K := Lib.hid hk
    clear hm hr hk M2 Q2 K2
    by_cases hlt : i < len0
    · obtain ⟨ab, ao, rfl, hx⟩ := Hf.out (by omega)
      have X := hx i hlt
      generalize f0 i = x at X
      obtain ⟨d, I, lv, L⟩ := x
      have Y := X.frame (K1.out.trans K.out (by simp))
      obtain ⟨la, lc, hlv, -⟩ := Y.rl
      simp only at hlv
      subst hlv
      have rlW : Hid (RdI W (.slice la L.length lc) L) := Lib.hid X.rl
      have y0 := Y.c0; have y1 := Y.c1; have y2 := Y.c2
      have hd8 := Y.d8
      have WI : Hid ((Lit.int .i64 I).wf = true) := Lib.hid Y.wx
      simp only at y0 y1 y2 hd8
      clear hx X Y
      have x1 : (i : Int) < (len0 : Int) := by omega
      by_cases h20 : (20 : Int) < (L.length : Int)
      · go_wp2
        go_ret
        exact ⟨rfl, ((K1.out.trans K.out (by simp)).alloc _).below (Nat.le_refl _) (by simp)⟩
      go_upto_if 45 with fail
      obtain ⟨w4, hw4⟩ : ∃ w4, w4 = wr.alloc (.cells #[.int .u8 d, .int .i64 I, .slice la L.length lc] 75) := ⟨_, rfl⟩
      have K04 := Lib.hid (show Kept wr w4 [] by rw [hw4]; exact (Kept.refl wr []).alloc _)
      have B4 := Lib.hid (show w4.heap[wr.heap.size]? = some (.cells #[.int .u8 d, .int .i64 I, .slice la L.length lc] 75 (0, 0)) by rw [hw4]; exact heap_alloc_new wr _)
      rw [← hw4]
      have M4 := Lib.hid (M.out.keep K04.out)
      have Q4 := Lib.hid (Q.out.keep K04.out)
      have K4 := Lib.hid (K.out.trans K04.out (by simp))
      obtain ⟨z0, z1, z2⟩ := three_cells B4.out
      obtain ⟨g4, hg4⟩ : ∃ g4, g4 = wr.heap.size := ⟨_, rfl⟩
      rw [← hg4] at B4 z0 z1 z2 ⊢
      clear hw4 hg4 y0 y1 y2 M Q K
      go_cut [7] (fun s7 wx => AtPost w4 s7 wx)
      case first =>
        by_cases hd20 : (20 : Int) ≤ (d : Int)
        · have HS : Hid (∀ n, Calls Try.prog 40 #[.pointer (some ⟨q, 0, none⟩)] (w4.drewN n) fun e w' => e = .returned (.int .i64 ((st.length : Int) + 1)) ∧ w' = w4.drewN n) := Lib.hid (fun n => (rnext_any (Q4.out.keep ((Kept.refl w4 []).drewN n))).mono fun _ _ h => ⟨h.1, h.2.symm⟩)
          have hl : (st.length : Int) ≤ 2000000 := by have := Q4.out.hl; omega
          go_wp2_with fail
          go_quiet ((go_at_call 40; exact Calls.quiet_of_same (HS.out _)))
          go_wp2_with fail
          go_meet
          exact ⟨_, rfl, wf_i64 (by unfold wrap64; omega), (Kept.refl w4 []).drewN _⟩
        · go_wp2_with fail
          go_meet
          exact ⟨I, rfl, WI.out, Kept.refl w4 []⟩
      case rest =>
        obtain ⟨A, rfl, hwA, hk⟩ := hcut
        have WA := Lib.hid hwA
        have M5 := Lib.hid (M4.out.keep hk); have Q5 := Lib.hid (Q4.out.keep hk); have K5 := Lib.hid (K4.out.trans hk (by simp))
        obtain ⟨y0, y1, y2⟩ := three_cells (hk.heap (by simp) B4.out)
        have B5 := Lib.hid (hk.heap (by simp) B4.out)
        clear hwA hk z0 z1 z2 M4 Q4 K4 B4
        obtain ⟨t, ht8, ht⟩ : ∃ t : Nat, t < 8 ∧ (d : Int) % 8 = t := ⟨d % 8, by omega, by omega⟩
        go_upto_block 2 with fail
        go_cut [8, 9, 10, 11, 12, 13, 55] (fun s8 _ _ _ _ _ _ wx => SwPost w1 p q s8 wx)
        case first =>
          rcases (show t = 0 ∨ t = 1 ∨ t = 2 ∨ t = 3 ∨ t = 4 ∨ t = 5 ∨ t = 6 ∨ t = 7 by omega) with rfl | rfl | rfl | rfl | rfl | rfl | rfl | rfl
          · have c1 := Lib.hid (mbegin_all M5.out)
            go_wp2_with fail
            refine c1.out.mono ?_
            rintro e w6 ⟨rfl, v6, hm, hf⟩
            have M6 := Lib.hid hm; have Q6 := Lib.hid (Q5.out.frame hf (by decide) (by decide)); have K6 := Lib.hid (kept_fm K5.out hf)
            have c2 := Lib.hid (rbegin_all Q6.out)
            clear hm hf c1
            go_wp2_with fail
            refine c2.out.mono ?_
            rintro e w7 ⟨rfl, r7, hr, hf⟩
            have Q7 := Lib.hid hr; have M7 := Lib.hid (M6.out.frame hf (by decide) (by decide)); have K7 := Lib.hid (kept_fr K6.out hf)
            clear hr hf c2
            go_wp2_with fail
            go_meet
            exact ⟨rfl, b, v6, r7, bst st, M7.out, Q7.out, K7.out⟩
          · have c1 := Lib.hid (mbegin_all M5.out)
            go_wp2_with fail
            refine c1.out.mono ?_
            rintro e w6 ⟨rfl, v6, hm, hf⟩
            have M6 := Lib.hid hm; have Q6 := Lib.hid (Q5.out.frame hf (by decide) (by decide)); have K6 := Lib.hid (kept_fm K5.out hf)
            have c2 := Lib.hid (rbegin_all Q6.out)
            clear hm hf c1
            go_wp2_with fail
            refine c2.out.mono ?_
            rintro e w7 ⟨rfl, r7, hr, hf⟩
            have Q7 := Lib.hid hr; have M7 := Lib.hid (M6.out.frame hf (by decide) (by decide)); have K7 := Lib.hid (kept_fr K6.out hf)
            clear hr hf c2
            go_wp2_with fail
            go_meet
            exact ⟨rfl, b, v6, r7, bst st, M7.out, Q7.out, K7.out⟩
          · have c1 := Lib.hid (mbegin_all M5.out)
            go_wp2_with fail
            refine c1.out.mono ?_
            rintro e w6 ⟨rfl, v6, hm, hf⟩
            have M6 := Lib.hid hm; have Q6 := Lib.hid (Q5.out.frame hf (by decide) (by decide)); have K6 := Lib.hid (kept_fm K5.out hf)
            have c2 := Lib.hid (rbegin_all Q6.out)
            clear hm hf c1
            go_wp2_with fail
            refine c2.out.mono ?_
            rintro e w7 ⟨rfl, r7, hr, hf⟩
            have Q7 := Lib.hid hr; have M7 := Lib.hid (M6.out.frame hf (by decide) (by decide)); have K7 := Lib.hid (kept_fr K6.out hf)
            clear hr hf c2
            go_wp2_with fail
            go_meet
            exact ⟨rfl, b, v6, r7, bst st, M7.out, Q7.out, K7.out⟩
          · have c1 := Lib.hid (mcommit_all M5.out A WA.out)
            go_wp2_with fail
            refine c1.out.mono ?_
            rintro e w6 ⟨rfl, hm, hf⟩
            have M6 := Lib.hid hm; have Q6 := Lib.hid (Q5.out.frame hf (by decide) (by decide)); have K6 := Lib.hid (kept_fm K5.out hf)
            have c2 : Hid (Calls Try.prog 44 #[.pointer (some ⟨q, 0, none⟩), .int .i64 A, .int .u8 2] w6 fun e w' => e = .returned (.int .i64 (ec st A)) ∧ Rm w' w1.heap.size q u (cst st A 2) ∧ Fr w1.heap.size rts w6 w') := Lib.hid (rend_all Q6.out A 2 (by decide))
            clear hm hf c1
            go_wp2_with fail
            refine c2.out.mono ?_
            rintro e w7 ⟨rfl, hr, hf⟩
            have Q7 := Lib.hid hr; have M7 := Lib.hid (M6.out.frame hf (by decide) (by decide)); have K7 := Lib.hid (kept_fr K6.out hf)
            clear hr hf c2
            go_wp2_with fail
            go_meet
            exact ⟨rfl, b, v, u, cst st A 2, M7.out, Q7.out, K7.out⟩
          · have c1 := Lib.hid (mcommit_all M5.out A WA.out)
            go_wp2_with fail
            refine c1.out.mono ?_
            rintro e w6 ⟨rfl, hm, hf⟩
            have M6 := Lib.hid hm; have Q6 := Lib.hid (Q5.out.frame hf (by decide) (by decide)); have K6 := Lib.hid (kept_fm K5.out hf)
            have c2 : Hid (Calls Try.prog 44 #[.pointer (some ⟨q, 0, none⟩), .int .i64 A, .int .u8 2] w6 fun e w' => e = .returned (.int .i64 (ec st A)) ∧ Rm w' w1.heap.size q u (cst st A 2) ∧ Fr w1.heap.size rts w6 w') := Lib.hid (rend_all Q6.out A 2 (by decide))
            clear hm hf c1
            go_wp2_with fail
            refine c2.out.mono ?_
            rintro e w7 ⟨rfl, hr, hf⟩
            have Q7 := Lib.hid hr; have M7 := Lib.hid (M6.out.frame hf (by decide) (by decide)); have K7 := Lib.hid (kept_fr K6.out hf)
            clear hr hf c2
            go_wp2_with fail
            go_meet
            exact ⟨rfl, b, v, u, cst st A 2, M7.out, Q7.out, K7.out⟩
          · have c1 := Lib.hid (mabort_all M5.out A WA.out)
            go_wp2_with fail
            refine c1.out.mono ?_
            rintro e w6 ⟨rfl, hm, hf⟩
            have M6 := Lib.hid hm; have Q6 := Lib.hid (Q5.out.frame hf (by decide) (by decide)); have K6 := Lib.hid (kept_fm K5.out hf)
            have c2 : Hid (Calls Try.prog 44 #[.pointer (some ⟨q, 0, none⟩), .int .i64 A, .int .u8 3] w6 fun e w' => e = .returned (.int .i64 (ec st A)) ∧ Rm w' w1.heap.size q u (cst st A 3) ∧ Fr w1.heap.size rts w6 w') := Lib.hid (rend_all Q6.out A 3 (by decide))
            clear hm hf c1
            go_wp2_with fail
            refine c2.out.mono ?_
            rintro e w7 ⟨rfl, hr, hf⟩
            have Q7 := Lib.hid hr; have M7 := Lib.hid (M6.out.frame hf (by decide) (by decide)); have K7 := Lib.hid (kept_fr K6.out hf)
            clear hr hf c2
            go_wp2_with fail
            go_meet
            exact ⟨rfl, b, v, u, cst st A 3, M7.out, Q7.out, K7.out⟩
          · have c1 := Lib.hid (mabort_all M5.out A WA.out)
            go_wp2_with fail
            refine c1.out.mono ?_
            rintro e w6 ⟨rfl, hm, hf⟩
            have M6 := Lib.hid hm; have Q6 := Lib.hid (Q5.out.frame hf (by decide) (by decide)); have K6 := Lib.hid (kept_fm K5.out hf)
            have c2 : Hid (Calls Try.prog 44 #[.pointer (some ⟨q, 0, none⟩), .int .i64 A, .int .u8 3] w6 fun e w' => e = .returned (.int .i64 (ec st A)) ∧ Rm w' w1.heap.size q u (cst st A 3) ∧ Fr w1.heap.size rts w6 w') := Lib.hid (rend_all Q6.out A 3 (by decide))
            clear hm hf c1
            go_wp2_with fail
            refine c2.out.mono ?_
            rintro e w7 ⟨rfl, hr, hf⟩
            have Q7 := Lib.hid hr; have M7 := Lib.hid (M6.out.frame hf (by decide) (by decide)); have K7 := Lib.hid (kept_fr K6.out hf)
            clear hr hf c2
            go_wp2_with fail
            go_meet
            exact ⟨rfl, b, v, u, cst st A 3, M7.out, Q7.out, K7.out⟩
          · by_cases hld : (0 : Int) < (L.length : Int) ∧ (d : Int) < 40
            · obtain ⟨hld1, hld2⟩ := hld
              obtain ⟨N, hN⟩ : ∃ N, I.tmod 40 = N := ⟨_, rfl⟩
              go_upto_region 17 with fail
              go_region_held3 (fun V => V.cell? ⟨g4, 2, none⟩ = some (.slice la L.length lc)) (first | exact y2 | exact Z6 | exact Z7)
                (first
                  | (go_at_call 46; refine (mload_all (M5.out.keep (Kept.refl _ []).drew) N _ L (rlW.out.keep ((K1.out.trans K5.out (by simp)).drew))).mono ?_; rintro e w6 ⟨rfl, b6, v6, hm, hf⟩; have M6 := Lib.hid hm; have Q6 := Lib.hid ((Q5.out.keep (Kept.refl _ []).drew).frame hf (by decide) (by decide)); have K6 := Lib.hid (kept_fm K5.out.drew hf); have hz6 := (hf.heap B5.out (by decide)); have B6 := Lib.hid hz6; have Z6 := (three_cells hz6).2.2; clear hm hf hz6)
                  | (go_at_call 47; refine (rload_all Q6.out N _ L (rlW.out.keep (K1.out.trans K6.out (by simp)))).mono ?_; rintro e w7 ⟨rfl, r7, hr, hf⟩; have Q7 := Lib.hid hr; have M7 := Lib.hid (M6.out.frame hf (by decide) (by decide)); have K7 := Lib.hid (kept_fr K6.out hf); have Z7 := (three_cells (hf.heap B6.out (by decide))).2.2; clear hr hf))
              go_wp2_with fail
              go_meet
              exact ⟨rfl, b6, v6, r7, lst N L st, M7.out, Q7.out, K7.out⟩
            · have hor : ¬ (0 : Int) < (L.length : Int) ∨ ((0 : Int) < (L.length : Int) ∧ ¬ (d : Int) < 40) := by omega
              clear hld
              rcases hor with hld | ⟨hld1, hld2⟩
              · go_wp2_with fail
                go_meet
                exact ⟨rfl, b, v, u, st, M5.out, Q5.out, K5.out⟩
              · go_wp2_with fail
                go_meet
                exact ⟨rfl, b, v, u, st, M5.out, Q5.out, K5.out⟩
        case rest =>
          obtain ⟨rfl, b, v, u, st, hm, hr, hk⟩ := hcut
          have K := Lib.hid hk; have Q := Lib.hid hr; have M := Lib.hid hm
          clear hm hr hk M5 Q5 K5 B5 y0 y1 y2
          have c1 := mnow_any M.out
          obtain ⟨m, hm⟩ : ∃ m, (opens st).length = m := ⟨_, rfl⟩
          obtain ⟨N, hN⟩ : ∃ N : Int, (st.length : Int) + 1 = N := ⟨_, rfl⟩
          rw [hm, hN] at c1
          have Hm := Lib.hid hm; have HN := Lib.hid hN
          have hNb : N ≤ 2000000 := by have := M.out.hl; omega
          have hNa : 1 ≤ N := by omega
          clear hm hN
          go_wp2_with fail
          refine c1.mono ?_
          rintro e w6 ⟨a6, c6, rfl, ho, hk⟩
          obtain ⟨w5, hw5⟩ : ∃ w5, w5 = w6.alloc (.cells #[.int .i64 N, .slice a6 m c6] 83) := ⟨_, rfl⟩
          obtain ⟨g5, hg5⟩ : ∃ g5, g5 = w6.heap.size := ⟨_, rfl⟩
          have hka : Kept w6 w5 [] := by rw [hw5]; exact (Kept.refl w6 []).alloc _
          have hb5 : w5.heap[g5]? = some (.cells #[.int .i64 N, .slice a6 m c6] 83 (0, 0)) := by rw [hw5, hg5]; exact heap_alloc_new w6 _
          have B5 := Lib.hid hb5
          have M5 := Lib.hid (M.out.keep (hk.trans hka (by simp))); have Q5 := Lib.hid (Q.out.keep (hk.trans hka (by simp))); have K5 := Lib.hid (K.out.trans (hk.trans hka (by simp)) (by simp))
          have R5 := Lib.hid ((rdI_own ho Hm.out).keep hka)
          clear ho hk hka c1 M Q K hb5
          go_wp2_with fail
          rw [← hw5, ← hg5]
          clear hw5 hg5
          have HN1 : Hid (∀ V, Kept w5 V [] → Calls Try.prog 40 #[.pointer (some ⟨q, 0, none⟩)] V fun e w' => e = .returned (.int .i64 N) ∧ V = w') := Lib.hid (fun V hV => by
            have h := rnext_any (Q5.out.keep hV)
            rw [HN.out] at h
            exact h)
          have HN2 : Hid (∀ V, Kept w5 V [] → Calls Try.prog 49 #[.pointer (some ⟨p, 0, none⟩)] V fun e w' => e = .returned (.int .i64 N) ∧ V = w') := Lib.hid (fun V hV => by
            have h := mnext_any (M5.out.keep hV)
            rw [HN.out] at h
            exact h)
          have HO : Hid (∀ V, Kept w5 V [] → Calls Try.prog 51 #[.pointer (some ⟨q, 0, none⟩)] V fun e w' => ∃ a c, e = .returned (.slice a m c) ∧ RdI w' (.slice a m c) (opens st) ∧ Kept w5 w' []) := Lib.hid (fun V hV => by
            have h := ropen_any (Q5.out.keep hV)
            rw [Hm.out] at h
            refine h.mono ?_
            rintro e w' ⟨a, c, rfl, ho, hk⟩
            exact ⟨a, c, rfl, rdI_own ho Hm.out, hV.trans hk (by simp)⟩)
          have HI : Hid (∀ V a c, Kept w5 V [] → RdI V (.slice a m c) (opens st) → Calls Try.prog 50 #[.slice a6 m c6, .slice a m c] V fun e w' => e = .returned (.bool true) ∧ Kept w5 w' []) := Lib.hid (fun V a c hV hr => by
            refine (ints_any _ _ _ _ V (R5.out.keep hV) hr).mono ?_
            rintro e w' ⟨rfl, hk⟩
            exact ⟨by simp, hV.trans hk (by simp)⟩)
          have HS1 : Hid (∀ V, Kept w5 V [] → Calls Try.prog 52 #[.pointer (some ⟨p, 0, none⟩), .int .i64 A] V fun e w' => e = .returned (.int .u8 (stAt st A)) ∧ V = w') := Lib.hid (fun V hV => mstate_any (M5.out.keep hV) A WA.out)
          have HS2 : Hid (∀ V, Kept w5 V [] → Calls Try.prog 53 #[.pointer (some ⟨q, 0, none⟩), .int .i64 A] V fun e w' => e = .returned (.int .u8 (stAt st A)) ∧ V = w') := Lib.hid (fun V hV => rstate_any (Q5.out.keep hV) A)
          have k8 := (Kept.refl w5 []).drew
          have y2 := snap_two k8 B5.out
          go_region_held3 (fun V => V.cell? ⟨g5, 0, none⟩ = some (.int .i64 N) ∧ V.cell? ⟨g5, 1, none⟩ = some (.slice a6 m c6)) (exact y2)
            (first
              | (go_at_call 40; refine (HN1.out _ ?_).mono ?_; assumption; rintro e w8 ⟨rfl, rfl⟩)
              | (go_at_call 49; refine (HN2.out _ ?_).mono ?_; assumption; rintro e w8 ⟨rfl, rfl⟩)
              | (go_at_call 51; refine (HO.out _ ?_).mono ?_; assumption; rintro e w8 ⟨a8, c8, rfl, r8, k8⟩; have y2 := snap_two k8 B5.out)
              | (go_at_call 50; refine (HI.out _ _ _ ?_ ?_).mono ?_; assumption; assumption; rintro e w9 ⟨rfl, k8⟩; have y2 := snap_two k8 B5.out)
              | (go_at_call 52; refine (HS1.out _ ?_).mono ?_; assumption; rintro e w8 ⟨rfl, rfl⟩)
              | (go_at_call 53; refine (HS2.out _ ?_).mono ?_; assumption; rintro e w8 ⟨rfl, rfl⟩))
          have M9 := Lib.hid (M5.out.keep k8); have Q9 := Lib.hid (Q5.out.keep k8); have K9 := Lib.hid (K5.out.trans k8 (by simp))
          clear y2 M5 Q5 K5 R5 HN1 HN2 HO HI HS1 HS2 B5
          have cN := rnext_any Q9.out
          rw [HN.out] at cN
          go_wp2
          go_loop [15] (fun t => ∃ x : Int, t = .int .i64 x ∧ -1 ≤ x ∧ x ≤ 60) (fun t => (60 - intOf t).toNat)
          case atStart => exact ⟨-1, rfl, by omega, by omega⟩
          case round =>
            obtain ⟨x, rfl, hx1, hx2⟩ := hrel
            by_cases hx : x ≤ N + 1 ∧ x < 60
            · obtain ⟨hxa, hxb⟩ := hx
              have s1 := mstate_any M9.out x (wf_i64 (by omega))
              have s2 := rstate_any Q9.out x
              go_wp2_with (first
                | (go_at_call 40; refine cN.mono ?_; rintro e w' ⟨rfl, rfl⟩)
                | (go_at_call 52; refine s1.mono ?_; rintro e w' ⟨rfl, rfl⟩)
                | (go_at_call 53; refine s2.mono ?_; rintro e w' ⟨rfl, rfl⟩))
              go_round
              case rel => exact ⟨x + 1, by go_num, by omega, by omega⟩
              case measure => simp [intOf]; omega
            · have hor : ¬ x ≤ N + 1 ∨ (x ≤ N + 1 ∧ ¬ x < 60) := by omega
              clear hx
              rcases hor with hx | ⟨hxa, hxb⟩
              all_goals
                go_wp2_with (go_at_call 40; refine cN.mono ?_; rintro e w' ⟨rfl, rfl⟩)
                go_roundw
                case rel => exact ⟨i + 1, _, _, _, _, by go_num, by omega, M9.out, Q9.out, K9.out⟩
                case measure => simp [intOf]; omega
    · have x1 : ¬ (i : Int) < (len0 : Int) := by omega
      go_wp2
      go_ret
      exact ⟨rfl, (K1.out.trans K.out (by simp)).below (Nat.le_refl _) (by simp)⟩

set_option maxRecDepth 100000 in
theorem lifted (os : Os) (started : os.Started) (H : Type) (enc : TypeId × Value → H) :
    ReturnsInHanded {} Try.checked os 9 .any (Rows.txnPlaysSpec.pre6 enc Try.prog Try.f9 Rows.txnPlaysRow.domain false) (Rows.txnPlaysSpec.post enc Try.prog Try.f9 false true false false) := by
  refine returnsInHanded_of_change (C := Try.checked) own started (by kernel_rfl) Try.func9
    (ChangeSpec.witness6 (enc := enc) (C := Try.checked) false ⟨#[], #[.slice none 0 0], []⟩ 8 (by kernel_rfl) (by kernel_rfl) (by kernel_rfl) (by kernel_rfl)) ?_
  intro W base args ds gs before hval0 hW hcnd _
  have hval : ∀ (j : Nat) t v, Try.f9.params[j]? = some t → args[j]? = some v → Value.okWide Try.prog W .any base t v := hval0
  have hW' := hW
  obtain ⟨p, q, hA0, hV, rfl, hfz, hnd⟩ := hW
  have hA : DataW.TrodAll enc Try.prog W 0 (fun _ => true) true Try.f9.params.toList args.toList ds p := hA0
  rw [Try.params9] at hA hval
  obtain ⟨v0, vs0, d0, ds0, p0, q0, hargs, rfl, rfl, h0, r0⟩ := trodAll_cons hA
  obtain ⟨rfl, rfl, rfl⟩ := trodAll_nil r0
  obtain rfl : args = #[v0] := by cases args; simp_all
  obtain ⟨rfl, rfl⟩ := trodVars_none hV
  obtain ⟨a0, len0, cap0, rfl⟩ := okWide_slice Try.underlying67 (hval 0 67 v0 rfl rfl)
  have k0 := h0
  have lt0 : ∀ x ∈ p0, x.block < W.heap.size := by obtain ⟨m, hm⟩ := k0; exact DataW.trod_lt m _ _ _ hm
  obtain ⟨z0, w0⟩ : ∃ f, IsActs W W.heap.size a0 len0 f ∧ len0 ≤ maxLen := by
    obtain ⟨fuel, hf⟩ := h0
    exact acts_open (by simpa [Value.cells] using hf)
  clear hA0 hval0
  refine (walk a0 len0 cap0 z0 W w0).mono fun e W' ⟨he, bel⟩ => ?_
  subst he
  exact ⟨_, rfl, _, _, _, [], _, [], hW', trodAll_mk1 (shut_bool Try.underlying4 _), (trodAll_cons_mk (Below.trod laidOut (by kernel_rfl) (of_decide_eq_true (by kernel_rfl)) k0 bel lt0) trodAll_mk0), rfl, bel.frame _, fun h => by cases h⟩

theorem over : Rows.txnPlaysRow.holds Try.pinned (OpenSpec.ofChange Rows.txnPlaysSpec) :=
  OpenClaim.holds_of_wide 9 Try.f9 rfl rfl rfl rfl rfl rfl rfl ⟨rfl, rfl, rfl, rfl, rfl⟩ rfl rfl rfl rfl rfl (by kernel_rfl) Try.func9 (by kernel_rfl)
    (of_decide_eq_true (by kernel_rfl)) (by unfold Func.isWrapper; first | (rw [if_pos (by decide +kernel)]; kernel_rfl) | (rw [if_neg (by decide +kernel)]; exact ⟨rfl, rfl⟩))
    (fun os started H enc _ => lifted os started H enc)

theorem proved : Rows.TxnPlaysSaid :=
  over
end Go.Proofs.Ytfhdblbiamdplaa.txnPlays

namespace Go.Proofs.Ytfhdblbiamdplaa
theorem txnPlays_holds : Rows.TxnPlaysSaid := txnPlays.proved
#print axioms txnPlays_holds
end Go.Proofs.Ytfhdblbiamdplaa

