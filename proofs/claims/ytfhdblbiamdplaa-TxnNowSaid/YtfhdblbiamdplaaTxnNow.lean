/-
  Proved: whatever the arguments are, carrierlaw06.TxnNow answers true and leaves its arguments as they were. No condition.
-/
import Derived.Test.YtfhdblbiamdplaaTf
import Derived.ProofKit
import Derived.OpenShut
import Derived.ChangeOld
import Derived.Below
namespace Go.Proofs.Ytfhdblbiamdplaa.txnNow
open Go.ChangeShapes Go.WideShapes Go.ChangeAt Go.RowKit
set_option linter.unusedVariables false

theorem own : ownKnob Try.prog.godebug = none := by kernel_rfl
theorem laidOut : laidOutB Try.prog = true := by kernel_rfl

theorem now_math (d : Nat) (h : d < 4) : stAt [1, 1, 1, 1] ((d : Int) + 1) = 1 ∧ (opens ([1, 1, 1, 1].set d 2)).length = 3 ∧ stAt ([1, 1, 1, 1].set d 2) ((d : Int) + 1) = 2 := by
  have : d = 0 ∨ d = 1 ∨ d = 2 ∨ d = 3 := by omega
  rcases this with rfl | rfl | rfl | rfl <;> decide

set_option maxHeartbeats 4000000 in
set_option maxRecDepth 100000 in
theorem walk (a0 : Int) (w0 : (Lit.int .u8 a0).wf = true) (W : World) :
    Calls Try.prog 12 #[.int .u8 a0] W fun e w' => e = .returned (.bool true) ∧ Below W.heap.size W w' := by
  have hb8 := bounds_u8 w0
  obtain ⟨hb8a, hb8b⟩ := hb8
  obtain ⟨d, hd4, hd⟩ : ∃ d : Nat, d < 4 ∧ a0 % 4 = (d : Int) := ⟨(a0 % 4).toNat, by omega, by omega⟩
  obtain ⟨m1, m2, m3⟩ := now_math d hd4
  have MM := Lib.hid (And.intro m1 (And.intro m2 m3))
  have Hd := Lib.hid hd
  clear w0 m1 m2 m3 hd
  go_enter Try.func12, Try.ntmps12
  go_wp2_with fail
  refine (two_any W).mono ?_
  rintro e w1 ⟨rfl, hk⟩
  have K1 := Lib.hid hk; clear hk
  go_wp2_with fail
  refine (mnew_any w1).mono ?_
  rintro e w2 ⟨p, b, v2, rfl, hm, hk⟩
  have M2 := Lib.hid hm; have F2 := Lib.hid (Fm.ofKept hk w1.heap.size mts)
  clear hm hk
  go_wp2
  go_loopw [4] (fun i wr => ∃ (k : Nat) (v : Value), i = .int .i64 k ∧ k ≤ 4 ∧ Mg wr w1.heap.size p b v (List.replicate k 1) ∧ Fm w1.heap.size mts w1 wr) (fun i _ => 4 - (intOf i).toNat)
  case atStart => exact ⟨0, v2, rfl, by omega, M2.out, F2.out⟩
  case round =>
    obtain ⟨k, v, rfl, hk4, hm, hf⟩ := hrel
    have M := Lib.hid hm; have Fk := Lib.hid hf
    clear hm hf
    by_cases hlt : k < 4
    · have c1 : Calls Try.prog 41 #[.pointer (some ⟨p, 0, none⟩)] wr fun e w' => ∃ x, e = .returned (.tuple #[.int .i64 x, .int .i64 0]) ∧ ∃ v', Mg w' w1.heap.size p b v' (List.replicate (k + 1) 1) ∧ Fm w1.heap.size mts wr w' := by
        refine (mbegin_ok M.out ?_ ?_).mono ?_
        · have := opens_le (List.replicate k 1); simp at this; omega
        · simp; omega
        · rintro e w' ⟨rfl, v', h1, h2⟩
          rw [← List.replicate_succ'] at h1
          exact ⟨_, rfl, v', h1, h2⟩
      go_wp2_with fail
      refine c1.mono ?_
      rintro e w3 ⟨x, rfl, v3, hm, hf⟩
      have M3 := Lib.hid hm; have F3 := Lib.hid (Fk.out.trans hf)
      clear hm hf c1
      go_wp2
      go_roundw
      case rel => exact ⟨k + 1, v3, by go_num, by omega, M3.out, F3.out⟩
      case measure => simp [intOf]; omega
    · obtain rfl : k = 4 := by omega
      have M4 : Hid (Mg wr w1.heap.size p b v [1, 1, 1, 1]) := M
      clear M
      have c4 : Calls Try.prog 48 #[.pointer (some ⟨p, 0, none⟩)] wr fun e w' => ∃ a c, e = .returned (.agg #[.int .i64 5, .slice a 4 c]) ∧ w'.ownsRow wr.heap.size 2 1 (.slice a 4 c) 4 [.int .i64 1, .int .i64 2, .int .i64 3, .int .i64 4] ∧ Kept wr w' [] := mnow_any M4.out
      go_wp2_with fail
      refine c4.mono ?_
      rintro e w5 ⟨a5, cp5, rfl, ho, hk⟩
      obtain ⟨g, rfl, hg, hgc, ⟨cur, hcur⟩, hcell⟩ := row_head ho (by decide)
      have hsz : 4 ≤ cur.size := by
        rcases ho.2 with ⟨_, h0⟩ | ⟨g', cap, cur', hv, _, hg', hnc, _, hcs, _⟩
        · omega
        · simp only [Value.slice.injEq, Option.some.injEq, Addr.mk.injEq] at hv
          obtain ⟨⟨rfl, _⟩, _, rfl⟩ := hv
          rw [hcur] at hg'
          simp only [Option.some.injEq, Obj.cells.injEq] at hg'
          obtain ⟨rfl, _⟩ := hg'
          omega
      have M5 := Lib.hid (M4.out.keep (hk.alloc (.cells #[.int .i64 5, .slice (some ⟨g, 0, none⟩) 4 cp5] 83)))
      have F5 := Lib.hid (Fk.out.trans (Fm.ofKept (hk.alloc (.cells #[.int .i64 5, .slice (some ⟨g, 0, none⟩) 4 cp5] 83)) w1.heap.size mts))
      have Q5 := Lib.hid (heap_alloc_new w5 (.cells #[.int .i64 5, .slice (some ⟨g, 0, none⟩) 4 cp5] 83))
      have G5 := Lib.hid ((Below.heap_alloc w5 (.cells #[.int .i64 5, .slice (some ⟨g, 0, none⟩) 4 cp5] 83) g (heap_lt hcur)).trans hcur)
      have Hg := Lib.hid (show w1.heap.size ≤ g by have := Fk.out.size; omega)
      have Hsz := Lib.hid hsz
      clear ho hk hcell c4 hcur hg hsz
      go_wp2
      go_loopw [6] (fun i wr => ∃ (k : Nat) (cur : Array Value), i = .int .i64 k ∧ k ≤ 4 ∧ Mg wr w1.heap.size p b v [1, 1, 1, 1] ∧ Fm w1.heap.size (2 :: mts) w1 wr ∧ wr.heap[w5.heap.size]? = some (.cells #[.int .i64 5, .slice (some ⟨g, 0, none⟩) 4 cp5] 83 (0, 0)) ∧ wr.heap[g]? = some (.cells cur 2 (0, 0)) ∧ 4 ≤ cur.size) (fun i _ => 4 - (intOf i).toNat)
      case atStart => exact ⟨0, cur, rfl, by omega, M5.out, F5.out.mono (Nat.le_refl _) (by simp [mts]), Q5.out, G5.out, Hsz.out⟩
      case round =>
        obtain ⟨k, cur, rfl, hk4, hm, hf, hq, hgb, hsz⟩ := hrel
        have M := Lib.hid hm; have Fk := Lib.hid hf; have Q := Lib.hid hq; have G := Lib.hid hgb; have Hs := Lib.hid hsz
        obtain ⟨d0, d1, _, _⟩ := res_cells hq
        clear hm hf hq hgb hsz
        by_cases hlt : k < 4
        · obtain ⟨u, hu⟩ : ∃ u, wr.cell? ⟨g, k, none⟩ = some u := by
            have := Hs.out
            exact ⟨cur[k]'(by omega), by rw [cell_of_row wr g k _ _ _ G.out]; simp⟩
          have fz : wr.frozen? ⟨g, k, none⟩ = false := frozen_of_row _ _ _ _ _ G.out
          have hlt' : (k : Int) < 4 := by omega
          go_wp2
          go_roundw
          case rel =>
            have f1 : Fr w1.heap.size [2] wr (wr.setCell ⟨g, k, none⟩ (.int .i64 (a0 + 9))) := (Fr.refl _ _ wr).setCell G.out (.inr ⟨Hg.out, by simp⟩) k _
            exact ⟨k + 1, _, by go_num, by omega, M.out.frame f1 (by decide) (by decide), Fk.out.trans (Fm.ofFr (f1.mono (Nat.le_refl _) (by simp))), f1.heap Q.out (by decide), heap_setCell_at G.out k _, by simpa using Hs.out⟩
          case measure => simp [intOf]; omega
        · obtain rfl : k = 4 := by omega
          have e1 : a0 % 4 = (d : Int) := Hd.out
          have e2 : a0.tmod 4 = (d : Int) := by rw [Int.tmod_eq_emod_of_nonneg hb8a]; exact e1
          have hwf : (Lit.int .i64 ((d : Int) + 1)).wf = true := wf_i64 (by omega)
          have c6 := Lib.hid (mcommit_ok M.out ((d : Int) + 1) hwf MM.out.1)
          rw [show ((d : Int) + 1).toNat - 1 = d by omega] at c6
          obtain ⟨x, hx⟩ : ∃ x : Int, x = (d : Int) + 1 := ⟨_, rfl⟩
          have e3 : (1 : Int) + (d : Int) = x := by omega
          rw [← hx] at c6
          have Hx := Lib.hid hx
          clear hx hwf
          go_wp2_with fail
          refine c6.out.mono ?_
          rintro e w7 ⟨rfl, hm, hf⟩
          have M7 := Lib.hid hm; have F7 := Lib.hid (Fk.out.trans (hf.mono (Nat.le_refl _) (by simp [mts])))
          clear hm hf
          have c8 := mnow_any M7.out
          rw [MM.out.2.1, List.length_set] at c8
          have c8' : Calls Try.prog 48 #[.pointer (some ⟨p, 0, none⟩)] w7 fun e w' => ∃ a c, e = .returned (.agg #[.int .i64 5, .slice a 3 c]) ∧ Kept w7 w' [] := c8.mono (by rintro e w' ⟨a, c, rfl, _, hk⟩; exact ⟨a, c, rfl, hk⟩)
          clear c8
          go_wp2_with fail
          refine c8'.mono ?_
          rintro e w8 ⟨a8, c8, rfl, hk⟩
          have hk9 := hk.alloc (.cells #[.int .i64 5, .slice a8 3 c8] 83)
          have M8 := Lib.hid (M7.out.keep hk9)
          have F8 := Lib.hid (F7.out.trans (Fm.ofKept hk9 w1.heap.size _))
          have hwx : (Lit.int .i64 x).wf = true := by rw [Hx.out]; exact wf_i64 (by omega)
          have c9 := mstate_any M8.out x hwx
          rw [show stAt ([1, 1, 1, 1].set d 2) x = 2 by rw [Hx.out]; exact MM.out.2.2] at c9
          clear hk hk9 hwx c8'
          go_wp2_with (go_at_call 52; refine c9.mono ?_; rintro e w' ⟨rfl, rfl⟩)
          go_ret
          exact ⟨rfl, (K1.out.trans (F8.out.kept (Nat.le_refl _)) (by simp)).below (Nat.le_refl _) (by simp)⟩

set_option maxRecDepth 100000 in
theorem lifted (os : Os) (started : os.Started) (H : Type) (enc : TypeId × Value → H) :
    ReturnsInHanded {} Try.checked os 12 .any (Rows.txnNowSpec.pre6 enc Try.prog Try.f12 Rows.txnNowRow.domain false) (Rows.txnNowSpec.post enc Try.prog Try.f12 false true false false) := by
  refine returnsInHanded_of_change (C := Try.checked) own started (by kernel_rfl) Try.func12
    (ChangeSpec.witness6 (enc := enc) (C := Try.checked) false ⟨#[], #[.int .u8 0], []⟩ 8 (by kernel_rfl) (by kernel_rfl) (by kernel_rfl) (by kernel_rfl)) ?_
  intro W base args ds gs before hval0 hW hcnd _
  have hval : ∀ (j : Nat) t v, Try.f12.params[j]? = some t → args[j]? = some v → Value.okWide Try.prog W .any base t v := hval0
  have hW' := hW
  obtain ⟨p, q, hA0, hV, rfl, hfz, hnd⟩ := hW
  have hA : DataW.TrodAll enc Try.prog W 0 (fun _ => true) true Try.f12.params.toList args.toList ds p := hA0
  rw [Try.params12] at hA hval
  obtain ⟨v0, vs0, d0, ds0, p0, q0, hargs, rfl, rfl, h0, r0⟩ := trodAll_cons hA
  obtain ⟨rfl, rfl, rfl⟩ := trodAll_nil r0
  obtain rfl : args = #[v0] := by cases args; simp_all
  obtain ⟨rfl, rfl⟩ := trodVars_none hV
  obtain ⟨a0, rfl, rfl, rfl, w0⟩ := open_int Try.underlying5 (hval 0 5 v0 rfl rfl) h0
  clear hA0 hval0
  simp only [List.append_nil] at hW'
  refine (walk a0 w0 W).mono fun e W' ⟨he, bel⟩ => ?_
  subst he
  exact ⟨_, rfl, _, _, _, [], _, [], hW', trodAll_mk1 (shut_bool Try.underlying4 _), (trodAll_cons_mk (shut_int Try.underlying5 w0) trodAll_mk0), rfl, bel.frame _, fun h => by cases h⟩

theorem over : Rows.txnNowRow.holds Try.pinned (OpenSpec.ofChange Rows.txnNowSpec) :=
  OpenClaim.holds_of_wide 12 Try.f12 rfl rfl rfl rfl rfl rfl rfl ⟨rfl, rfl, rfl, rfl, rfl⟩ rfl rfl rfl rfl rfl (by kernel_rfl) Try.func12 (by kernel_rfl)
    (of_decide_eq_true (by kernel_rfl)) (by unfold Func.isWrapper; first | (rw [if_pos (by decide +kernel)]; kernel_rfl) | (rw [if_neg (by decide +kernel)]; exact ⟨rfl, rfl⟩))
    (fun os started H enc _ => lifted os started H enc)

theorem proved : Rows.TxnNowSaid :=
  over
end Go.Proofs.Ytfhdblbiamdplaa.txnNow

namespace Go.Proofs.Ytfhdblbiamdplaa
theorem txnNow_holds : Rows.TxnNowSaid := txnNow.proved
#print axioms txnNow_holds
end Go.Proofs.Ytfhdblbiamdplaa

