/-
  Proved: whatever the arguments are, carrierlaw13.CursorPlays answers true and leaves its arguments as they were. No condition.
-/
import Derived.Test.YtnoiomaoignndaaCut
import Derived.Test.YtnoiomaoignndaaRows
import Derived.Test.YtnoiomaoignndaaChecked
import Derived.ProofKit
import Derived.OpenShut
import Derived.ChangeOld
import Derived.Below
namespace Go.Proofs.Ytnoiomaoignndaa.cursorPlays
open Go.ChangeShapes Go.WideShapes Go.ChangeAt Go.RowKit
set_option linter.unusedVariables false

theorem own : ownKnob Try.prog.godebug = none := by kernel_rfl
theorem laidOut : laidOutB Try.prog = true := by kernel_rfl

theorem bo_new {W w : World} (k : Kept W w []) : Calls Try.prog 10 #[] w fun e w' => ∃ p, e = .returned (.pointer (some ⟨p, 0, none⟩)) ∧ Bo W (w'.alloc (.cells #[.slice none 0 0] rcT)) p w'.heap.size [] := by
  refine (cnew_any w).mono ?_
  rintro e w' ⟨rfl, a, k1⟩
  have k2 : Kept w' (w'.alloc (.cells #[.slice none 0 0] rcT)) [] := (Kept.refl w' []).alloc _
  have k3 := k.trans k1 (by simp)
  have a2 : Cc cuT cuE w' W.heap.size w.heap.size (.slice none 0 0) [] := ⟨a.hh, k.size, a.hT, OwnK.nil _ _ _⟩
  exact ⟨_, rfl, OkC.nil, _, _, a2.keep k2, ⟨heap_alloc_new w' _, k3.size, by decide, OwnK.nil _ _ _⟩, k3.trans k2 (by simp)⟩

variable {W w : World} {p q : Nat} {l : List Cu}
theorem bo_reg (b : Bo W w p q l) (n : ByteArray) (at' : Int) : Calls Try.prog 12 #[.pointer (some ⟨p, 0, none⟩), .string n, .int .i64 at'] w fun e w1 => e = .returned (.int .i64 (regE l n at')) ∧ Kept W w1 [] ∧ Calls Try.prog 13 #[.pointer (some ⟨q, 0, none⟩), .string n, .int .i64 at'] w1 fun e' w2 => e' = .returned (.int .i64 (regE l n at')) ∧ Bo W w2 p q (regL l n at') :=
  b.step (as1 := fun _ => #[]) (b.ok.reg n at') (fun a => creg_any a b.ok n at') (fun d => rreg_any d b.ok n at')
theorem bo_opn (b : Bo W w p q l) (n : ByteArray) (nx : Int) : Calls Try.prog 14 #[.pointer (some ⟨p, 0, none⟩), .string n, .int .i64 nx] w fun e w1 => e = .returned (.int .i64 (opnE l n nx)) ∧ Kept W w1 [] ∧ Calls Try.prog 15 #[.pointer (some ⟨q, 0, none⟩), .string n, .int .i64 nx] w1 fun e' w2 => e' = .returned (.int .i64 (opnE l n nx)) ∧ Bo W w2 p q (opnL l n nx) :=
  b.step (as1 := fun _ => #[]) (b.ok.opn n nx) (fun a => copn_any a b.ok n nx) (fun d => ropn_any d b.ok n nx)
theorem bo_fin (b : Bo W w p q l) (n : ByteArray) : Calls Try.prog 16 #[.pointer (some ⟨p, 0, none⟩), .string n] w fun e w1 => e = .returned (.tuple #[.int .i64 (finN l n), .int .i64 (finE l n)]) ∧ Kept W w1 [] ∧ Calls Try.prog 17 #[.pointer (some ⟨q, 0, none⟩), .string n] w1 fun e' w2 => e' = .returned (.tuple #[.int .i64 (finN l n), .int .i64 (finE l n)]) ∧ Bo W w2 p q (finL l n) :=
  b.step (as1 := fun _ => #[]) (b.ok.fin n) (fun a => cfin_any a b.ok n) (fun d => rfin_any d b.ok n)
theorem bo_unr (b : Bo W w p q l) (n : ByteArray) : Calls Try.prog 18 #[.pointer (some ⟨p, 0, none⟩), .string n] w fun e w1 => e = .returned (.int .i64 (unrE l n)) ∧ Kept W w1 [] ∧ Calls Try.prog 19 #[.pointer (some ⟨q, 0, none⟩), .string n] w1 fun e' w2 => e' = .returned (.int .i64 (unrE l n)) ∧ Bo W w2 p q (unrL l n) :=
  b.step (as1 := fun _ => #[]) (b.ok.unr n) (fun a => cunr_any a b.ok n) (fun d => runr_any d b.ok n)
theorem bo_get (b : Bo W w p q l) (n : ByteArray) : Calls Try.prog 20 #[.pointer (some ⟨p, 0, none⟩), .string n] w fun e w' => ∃ (x : Cu) (bb : Bool), e = .returned (.tuple #[.agg x.cs, .bool bb]) ∧ bb = (plc l n).isSome ∧ Kept w w' [] := by
  obtain ⟨ok, V, U, a, d, k0⟩ := b
  refine (cget_any a ok n).mono ?_
  rintro e w' ⟨rfl, k⟩
  refine ⟨(getC l n).getD noCu, (getC l n).isSome, rfl, ?_, k⟩
  cases hp : plc l n with
  | none => rw [getC_none hp]; rfl
  | some i =>
    obtain ⟨x, hx, _⟩ := plc_some hp
    rw [getC_plc hp hx]; rfl
theorem bo_find (b : Bo W w p q l) (n : ByteArray) : Calls Try.prog 21 #[.pointer (some ⟨q, 0, none⟩), .string n] w fun e w' => ∃ v : Int, e = .returned (.int .i64 v) ∧ decide (0 ≤ v) = (plc l n).isSome ∧ Kept w w' [] := by
  obtain ⟨ok, V, U, a, d, k0⟩ := b
  refine (rfind_any d n (by have := ok.few; omega)).mono ?_
  rintro e w' ⟨rfl, rfl⟩
  refine ⟨_, rfl, ?_, Kept.refl _ _⟩
  rw [fnd]
  cases plc l n with
  | none => rfl
  | some i => simp

set_option maxHeartbeats 8000000 in
set_option maxRecDepth 100000 in
theorem walk (a0 : Option Addr) (len cap : Nat) (f : Nat → ActD) (W : World) (w0 : IsActs W W.heap.size a0 len f ∧ len ≤ maxLen) :
    Calls Try.prog 3 #[.slice a0 len cap] W fun e w' => e = .returned (.bool true) ∧ Below W.heap.size W w' := by
  have HA := Lib.hid w0.1
  have hlm : len ≤ 9223372036854775807 := by have := w0.2; unfold maxLen at this; omega
  clear w0
  by_cases h80 : 80 < len
  · have x0 : (80 : Int) < (len : Int) := by omega
    go_enter Try.func3, Try.ntmps3
    go_wp2_with fail
    refine (done_any W).mono ?_
    rintro e w1 ⟨rfl, k1⟩
    have K1 := Lib.hid k1; clear k1
    go_wp2_with fail
    refine (done_any w1).mono ?_
    rintro e w2 ⟨rfl, k2⟩
    have K2 := Lib.hid (K1.out.trans k2 (by simp)); clear k2
    go_wp2
    go_ret
    exact ⟨rfl, K2.out.below (Nat.le_refl _) (by simp)⟩
  · have x0 : ¬ (80 : Int) < (len : Int) := by omega
    go_enter Try.func3, Try.ntmps3
    go_wp2_with fail
    refine (done_any W).mono ?_
    rintro e w1 ⟨rfl, k1⟩
    have K1 := Lib.hid k1; clear k1
    go_wp2_with fail
    refine (bo_new K1.out).mono ?_
    rintro e w2 ⟨p, rfl, b2⟩
    obtain ⟨q, hq⟩ : ∃ q, q = w2.heap.size := ⟨_, rfl⟩
    obtain ⟨w3, hw3⟩ : ∃ w3, w3 = w2.alloc (.cells #[.slice none 0 0] rcT) := ⟨_, rfl⟩
    rw [← hq, ← hw3] at b2
    have B3 := Lib.hid b2; have HW3 := Lib.hid hw3; have HQ := Lib.hid hq
    clear b2
    go_upto_region 4 with fail
    rw [← HW3.out, ← HQ.out]
    clear hq hw3
    go_wp2
    go_loopw [5] (fun s5 wr => ∃ i : Nat, s5 = .int .i64 i ∧ i ≤ len ∧ Hid (∃ l, Bo W wr p q l)) (fun s5 _ => len - (intOf s5).toNat)
    case atStart => exact ⟨0, rfl, Nat.zero_le _, Lib.hid ⟨[], B3.out⟩⟩
    case round =>
      obtain ⟨i, rfl, hi, BE⟩ := hrel
      obtain ⟨l, bl⟩ := BE.out
      have B1 := Lib.hid bl
      clear bl BE
      by_cases hlt : i < len
      · have x1 : (i : Int) < (len : Int) := by omega
        obtain ⟨b, o, e0, -, hf⟩ := HA.out.kept B1.out.kept (by omega)
        subst e0
        have at0 := hf i hlt
        obtain ⟨c0, c1, c2⟩ : wr.cell? ⟨b, o + i * 3, none⟩ = some (.int .u8 (f i).d) ∧ wr.cell? ⟨b, o + i * 3 + 1, none⟩ = some (.string (f i).nm) ∧ wr.cell? ⟨b, o + i * 3 + 2, none⟩ = some (.int .i64 (f i).n) := ⟨at0.c0, at0.c1, at0.c2⟩
        have d8 := at0.d8
        have sz : (f i).nm.size ≤ 9223372036854775807 := by have := at0.sz; unfold maxLen at this; omega
        have wi := bounds_i64 at0.wi
        clear hf at0
        by_cases hs : 60 < (f i).nm.size
        · have x2 : (60 : Int) < ((f i).nm.size : Int) := by omega
          go_wp2
          go_ret
          exact ⟨rfl, (B1.out.kept.alloc _).below (Nat.le_refl _) (by simp)⟩
        · have x2 : ¬ (60 : Int) < ((f i).nm.size : Int) := by omega
          obtain ⟨z, hz⟩ : ∃ z, z = wr.heap.size := ⟨_, rfl⟩
          obtain ⟨W1, hW1⟩ : ∃ W1, W1 = wr.alloc (.cells #[.int .u8 (f i).d, .string (f i).nm, .int .i64 (f i).n] 31) := ⟨_, rfl⟩
          have k1 : Kept wr W1 [] := by rw [hW1]; exact (Kept.refl wr []).alloc _
          have g1 : W1.heap[z]? = some (.cells #[.int .u8 (f i).d, .string (f i).nm, .int .i64 (f i).n] 31 (0, 0)) := by rw [hW1, hz]; exact heap_alloc_new wr _
          have HW1 := Lib.hid hW1; have HZ := Lib.hid hz; have G1 := Lib.hid g1; have BK := Lib.hid (B1.out.keep k1)
          clear k1 g1
          go_upto_region 10 with fail
          rw [← HW1.out, ← HZ.out]
          clear hW1 hz c0 c1 c2
          obtain ⟨d0, d1, d2⟩ : W1.cell? ⟨z, 0, none⟩ = some (.int .u8 (f i).d) ∧ W1.cell? ⟨z, 1, none⟩ = some (.string (f i).nm) ∧ W1.cell? ⟨z, 2, none⟩ = some (.int .i64 (f i).n) := ⟨by rw [cell_of_row _ _ _ _ _ _ G1.out]; rfl, by rw [cell_of_row _ _ _ _ _ _ G1.out]; rfl, by rw [cell_of_row _ _ _ _ _ _ G1.out]; rfl⟩
          go_wp2_with fail
          refine (name_any (f i) d8 W1).mono ?_
          rintro e w4 ⟨rfl, k4⟩
          obtain ⟨s, hs⟩ : ∃ s, s = nmA (f i) := ⟨_, rfl⟩
          rw [← hs]
          have g4 := k4.heap (by simp) G1.out
          have B2 := Lib.hid (BK.out.keep k4)
          clear d0 d1 d2 k4 hs
          obtain ⟨d0, d1, d2⟩ : w4.cell? ⟨z, 0, none⟩ = some (.int .u8 (f i).d) ∧ w4.cell? ⟨z, 1, none⟩ = some (.string (f i).nm) ∧ w4.cell? ⟨z, 2, none⟩ = some (.int .i64 (f i).n) := ⟨by rw [cell_of_row _ _ _ _ _ _ g4]; rfl, by rw [cell_of_row _ _ _ _ _ _ g4]; rfl, by rw [cell_of_row _ _ _ _ _ _ g4]; rfl⟩
          clear g4
          have hr : (f i).d % 8 < 8 := Nat.mod_lt _ (by decide)
          rcases (show (f i).d % 8 = 0 ∨ (f i).d % 8 = 1 ∨ (f i).d % 8 = 2 ∨ (f i).d % 8 = 3 ∨ (f i).d % 8 = 4 ∨ (f i).d % 8 = 5 ∨ (f i).d % 8 = 6 ∨ (f i).d % 8 = 7 by omega) with hr8 | hr8 | hr8 | hr8 | hr8 | hr8 | hr8 | hr8
          · as_aux_lemma =>
              have xr8 : ((f i).d : Int) % 8 = 0 := by omega
              have xr2 : ((f i).d : Int) % 2 = 0 := by omega
              obtain ⟨nv, hnv⟩ : ∃ nv : Int, (f i).n.tmod 20 = nv := ⟨_, rfl⟩
              go_wp2_with fail
              refine (Calls.mono (bo_reg B2.out s nv) ?_)
              rintro e w5 ⟨rfl, k5, cr⟩
              obtain ⟨E0, hE0⟩ : ∃ E, E = regE l s nv := ⟨_, rfl⟩
              rw [← hE0] at cr ⊢
              have CR := Lib.hid cr
              clear cr k5 hE0
              go_wp2_with fail
              refine CR.out.mono ?_
              rintro e w6 ⟨rfl, b6⟩
              obtain ⟨m, hm⟩ : ∃ m, m = regL l s nv := ⟨_, rfl⟩
              rw [← hm] at b6
              have B6 := Lib.hid b6
              clear b6 hm CR
              go_wp2_with fail
              refine (bo_get B6.out s).mono ?_
              rintro e w7 ⟨x, bb, rfl, hbb, k7⟩
              obtain ⟨y0, y1, y2⟩ := x
              simp only [Cu.cs]
              have HBB := Lib.hid hbb
              have B7 := Lib.hid ((B6.out.keep k7).keep ((Kept.refl w7 []).alloc (.cells #[.string y0, .int .i64 y1, .int .i64 y2] cuE)))
              clear k7 hbb
              go_wp2_with fail
              refine (bo_find B7.out s).mono ?_
              rintro e w8 ⟨v, rfl, hv, k8⟩
              rw [← HBB.out] at hv
              have B8 := Lib.hid (B7.out.keep k8)
              clear k8
              go_wp2_with fail
              refine (like_any B8.out).mono ?_
              rintro e w9 ⟨rfl, k9⟩
              have B9 := Lib.hid (show ∃ l, Bo W w9 p q l from ⟨_, B8.out.keep k9⟩)
              clear k9
              go_wp2
              go_roundw
              case rel => exact ⟨i + 1, by go_num, by omega, B9⟩
              case measure => simp [intOf]; omega
          · as_aux_lemma =>
              have xr8 : ((f i).d : Int) % 8 = 1 := by omega
              have xr2 : ((f i).d : Int) % 2 = 1 := by omega
              obtain ⟨nv, hnv⟩ : ∃ nv : Int, (f i).n = nv := ⟨_, rfl⟩
              go_wp2_with fail
              refine (Calls.mono (bo_reg B2.out s nv) ?_)
              rintro e w5 ⟨rfl, k5, cr⟩
              obtain ⟨E0, hE0⟩ : ∃ E, E = regE l s nv := ⟨_, rfl⟩
              rw [← hE0] at cr ⊢
              have CR := Lib.hid cr
              clear cr k5 hE0
              go_wp2_with fail
              refine CR.out.mono ?_
              rintro e w6 ⟨rfl, b6⟩
              obtain ⟨m, hm⟩ : ∃ m, m = regL l s nv := ⟨_, rfl⟩
              rw [← hm] at b6
              have B6 := Lib.hid b6
              clear b6 hm CR
              go_wp2_with fail
              refine (bo_get B6.out s).mono ?_
              rintro e w7 ⟨x, bb, rfl, hbb, k7⟩
              obtain ⟨y0, y1, y2⟩ := x
              simp only [Cu.cs]
              have HBB := Lib.hid hbb
              have B7 := Lib.hid ((B6.out.keep k7).keep ((Kept.refl w7 []).alloc (.cells #[.string y0, .int .i64 y1, .int .i64 y2] cuE)))
              clear k7 hbb
              go_wp2_with fail
              refine (bo_find B7.out s).mono ?_
              rintro e w8 ⟨v, rfl, hv, k8⟩
              rw [← HBB.out] at hv
              have B8 := Lib.hid (B7.out.keep k8)
              clear k8
              go_wp2_with fail
              refine (like_any B8.out).mono ?_
              rintro e w9 ⟨rfl, k9⟩
              have B9 := Lib.hid (show ∃ l, Bo W w9 p q l from ⟨_, B8.out.keep k9⟩)
              clear k9
              go_wp2
              go_roundw
              case rel => exact ⟨i + 1, by go_num, by omega, B9⟩
              case measure => simp [intOf]; omega
          · as_aux_lemma =>
              have xr8 : ((f i).d : Int) % 8 = 2 := by omega
              have xr2 : ((f i).d : Int) % 2 = 0 := by omega
              obtain ⟨nv, hnv⟩ : ∃ nv : Int, (f i).n.tmod 20 = nv := ⟨_, rfl⟩
              go_wp2_with fail
              refine (Calls.mono (bo_reg B2.out s nv) ?_)
              rintro e w5 ⟨rfl, k5, cr⟩
              obtain ⟨E0, hE0⟩ : ∃ E, E = regE l s nv := ⟨_, rfl⟩
              rw [← hE0] at cr ⊢
              have CR := Lib.hid cr
              clear cr k5 hE0
              go_wp2_with fail
              refine CR.out.mono ?_
              rintro e w6 ⟨rfl, b6⟩
              obtain ⟨m, hm⟩ : ∃ m, m = regL l s nv := ⟨_, rfl⟩
              rw [← hm] at b6
              have B6 := Lib.hid b6
              clear b6 hm CR
              go_wp2_with fail
              refine (bo_get B6.out s).mono ?_
              rintro e w7 ⟨x, bb, rfl, hbb, k7⟩
              obtain ⟨y0, y1, y2⟩ := x
              simp only [Cu.cs]
              have HBB := Lib.hid hbb
              have B7 := Lib.hid ((B6.out.keep k7).keep ((Kept.refl w7 []).alloc (.cells #[.string y0, .int .i64 y1, .int .i64 y2] cuE)))
              clear k7 hbb
              go_wp2_with fail
              refine (bo_find B7.out s).mono ?_
              rintro e w8 ⟨v, rfl, hv, k8⟩
              rw [← HBB.out] at hv
              have B8 := Lib.hid (B7.out.keep k8)
              clear k8
              go_wp2_with fail
              refine (like_any B8.out).mono ?_
              rintro e w9 ⟨rfl, k9⟩
              have B9 := Lib.hid (show ∃ l, Bo W w9 p q l from ⟨_, B8.out.keep k9⟩)
              clear k9
              go_wp2
              go_roundw
              case rel => exact ⟨i + 1, by go_num, by omega, B9⟩
              case measure => simp [intOf]; omega
          · as_aux_lemma =>
              have xr8 : ((f i).d : Int) % 8 = 3 := by omega
              have xr2 : ((f i).d : Int) % 2 = 1 := by omega
              obtain ⟨nv, hnv⟩ : ∃ nv : Int, (f i).n = nv := ⟨_, rfl⟩
              go_wp2_with fail
              refine (Calls.mono (bo_opn B2.out s nv) ?_)
              rintro e w5 ⟨rfl, k5, cr⟩
              obtain ⟨E0, hE0⟩ : ∃ E, E = opnE l s nv := ⟨_, rfl⟩
              rw [← hE0] at cr ⊢
              have CR := Lib.hid cr
              clear cr k5 hE0
              go_wp2_with fail
              refine CR.out.mono ?_
              rintro e w6 ⟨rfl, b6⟩
              obtain ⟨m, hm⟩ : ∃ m, m = opnL l s nv := ⟨_, rfl⟩
              rw [← hm] at b6
              have B6 := Lib.hid b6
              clear b6 hm CR
              go_wp2_with fail
              refine (bo_get B6.out s).mono ?_
              rintro e w7 ⟨x, bb, rfl, hbb, k7⟩
              obtain ⟨y0, y1, y2⟩ := x
              simp only [Cu.cs]
              have HBB := Lib.hid hbb
              have B7 := Lib.hid ((B6.out.keep k7).keep ((Kept.refl w7 []).alloc (.cells #[.string y0, .int .i64 y1, .int .i64 y2] cuE)))
              clear k7 hbb
              go_wp2_with fail
              refine (bo_find B7.out s).mono ?_
              rintro e w8 ⟨v, rfl, hv, k8⟩
              rw [← HBB.out] at hv
              have B8 := Lib.hid (B7.out.keep k8)
              clear k8
              go_wp2_with fail
              refine (like_any B8.out).mono ?_
              rintro e w9 ⟨rfl, k9⟩
              have B9 := Lib.hid (show ∃ l, Bo W w9 p q l from ⟨_, B8.out.keep k9⟩)
              clear k9
              go_wp2
              go_roundw
              case rel => exact ⟨i + 1, by go_num, by omega, B9⟩
              case measure => simp [intOf]; omega
          · as_aux_lemma =>
              have xr8 : ((f i).d : Int) % 8 = 4 := by omega
              have xr2 : ((f i).d : Int) % 2 = 0 := by omega
              obtain ⟨nv, hnv⟩ : ∃ nv : Int, (f i).n.tmod 20 = nv := ⟨_, rfl⟩
              go_wp2_with fail
              refine (Calls.mono (bo_opn B2.out s nv) ?_)
              rintro e w5 ⟨rfl, k5, cr⟩
              obtain ⟨E0, hE0⟩ : ∃ E, E = opnE l s nv := ⟨_, rfl⟩
              rw [← hE0] at cr ⊢
              have CR := Lib.hid cr
              clear cr k5 hE0
              go_wp2_with fail
              refine CR.out.mono ?_
              rintro e w6 ⟨rfl, b6⟩
              obtain ⟨m, hm⟩ : ∃ m, m = opnL l s nv := ⟨_, rfl⟩
              rw [← hm] at b6
              have B6 := Lib.hid b6
              clear b6 hm CR
              go_wp2_with fail
              refine (bo_get B6.out s).mono ?_
              rintro e w7 ⟨x, bb, rfl, hbb, k7⟩
              obtain ⟨y0, y1, y2⟩ := x
              simp only [Cu.cs]
              have HBB := Lib.hid hbb
              have B7 := Lib.hid ((B6.out.keep k7).keep ((Kept.refl w7 []).alloc (.cells #[.string y0, .int .i64 y1, .int .i64 y2] cuE)))
              clear k7 hbb
              go_wp2_with fail
              refine (bo_find B7.out s).mono ?_
              rintro e w8 ⟨v, rfl, hv, k8⟩
              rw [← HBB.out] at hv
              have B8 := Lib.hid (B7.out.keep k8)
              clear k8
              go_wp2_with fail
              refine (like_any B8.out).mono ?_
              rintro e w9 ⟨rfl, k9⟩
              have B9 := Lib.hid (show ∃ l, Bo W w9 p q l from ⟨_, B8.out.keep k9⟩)
              clear k9
              go_wp2
              go_roundw
              case rel => exact ⟨i + 1, by go_num, by omega, B9⟩
              case measure => simp [intOf]; omega
          · as_aux_lemma =>
              have xr8 : ((f i).d : Int) % 8 = 5 := by omega
              have xr2 : ((f i).d : Int) % 2 = 1 := by omega
              obtain ⟨nv, hnv⟩ : ∃ nv : Int, (f i).n = nv := ⟨_, rfl⟩
              go_wp2_with fail
              refine (Calls.mono (bo_fin B2.out s) ?_)
              rintro e w5 ⟨rfl, k5, cr⟩
              obtain ⟨E0, hE0⟩ : ∃ E, E = finN l s := ⟨_, rfl⟩
              rw [← hE0] at cr ⊢
              obtain ⟨E1, hE1⟩ : ∃ E, E = finE l s := ⟨_, rfl⟩
              rw [← hE1] at cr ⊢
              have CR := Lib.hid cr
              clear cr k5 hE0 hE1
              go_wp2_with fail
              refine CR.out.mono ?_
              rintro e w6 ⟨rfl, b6⟩
              obtain ⟨m, hm⟩ : ∃ m, m = finL l s := ⟨_, rfl⟩
              rw [← hm] at b6
              have B6 := Lib.hid b6
              clear b6 hm CR
              go_wp2_with fail
              refine (bo_get B6.out s).mono ?_
              rintro e w7 ⟨x, bb, rfl, hbb, k7⟩
              obtain ⟨y0, y1, y2⟩ := x
              simp only [Cu.cs]
              have HBB := Lib.hid hbb
              have B7 := Lib.hid ((B6.out.keep k7).keep ((Kept.refl w7 []).alloc (.cells #[.string y0, .int .i64 y1, .int .i64 y2] cuE)))
              clear k7 hbb
              go_wp2_with fail
              refine (bo_find B7.out s).mono ?_
              rintro e w8 ⟨v, rfl, hv, k8⟩
              rw [← HBB.out] at hv
              have B8 := Lib.hid (B7.out.keep k8)
              clear k8
              go_wp2_with fail
              refine (like_any B8.out).mono ?_
              rintro e w9 ⟨rfl, k9⟩
              have B9 := Lib.hid (show ∃ l, Bo W w9 p q l from ⟨_, B8.out.keep k9⟩)
              clear k9
              go_wp2
              go_roundw
              case rel => exact ⟨i + 1, by go_num, by omega, B9⟩
              case measure => simp [intOf]; omega
          · as_aux_lemma =>
              have xr8 : ((f i).d : Int) % 8 = 6 := by omega
              have xr2 : ((f i).d : Int) % 2 = 0 := by omega
              obtain ⟨nv, hnv⟩ : ∃ nv : Int, (f i).n.tmod 20 = nv := ⟨_, rfl⟩
              go_wp2_with fail
              refine (Calls.mono (bo_fin B2.out s) ?_)
              rintro e w5 ⟨rfl, k5, cr⟩
              obtain ⟨E0, hE0⟩ : ∃ E, E = finN l s := ⟨_, rfl⟩
              rw [← hE0] at cr ⊢
              obtain ⟨E1, hE1⟩ : ∃ E, E = finE l s := ⟨_, rfl⟩
              rw [← hE1] at cr ⊢
              have CR := Lib.hid cr
              clear cr k5 hE0 hE1
              go_wp2_with fail
              refine CR.out.mono ?_
              rintro e w6 ⟨rfl, b6⟩
              obtain ⟨m, hm⟩ : ∃ m, m = finL l s := ⟨_, rfl⟩
              rw [← hm] at b6
              have B6 := Lib.hid b6
              clear b6 hm CR
              go_wp2_with fail
              refine (bo_get B6.out s).mono ?_
              rintro e w7 ⟨x, bb, rfl, hbb, k7⟩
              obtain ⟨y0, y1, y2⟩ := x
              simp only [Cu.cs]
              have HBB := Lib.hid hbb
              have B7 := Lib.hid ((B6.out.keep k7).keep ((Kept.refl w7 []).alloc (.cells #[.string y0, .int .i64 y1, .int .i64 y2] cuE)))
              clear k7 hbb
              go_wp2_with fail
              refine (bo_find B7.out s).mono ?_
              rintro e w8 ⟨v, rfl, hv, k8⟩
              rw [← HBB.out] at hv
              have B8 := Lib.hid (B7.out.keep k8)
              clear k8
              go_wp2_with fail
              refine (like_any B8.out).mono ?_
              rintro e w9 ⟨rfl, k9⟩
              have B9 := Lib.hid (show ∃ l, Bo W w9 p q l from ⟨_, B8.out.keep k9⟩)
              clear k9
              go_wp2
              go_roundw
              case rel => exact ⟨i + 1, by go_num, by omega, B9⟩
              case measure => simp [intOf]; omega
          · as_aux_lemma =>
              have xr8 : ((f i).d : Int) % 8 = 7 := by omega
              have xr2 : ((f i).d : Int) % 2 = 1 := by omega
              obtain ⟨nv, hnv⟩ : ∃ nv : Int, (f i).n = nv := ⟨_, rfl⟩
              go_wp2_with fail
              refine (Calls.mono (bo_unr B2.out s) ?_)
              rintro e w5 ⟨rfl, k5, cr⟩
              obtain ⟨E0, hE0⟩ : ∃ E, E = unrE l s := ⟨_, rfl⟩
              rw [← hE0] at cr ⊢
              have CR := Lib.hid cr
              clear cr k5 hE0
              go_wp2_with fail
              refine CR.out.mono ?_
              rintro e w6 ⟨rfl, b6⟩
              obtain ⟨m, hm⟩ : ∃ m, m = unrL l s := ⟨_, rfl⟩
              rw [← hm] at b6
              have B6 := Lib.hid b6
              clear b6 hm CR
              go_wp2_with fail
              refine (bo_get B6.out s).mono ?_
              rintro e w7 ⟨x, bb, rfl, hbb, k7⟩
              obtain ⟨y0, y1, y2⟩ := x
              simp only [Cu.cs]
              have HBB := Lib.hid hbb
              have B7 := Lib.hid ((B6.out.keep k7).keep ((Kept.refl w7 []).alloc (.cells #[.string y0, .int .i64 y1, .int .i64 y2] cuE)))
              clear k7 hbb
              go_wp2_with fail
              refine (bo_find B7.out s).mono ?_
              rintro e w8 ⟨v, rfl, hv, k8⟩
              rw [← HBB.out] at hv
              have B8 := Lib.hid (B7.out.keep k8)
              clear k8
              go_wp2_with fail
              refine (like_any B8.out).mono ?_
              rintro e w9 ⟨rfl, k9⟩
              have B9 := Lib.hid (show ∃ l, Bo W w9 p q l from ⟨_, B8.out.keep k9⟩)
              clear k9
              go_wp2
              go_roundw
              case rel => exact ⟨i + 1, by go_num, by omega, B9⟩
              case measure => simp [intOf]; omega
      · have x1 : ¬ (i : Int) < (len : Int) := by omega
        go_wp2
        go_ret
        exact ⟨rfl, B1.out.kept.below (Nat.le_refl _) (by simp)⟩

set_option maxRecDepth 100000 in
theorem lifted (os : Os) (started : os.Started) (H : Type) (enc : TypeId × Value → H) :
    ReturnsInHanded {} Try.checked os 3 .any (Rows.cursorPlaysSpec.pre6 enc Try.prog Try.f3 Rows.cursorPlaysRow.domain false) (Rows.cursorPlaysSpec.post enc Try.prog Try.f3 false true false false) := by
  refine returnsInHanded_of_change (C := Try.checked) own started (by kernel_rfl) Try.func3
    (ChangeSpec.witness6 (enc := enc) (C := Try.checked) false ⟨#[], #[.slice none 0 0], []⟩ 8 (by kernel_rfl) (by kernel_rfl) (by kernel_rfl) (by kernel_rfl)) ?_
  intro W base args ds gs before hval0 hW hcnd _
  have hval : ∀ (j : Nat) t v, Try.f3.params[j]? = some t → args[j]? = some v → Value.okWide Try.prog W .any base t v := hval0
  have hW' := hW
  obtain ⟨p, q, hA0, hV, rfl, hfz, hnd⟩ := hW
  have hA : DataW.TrodAll enc Try.prog W 0 (fun _ => true) true Try.f3.params.toList args.toList ds p := hA0
  rw [Try.params3] at hA hval
  obtain ⟨v0, vs0, d0, ds0, p0, q0, hargs, rfl, rfl, h0, r0⟩ := trodAll_cons hA
  obtain ⟨rfl, rfl, rfl⟩ := trodAll_nil r0
  obtain rfl : args = #[v0] := by cases args; simp_all
  obtain ⟨rfl, rfl⟩ := trodVars_none hV
  obtain ⟨a0, len0, cap0, rfl⟩ := okWide_slice Try.underlying22 (hval 0 22 v0 rfl rfl)
  have k0 := h0
  have lt0 : ∀ x ∈ p0, x.block < W.heap.size := by obtain ⟨m, hm⟩ := k0; exact DataW.trod_lt m _ _ _ hm
  obtain ⟨z0, w0⟩ : ∃ f, IsActs W W.heap.size a0 len0 f ∧ len0 ≤ maxLen := by
    obtain ⟨fuel, hf⟩ := h0
    exact acts_open (by simpa [Value.cells] using hf)
  clear hA0 hval0
  refine (walk a0 len0 cap0 z0 W w0).mono fun e W' ⟨he, bel⟩ => ?_
  subst he
  exact ⟨_, rfl, _, _, _, [], _, [], hW', trodAll_mk1 (shut_bool Try.underlying4 _), (trodAll_cons_mk (Below.trod laidOut (by kernel_rfl) (of_decide_eq_true (by kernel_rfl)) k0 bel lt0) trodAll_mk0), rfl, bel.frame _, fun h => by cases h⟩

theorem over : Rows.cursorPlaysRow.holds Try.pinned (OpenSpec.ofChange Rows.cursorPlaysSpec) :=
  OpenClaim.holds_of_wide 3 Try.f3 rfl rfl rfl rfl rfl rfl rfl ⟨rfl, rfl, rfl, rfl, rfl⟩ rfl rfl rfl rfl rfl (by kernel_rfl) Try.func3 (by kernel_rfl)
    (of_decide_eq_true (by kernel_rfl)) (by unfold Func.isWrapper; first | (rw [if_pos (by decide +kernel)]; kernel_rfl) | (rw [if_neg (by decide +kernel)]; exact ⟨rfl, rfl⟩))
    (fun os started H enc _ => lifted os started H enc)

theorem proved : Rows.CursorPlaysSaid :=
  over
end Go.Proofs.Ytnoiomaoignndaa.cursorPlays

namespace Go.Proofs.Ytnoiomaoignndaa
theorem cursorPlays_holds : Rows.CursorPlaysSaid := cursorPlays.proved
#print axioms cursorPlays_holds
end Go.Proofs.Ytnoiomaoignndaa

