/-
  The code's consumers: Open, Finish, Least.
-/
import Derived.Test.YtnoiomaoignndaaCud
namespace Go.Proofs.Ytnoiomaoignndaa
set_option linter.unusedVariables false
open Go.RowKit

/-- One cell of one element is written over. -/
theorem OwnK.set1 {α : Type} {E : Enc α} {w : World} {B g n c : Nat} {e : TypeId} {l : List α} (h : OwnK E w B e (.slice (some ⟨g, 0, none⟩) n c) l) {i : Nat} {x y : α} (hx : l[i]? = some x) {j : Nat} (hj : j < E.k) {u : Value} (hy : (E.cs y).toList = (E.cs x).toList.set j u) :
    OwnK E (w.setCell ⟨g, i * E.k + j, none⟩ u) B e (.slice (some ⟨g, 0, none⟩) n c) (l.set i y) := by
  obtain ⟨R, hg, hBg, rfl, hlc, hcm, hRl, hRt⟩ := h.row
  obtain ⟨hi, rfl⟩ := List.getElem?_eq_some_iff.1 hx
  have h1 := heap_setCell_at hg (i * E.k + j) u
  rw [List.setIfInBounds_toArray] at h1
  have hh := ownK_row (E := E) (l := l.set i y) (B := B) (cap := c) h1 hBg (by rw [List.length_set]; exact hlc) hcm (by rw [List.length_set]; exact hRl) (by
    have e1 := kcs_set E l i l[i] hi
    rw [List.set_getElem_self] at e1
    have hA : ((kcs E l).take (i * E.k)).length = i * E.k := by
      rw [← kcs_take E l i (by omega), kcs_length, List.length_take, Nat.min_eq_left (by omega)]
    rw [List.length_set, List.take_set, hRt, kcs_set E l i y hi, hy]
    conv => lhs; rw [e1]
    rw [List.append_assoc, List.append_assoc, List.set_append, if_neg (by rw [hA]; omega), hA, Nat.add_sub_cancel_left, List.set_append, if_pos (by rw [Array.length_toList, E.size]; exact hj)])
  rw [List.length_set] at hh
  exact hh

variable {w w' : World} {B h : Nat} {V : Value} {l : List Cu}

set_option maxHeartbeats 1000000 in
theorem copn_nil (n : ByteArray) (nx : Int) (w : World) : Calls Try.prog 14 #[.pointer none, .string n, .int .i64 nx] w fun e w' => e = .returned (.int .i64 4) ∧ w' = w := by
  go_enter Try.func14, Try.ntmps14
  go_wp2_with (go_at_call 25; refine (cfind_nil _ _).mono ?_; rintro e w2 ⟨rfl, rfl⟩)
  go_ret
  exact ⟨rfl, rfl⟩
set_option maxHeartbeats 1000000 in
theorem cfin_nil (n : ByteArray) (w : World) : Calls Try.prog 16 #[.pointer none, .string n] w fun e w' => e = .returned (.tuple #[.int .i64 0, .int .i64 4]) ∧ w' = w := by
  go_enter Try.func16, Try.ntmps16
  go_wp2_with (go_at_call 25; refine (cfind_nil _ _).mono ?_; rintro e w2 ⟨rfl, rfl⟩)
  go_ret2
  exact ⟨rfl, rfl⟩
set_option maxHeartbeats 1000000 in
theorem clea_nil (w : World) : Calls Try.prog 24 #[.pointer none] w fun e w' => e = .returned (.tuple #[.int .i64 0, .bool false]) ∧ w' = w := by
  go_enter Try.func24, Try.ntmps24
  go_wp2
  go_ret2
  exact ⟨rfl, rfl⟩

/-- One that is there: its place, its cells. -/
theorem Cc.hit {T e : TypeId} (a : Cc T e w B h V l) {i : Nat} {x : Cu} (hx : l[i]? = some x) : ∃ g c, V = .slice (some ⟨g, 0, none⟩) l.length c ∧ w.cell? ⟨h, 0, none⟩ = some (.slice (some ⟨g, 0, none⟩) l.length c) ∧
    (w.cell? ⟨g, i * 3, none⟩ = some (.string x.nm) ∧ w.cell? ⟨g, i * 3 + 1, none⟩ = some (.int .i64 x.la) ∧ w.cell? ⟨g, i * 3 + 2, none⟩ = some (.int .i64 x.op)) ∧
    (w.frozen? ⟨g, i * 3, none⟩ = false ∧ w.frozen? ⟨g, i * 3 + 1, none⟩ = false ∧ w.frozen? ⟨g, i * 3 + 2, none⟩ = false) := by
  obtain ⟨u, c, e⟩ := a.shape
  have o1 := a.own
  have v1 := a.cell.1
  rw [e] at o1 v1
  obtain ⟨g, rfl, hgc⟩ := o1.at hx
  exact ⟨g, c, e, v1, o1.three hx, o1.threeF hx⟩

set_option maxHeartbeats 2000000 in
set_option maxRecDepth 100000 in
theorem copn_any (a : Cc cuT cuE w B h V l) (ok : OkC l) (n : ByteArray) (nx : Int) : Calls Try.prog 14 #[.pointer (some ⟨h, 0, none⟩), .string n, .int .i64 nx] w (ChgPost w B h V cuT cuE (.int .i64 (opnE l n nx)) (opnL l n nx)) := by
  have FD := Lib.hid (cfind_any a ok n)
  have A := Lib.hid a; have OK := Lib.hid ok
  cases hp : plc l n with
  | none =>
    have e1 : opnE l n nx = 4 := by rw [opnE, getC_none hp]
    have e2 : opnL l n nx = l := by rw [opnL, hp]
    rw [e1, e2]
    rw [hp] at FD
    simp only [Option.isSome_none] at FD
    clear a ok hp e1 e2
    go_enter Try.func14, Try.ntmps14
    go_wp2_with (go_at_call 25; refine FD.out.mono ?_; rintro e w2 ⟨rfl, k2⟩)
    go_ret
    exact ⟨rfl, V, A.out.keep k2, Stp.ofK k2⟩
  | some i =>
    obtain ⟨x, hx, hxn⟩ := plc_some hp
    have hg := getC_plc hp hx
    have hop := ok.op0 x (List.mem_of_getElem? hx)
    have few := ok.few
    have hil : i < l.length := (List.getElem?_eq_some_iff.1 hx).1
    have x2 : (i : Int) < (l.length : Int) := by omega
    rw [hp, plc_ahd ok.nms hp] at FD
    simp only [Option.isSome_some] at FD
    have HX := Lib.hid hx; have HXN := Lib.hid hxn
    have hE : opnE l n nx = if 0 < x.op then 7 else if nx ≤ x.la then 1 else 0 := by rw [opnE, hg]
    have hL : opnL l n nx = if 0 < x.op ∨ nx ≤ x.la then l else l.set i ⟨n, x.la, nx⟩ := by rw [opnL, hp, hg]
    rw [hE, hL]
    clear hp hg hE hL hx hxn a ok
    by_cases h1 : 0 < x.op
    · rw [if_pos h1, if_pos (.inl h1)]
      have b1 : (x.op == 0) = false := by rw [beq_eq_false_iff_ne]; omega
      obtain ⟨y, hy⟩ : ∃ y, y = x.op := ⟨_, rfl⟩
      have HY := Lib.hid hy
      rw [← hy] at b1
      clear h1 hop hy
      go_enter Try.func14, Try.ntmps14
      go_wp2_with (go_at_call 25; refine FD.out.mono ?_; rintro e w2 ⟨rfl, k2⟩; obtain ⟨g, c, hv, c0, ⟨d0, d1, d2⟩, -⟩ := (A.out.keep k2).hit HX.out; rw [← HY.out] at d2; clear hv)
      go_ret
      exact ⟨rfl, V, A.out.keep k2, Stp.ofK k2⟩
    · have h10 : x.op = 0 := by omega
      by_cases h2 : nx ≤ x.la
      · rw [if_neg h1, if_pos h2, if_pos (.inr h2)]
        have H10 := Lib.hid h10
        obtain ⟨y, hy⟩ : ∃ y, y = x.la := ⟨_, rfl⟩
        have HY := Lib.hid hy
        rw [← hy] at h2
        clear h1 hop hy h10
        go_enter Try.func14, Try.ntmps14
        go_wp2_with (go_at_call 25; refine FD.out.mono ?_; rintro e w2 ⟨rfl, k2⟩; obtain ⟨g, c, hv, c0, ⟨d0, d1, d2⟩, -⟩ := (A.out.keep k2).hit HX.out; rw [H10.out] at d2; rw [← HY.out] at d1; clear hv)
        go_ret
        exact ⟨rfl, V, A.out.keep k2, Stp.ofK k2⟩
      · rw [if_neg h1, if_neg h2, if_neg (by omega)]
        have H10 := Lib.hid h10
        obtain ⟨y, hy⟩ : ∃ y, y = x.la := ⟨_, rfl⟩
        have HY := Lib.hid hy
        rw [← hy] at h2
        have h3 : y < nx := by omega
        clear h1 hop hy h10
        go_enter Try.func14, Try.ntmps14
        go_wp2_with fail
        refine FD.out.mono ?_
        rintro e w2 ⟨rfl, k2⟩
        have a2 := A.out.keep k2
        obtain ⟨g, c, hv, c0, ⟨d0, d1, d2⟩, ⟨f0, f1, f2⟩⟩ := a2.hit HX.out
        have o2 := a2.own
        rw [hv] at o2
        have o3 := o2.set1 (y := ⟨n, x.la, nx⟩) HX.out (j := 2) (by decide) (u := .int .i64 nx) (by show [_, _, _] = List.set [_, _, _] 2 _; rw [HXN.out]; rfl)
        rw [← hv] at o3
        obtain ⟨a3, s3⟩ := a2.turn ((Fo.refl _ w2).setCell (p := ⟨g, i * 3 + 2, none⟩) (.inl (by rw [hv]; rfl)) (.int .i64 nx)) o3
        have A3 := Lib.hid a3; have S3 := Lib.hid (s3.afterK k2)
        rw [H10.out] at d2
        rw [← HY.out] at d1
        clear a2 o2 o3 a3 s3 hv k2
        go_wp2
        go_ret
        rw [HY.out]
        exact ⟨rfl, V, A3.out, S3.out⟩

end Go.Proofs.Ytnoiomaoignndaa
