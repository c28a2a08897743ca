/-
  The code's spools: New, Cur, has, next, Len, Rotate.
-/
import Derived.Test.YtalplhhmghnggaaSpa
import Derived.Deep.QuietTactic
import Derived.BigQuiet
import Derived.RegionTactic
namespace Go.Proofs.Ytalplhhmghnggaa
set_option linter.unusedVariables false
open Go.RowKit

variable {w w' : World} {B h c : Nat} {V : Nat → Value} {l : Nat → List Ev}

abbrev spT : TypeId := 56

theorem Sp.shape {T : TypeId} (a : Sp T w B h V l c) (i : Nat) (hi : i < 3) : ∃ u n, V i = .slice u (l i).length n := (a.own i hi).shape

def nxt (c : Nat) : Nat := (c + 1) % 3
theorem nxt_lt (c : Nat) : nxt c < 3 := Nat.mod_lt _ (by omega)
theorem nxt_int (c : Nat) : ((c : Int) + 1).tmod 3 = ((nxt c : Nat) : Int) := by unfold nxt; rw [Int.tmod_eq_emod_of_nonneg (by omega)]; omega

set_option maxHeartbeats 1000000 in
theorem new_any (w : World) : Calls Try.prog 10 #[] w fun e w' => ∃ h, e = .returned (.pointer (some ⟨h, 0, none⟩)) ∧ Sp spT w' w.heap.size h (fun _ => .slice none 0 0) (fun _ => []) 0 ∧ Kept w w' [] := by
  go_enter Try.func10, Try.ntmps10
  go_wp2
  go_ret
  exact ⟨w.heap.size, rfl, ⟨heap_alloc_new w _, Nat.le_refl _, by omega, fun i _ => OwnE.nil _ _ _⟩, (Kept.refl w []).alloc _⟩

set_option maxHeartbeats 1000000 in
theorem cur_any (a : Sp spT w B h V l c) : Calls Try.prog 18 #[.pointer (some ⟨h, 0, none⟩)] w fun e w' => e = .returned (.int .i64 c) ∧ w' = w := by
  have c3 := a.cur.1
  clear a
  go_enter Try.func18, Try.ntmps18
  go_wp2
  go_ret
  exact ⟨rfl, rfl⟩

set_option maxHeartbeats 1000000 in
theorem cur_nil (w : World) : Calls Try.prog 18 #[.pointer none] w fun e w' => e = .returned (.int .i64 0) ∧ w' = w := by
  go_enter Try.func18, Try.ntmps18
  go_wp2
  go_ret
  exact ⟨rfl, rfl⟩

/-- There is such a table. -/
def isT (i : Int) : Bool := decide (0 ≤ i ∧ i < 3)

set_option maxHeartbeats 1000000 in
theorem has_any (h : Nat) (i : Int) (w : World) : Calls Try.prog 27 #[.pointer (some ⟨h, 0, none⟩), .int .i64 i] w fun e w' => e = .returned (.bool (isT i)) ∧ w' = w := by
  unfold isT
  by_cases h0 : 0 ≤ i
  · by_cases h3 : i < 3
    · rw [decide_eq_true ⟨h0, h3⟩]
      go_enter Try.func27, Try.ntmps27
      go_wp2
      go_ret
      exact ⟨rfl, rfl⟩
    · rw [decide_eq_false (fun h => h3 h.2)]
      go_enter Try.func27, Try.ntmps27
      go_wp2
      go_ret
      exact ⟨rfl, rfl⟩
  · rw [decide_eq_false (fun h => h0 h.1)]
    go_enter Try.func27, Try.ntmps27
    go_wp2
    go_ret
    exact ⟨rfl, rfl⟩

set_option maxHeartbeats 1000000 in
theorem has_nil (i : Int) (w : World) : Calls Try.prog 27 #[.pointer none, .int .i64 i] w fun e w' => e = .returned (.bool false) ∧ w' = w := by
  go_enter Try.func27, Try.ntmps27
  go_wp2
  go_ret
  exact ⟨rfl, rfl⟩

set_option maxHeartbeats 1000000 in
theorem next_any (a : Sp spT w B h V l c) : Calls Try.prog 30 #[.pointer (some ⟨h, 0, none⟩)] w fun e w' => e = .returned (.int .i64 (nxt c : Nat)) ∧ w' = w := by
  have HC := Lib.hid (cur_any a)
  have hn := nxt_int c
  have hc := a.c3
  generalize nxt c = d at hn ⊢
  clear a
  go_enter Try.func30, Try.ntmps30
  go_wp2_with (go_at_call 18; refine HC.out.mono ?_; rintro e w' ⟨rfl, rfl⟩)
  go_ret
  exact ⟨rfl, rfl⟩

set_option maxHeartbeats 1000000 in
theorem next_nil (w : World) : Calls Try.prog 30 #[.pointer none] w fun e w' => e = .returned (.int .i64 1) ∧ w' = w := by
  go_enter Try.func30, Try.ntmps30
  go_wp2_with (go_at_call 18; refine (cur_nil _).mono ?_; rintro e w' ⟨rfl, rfl⟩)
  go_ret
  exact ⟨rfl, rfl⟩

set_option maxHeartbeats 1000000 in
theorem len_nil (w : World) : Calls Try.prog 24 #[.pointer none] w fun e w' => e = .returned (.int .i64 0) ∧ w' = w := by
  go_enter Try.func24, Try.ntmps24
  go_wp2
  go_ret
  exact ⟨rfl, rfl⟩

def lenN (l : Nat → List Ev) : Nat := (l 0).length + (l 1).length + (l 2).length

set_option maxHeartbeats 2000000 in
theorem len_any (a : Sp spT w B h V l c) (hl : ∀ i, i < 3 → (l i).length < 1099511627776) : Calls Try.prog 24 #[.pointer (some ⟨h, 0, none⟩)] w fun e w' => e = .returned (.int .i64 (lenN l : Nat)) ∧ w' = w := by
  have c0 := (a.cell 0 (by omega)).1
  have c1 := (a.cell 1 (by omega)).1
  have c2 := (a.cell 2 (by omega)).1
  obtain ⟨u0, n0, e0⟩ := a.shape 0 (by omega)
  obtain ⟨u1, n1, e1⟩ := a.shape 1 (by omega)
  obtain ⟨u2, n2, e2⟩ := a.shape 2 (by omega)
  rw [e0] at c0
  rw [e1] at c1
  rw [e2] at c2
  have h0 := hl 0 (by omega); have h1 := hl 1 (by omega); have h2 := hl 2 (by omega)
  unfold lenN
  clear a hl e0 e1 e2
  generalize (l 0).length = m0 at *
  generalize (l 1).length = m1 at *
  generalize (l 2).length = m2 at *
  have i0 : ∀ w, (Instr.index 28 (.agg #[.slice u0 m0 n0, .slice u1 m1 n1, .slice u2 m2 n2]) (.int .i64 0)).run Try.prog w = .ok (.slice u0 m0 n0) w := fun _ => by kernel_rfl
  have i1 : ∀ w, (Instr.index 28 (.agg #[.slice u0 m0 n0, .slice u1 m1 n1, .slice u2 m2 n2]) (.int .i64 1)).run Try.prog w = .ok (.slice u1 m1 n1) w := fun _ => by kernel_rfl
  have i2 : ∀ w, (Instr.index 28 (.agg #[.slice u0 m0 n0, .slice u1 m1 n1, .slice u2 m2 n2]) (.int .i64 2)).run Try.prog w = .ok (.slice u2 m2 n2) w := fun _ => by kernel_rfl
  go_enter Try.func24, Try.ntmps24
  go_wp2
  go_loopg [12, 3, 5] 3 (fun kx s12 s3 _ wr => ∃ k n : Nat, s12 = .int .i64 k ∧ s3 = .int .i64 n ∧ 3 - k ≤ kx ∧ wr = w ∧ (k = 0 ∧ n = 0 ∨ k = 1 ∧ n = m0 ∨ k = 2 ∧ n = m0 + m1 ∨ k = 3 ∧ n = m0 + m1 + m2))
  case atStart => exact ⟨0, 0, rfl, rfl, by omega, rfl, by omega⟩
  case round =>
    obtain ⟨k, n, rfl, rfl, hk, rfl, ⟨rfl, rfl⟩ | ⟨rfl, rfl⟩ | ⟨rfl, rfl⟩ | ⟨rfl, rfl⟩⟩ := hrel
    · go_wp2
      go_roundg 2
      case measure => omega
      case rel => exact ⟨1, m0, by go_num, by go_num, by omega, rfl, by omega⟩
    · go_wp2
      go_roundg 1
      case measure => omega
      case rel => exact ⟨2, n + m1, by go_num, by go_num, by omega, rfl, by omega⟩
    · go_wp2
      go_roundg 0
      case measure => omega
      case rel => exact ⟨3, m0 + m1 + m2, by go_num, by go_num, by omega, rfl, by omega⟩
    · go_wp2
      go_ret
      exact ⟨by go_num, rfl⟩

/-- What Rotate does: what it tells, the error, the tables, the current one. -/
def rotS (l : Nat → List Ev) (c : Nat) (free : Bool) : Nat × Int × (Nat → List Ev) × Nat :=
  if l (nxt c) = [] then (2, 0, l, nxt c) else if free = true then (1, 0, upd l (nxt c) [], c) else (0, 9, l, c)

set_option maxHeartbeats 2000000 in
theorem srotate_any (a : Sp spT w B h V l c) (d : Dst V) (free : Bool) :
    Calls Try.prog 16 #[.pointer (some ⟨h, 0, none⟩), .bool free] w fun e w' => e = .returned (.tuple #[.int .u8 (rotS l c free).1, .int .i64 (rotS l c free).2.1]) ∧
      ∃ V', Sp spT w' B h V' (rotS l c free).2.2.1 (rotS l c free).2.2.2 ∧ Dst V' ∧ Stp (sfoot h V) (sfoot h V') w w' := by
  have HN := Lib.hid (next_any a)
  obtain ⟨u, n, e⟩ := a.shape (nxt c) (nxt_lt c)
  have ci := (a.cell (nxt c) (nxt_lt c)).1
  have ff := (a.cell (nxt c) (nxt_lt c)).2
  rw [e] at ci
  have hk := nxt_lt c
  have c3 := a.cur
  obtain ⟨c3, f3⟩ := c3
  have A := Lib.hid a; have D := Lib.hid d
  clear a d e
  by_cases h0 : l (nxt c) = []
  · have HR : RowKit.Hid (rotS l c free = (2, 0, l, nxt c)) := Lib.hid (by unfold rotS; rw [if_pos h0])
    rw [HR.out]
    rw [h0] at ci
    generalize nxt c = k at *
    clear h0 ff
    go_enter Try.func16, Try.ntmps16
    go_wp2_with (go_at_call 30; refine HN.out.mono ?_; rintro e w' ⟨rfl, rfl⟩)
    (try simp only [Exit.inBlock, Exit.then])
    refine bodyPost_ret (v := .tuple #[.int .u8 2, .int .i64 0]) (by simp [results, Try.results16, go_sem]) rfl ?_
    exact ⟨rfl, V, A.out.turn (by decide) hk, D.out, (Fo.refl _ _).setCell (.inl (.inl rfl)) _, fun k h => .inl h⟩
  · have hl : ((l (nxt c)).length == 0) = false := by rw [beq_eq_false_iff_ne]; intro h; exact h0 (List.eq_nil_of_length_eq_zero h)
    have hlz : (((l (nxt c)).length : Int) == 0) = false := by rw [beq_eq_false_iff_ne] at hl ⊢; omega
    cases free with
    | true =>
      have HR : RowKit.Hid (rotS l c true = (1, 0, upd l (nxt c) [], c)) := Lib.hid (by unfold rotS; rw [if_neg h0, if_pos rfl])
      rw [HR.out]
      have HF := Lib.hid (A.out.lay (by decide) D.out hk (Fo.refl _ w) (OwnE.nil w B _) (by intro k hk; simp [Value.ownBlock] at hk))
      clear h0
      generalize (l (nxt c)).length = m at *
      generalize nxt c = k at *
      go_enter Try.func16, Try.ntmps16
      go_wp2_with (go_at_call 30; refine HN.out.mono ?_; rintro e w' ⟨rfl, rfl⟩)
      (try simp only [Exit.inBlock, Exit.then])
      refine bodyPost_ret (v := .tuple #[.int .u8 1, .int .i64 0]) (by simp [results, Try.results16, go_sem]) rfl ?_
      obtain ⟨_, h1, h2, h3, _⟩ := HF.out
      exact ⟨rfl, _, h1, h2, h3⟩
    | false =>
      have HR : RowKit.Hid (rotS l c false = (0, 9, l, c)) := Lib.hid (by unfold rotS; rw [if_neg h0, if_neg (by simp)])
      rw [HR.out]
      clear h0
      generalize (l (nxt c)).length = m at *
      generalize nxt c = k at *
      go_enter Try.func16, Try.ntmps16
      go_wp2_with (go_at_call 30; refine HN.out.mono ?_; rintro e w' ⟨rfl, rfl⟩)
      (try simp only [Exit.inBlock, Exit.then])
      refine bodyPost_ret (v := .tuple #[.int .u8 0, .int .i64 9]) (by simp [results, Try.results16, go_sem]) rfl ?_
      exact ⟨rfl, V, A.out, D.out, Stp.refl _ _⟩

set_option maxHeartbeats 1000000 in
theorem srotate_nil (free : Bool) (w : World) : Calls Try.prog 16 #[.pointer none, .bool free] w fun e w' => e = .returned (.tuple #[.int .u8 0, .int .i64 4]) ∧ w' = w := by
  go_enter Try.func16, Try.ntmps16
  go_wp2
  (try simp only [Exit.inBlock, Exit.then])
  refine bodyPost_ret (v := .tuple #[.int .u8 0, .int .i64 4]) (by simp [results, Try.results16, go_sem]) rfl ?_
  exact ⟨rfl, rfl⟩

end Go.Proofs.Ytalplhhmghnggaa
