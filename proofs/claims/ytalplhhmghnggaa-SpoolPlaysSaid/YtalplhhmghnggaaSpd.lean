/-
  The code's spools: Add, List, Next.
-/
import Derived.Test.YtalplhhmghnggaaSpc
namespace Go.Proofs.Ytalplhhmghnggaa
set_option linter.unusedVariables false
open Go.RowKit

variable {w w' : World} {B h c : Nat} {V : Nat → Value} {l : Nat → List Ev}

theorem Stp.ofKept {O : Nat → Prop} {a b : World} (h : Kept a b []) : Stp O O a b := ⟨Fo.ofKept h O, fun _ h => .inl h⟩
theorem Stp.after {O O1 : Nat → Prop} {a b c : World} (h : Kept a b []) (k : Stp O O1 b c) : Stp O O1 a c := (Stp.ofKept h).trans k
theorem Stp.then {O O1 : Nat → Prop} {a b c : World} (h : Stp O O1 a b) (k : Kept b c []) : Stp O O1 a c := h.trans (Stp.ofKept k)

set_option maxHeartbeats 2000000 in
set_option maxRecDepth 100000 in
theorem add_any (a : Sp spT w B h V l c) (d : Dst V) (hl : (l c).length < 1000000) (e : Ev) :
    Calls Try.prog 11 #[.pointer (some ⟨h, 0, none⟩), .agg e.cs] w fun r w' => r = .returned (.tuple #[]) ∧ ∃ V', Sp spT w' B h V' (upd l c (l c ++ [e])) c ∧ Dst V' ∧ Stp (sfoot h V) (sfoot h V') w w' := by
  obtain ⟨z, hz⟩ : ∃ z, z = w.heap.size := ⟨_, rfl⟩
  obtain ⟨W1, hW1⟩ : ∃ W1, W1 = w.alloc (.cells e.cs 36) := ⟨_, rfl⟩
  have k1 : Kept w W1 [] := by rw [hW1]; exact (Kept.refl w []).alloc _
  have g1 : W1.heap[z]? = some (.cells e.cs 36 (0, 0)) := by rw [hW1, hz]; exact heap_alloc_new w _
  have S1 := Lib.hid (((Kept.refl W1 []).drew).heap (by simp) g1)
  have CU := Lib.hid (cur_any (a.keep k1.drew))
  have CA := Lib.hid (addto_any (a.keep k1.drew) d c a.c3 hl e)
  have ZF := Lib.hid (show ¬ sfoot h V z from fun hk => by have := (a.lt z hk).2; omega)
  have K1 := Lib.hid k1.drew; have HW1 := Lib.hid hW1; have HZ := Lib.hid hz
  rcases e with ⟨b0, b1, b2, b3, b4, b5, b6, b7⟩
  have G1 := Lib.hid g1
  clear a d k1 g1 hl
  simp only [Ev.cs] at *
  go_enter Try.func11, Try.ntmps11
  go_wp2_with fail
  rw [← HW1.out, ← HZ.out]
  clear hW1 hz
  refine wp_region_held_drew (S := fun V => V.heap[z]? = some (.cells #[.int .i64 b0, .int .i64 b1, .string b2, .int .i64 b3, .int .i64 b4, .int .u8 b5, .int .i64 b6, .string b7] 36 (0, 0))) (by kernel_rfl) S1.out (fun hHeld => ?_)
  refine wpAnyH_take (i := 0) (oi := _) (v := .pointer (some ⟨h, 0, none⟩)) rfl (by kernel_rfl) (by kernel_rfl) (by kernel_rfl) (fun _ _ _ h => h) (Or.inl ⟨by rfl, fun V hV => by go_simp⟩) hHeld ?_
  change wpAnyH _ _ _ _ _ _ _ (Act.put _ (some 4) _) _
  simp only [Act.put, List.setIfInBounds_toArray, List.set_cons_zero, List.set_cons_succ]
  refine wpAnyH_take (i := 1) (oi := _) (v := .pointer (some ⟨h, 0, none⟩)) rfl (by kernel_rfl) (by kernel_rfl) (by kernel_rfl) (fun _ _ _ h => h) (Or.inl ⟨by rfl, fun V hV => by go_simp⟩) hHeld ?_
  change wpAnyH _ _ _ _ _ _ _ (Act.put _ (some 5) _) _
  simp only [Act.put, List.setIfInBounds_toArray, List.set_cons_zero, List.set_cons_succ]
  refine wpAnyH_take (i := 3) (oi := _) (v := .agg #[.int .i64 b0, .int .i64 b1, .string b2, .int .i64 b3, .int .i64 b4, .int .u8 b5, .int .i64 b6, .string b7]) rfl (by kernel_rfl) (by kernel_rfl) (by kernel_rfl) (fun _ _ _ h => h) (Or.inl ⟨by rfl, fun V hV => by (obtain ⟨q0, q1, q2, q3, q4, q5, q6, q7⟩ := ev_cells hV; clear hV; go_simp)⟩) hHeld ?_
  change wpAnyH _ _ _ _ _ _ _ (Act.put _ (some 7) _) _
  simp only [Act.put, List.setIfInBounds_toArray, List.set_cons_zero, List.set_cons_succ]
  refine wpAnyH_ready (rs := [2]) (by kernel_rfl) (by simp) ?_
  refine AllReadyH.cons (o := _) rfl (fun K hK => ?_) AllReadyH.nil
  go_simp
  go_at_call 18
  refine CU.out.mono ?_
  rintro e w2 ⟨rfl, rfl⟩
  go_wp2_with fail
  refine hK.out _ _ S1.out (fun hHeld => ?_)
  clear hK K
  refine wpAnyH_ready (rs := [4]) (by kernel_rfl) (by simp) ?_
  refine AllReadyH.cons (o := _) rfl (fun K hK => ?_) AllReadyH.nil
  go_simp
  go_at_call 13
  refine CA.out.mono ?_
  rintro e w2 ⟨rfl, V2, r9, d9, p9⟩
  have R9 := Lib.hid r9; have D9 := Lib.hid d9; have P9 := Lib.hid p9
  clear r9 d9 p9
  go_wp2_with fail
  refine hK.out _ _ ?_ (fun hHeld => ?_)
  · exact P9.out.1.heap ZF.out S1.out
  · clear hK K
    refine wpAnyH_done (by kernel_rfl) ?_ _
    go_wp2
    exact bodyPost_end (results_none rfl _ _ _) rfl ⟨rfl, V2, R9.out, D9.out, P9.out.after K1.out⟩

set_option maxHeartbeats 1000000 in
theorem add_nil (e : Ev) (w : World) : Calls Try.prog 11 #[.pointer none, .agg e.cs] w fun r w' => r = .returned (.tuple #[]) ∧ Kept w w' [] := by
  have CA : RowKit.Hid (∀ W, Kept w W [] → Calls Try.prog 13 #[.pointer none, .int .i64 0, .agg e.cs] W fun r w' => r = .returned (.int .i64 4) ∧ Kept w w' [] ∧ Kept W w' []) := Lib.hid (fun W hW => (addto_nil 0 e W).mono (fun r w' ⟨h1, h2⟩ => ⟨h1, hW.trans h2 (by simp), h2⟩))
  rcases e with ⟨b0, b1, b2, b3, b4, b5, b6, b7⟩
  simp only [Ev.cs] at *
  have k8 : Kept w ((w.alloc (.cells #[.int .i64 b0, .int .i64 b1, .string b2, .int .i64 b3, .int .i64 b4, .int .u8 b5, .int .i64 b6, .string b7] 36)).drew) [] := ((Kept.refl w []).alloc _).drew
  have g1 : ((w.alloc (.cells #[.int .i64 b0, .int .i64 b1, .string b2, .int .i64 b3, .int .i64 b4, .int .u8 b5, .int .i64 b6, .string b7] 36)).drew).heap[w.heap.size]? = some (.cells #[.int .i64 b0, .int .i64 b1, .string b2, .int .i64 b3, .int .i64 b4, .int .u8 b5, .int .i64 b6, .string b7] 36 (0, 0)) := heap_alloc_new w _
  have CA1 := Lib.hid (CA.out _ k8)
  have S1 := Lib.hid g1
  clear CA k8 g1
  go_enter Try.func11, Try.ntmps11
  go_wp2_with fail
  refine wp_region_held_drew (S := fun V => V.heap[w.heap.size]? = some (.cells #[.int .i64 b0, .int .i64 b1, .string b2, .int .i64 b3, .int .i64 b4, .int .u8 b5, .int .i64 b6, .string b7] 36 (0, 0))) (by kernel_rfl) S1.out (fun hHeld => ?_)
  refine wpAnyH_take (i := 0) (oi := _) (v := .pointer none) rfl (by kernel_rfl) (by kernel_rfl) (by kernel_rfl) (fun _ _ _ h => h) (Or.inl ⟨by rfl, fun V hV => by go_simp⟩) hHeld ?_
  change wpAnyH _ _ _ _ _ _ _ (Act.put _ (some 4) _) _
  simp only [Act.put, List.setIfInBounds_toArray, List.set_cons_zero, List.set_cons_succ]
  refine wpAnyH_take (i := 1) (oi := _) (v := .pointer none) rfl (by kernel_rfl) (by kernel_rfl) (by kernel_rfl) (fun _ _ _ h => h) (Or.inl ⟨by rfl, fun V hV => by go_simp⟩) hHeld ?_
  change wpAnyH _ _ _ _ _ _ _ (Act.put _ (some 5) _) _
  simp only [Act.put, List.setIfInBounds_toArray, List.set_cons_zero, List.set_cons_succ]
  refine wpAnyH_take (i := 3) (oi := _) (v := .agg #[.int .i64 b0, .int .i64 b1, .string b2, .int .i64 b3, .int .i64 b4, .int .u8 b5, .int .i64 b6, .string b7]) rfl (by kernel_rfl) (by kernel_rfl) (by kernel_rfl) (fun _ _ _ h => h) (Or.inl ⟨by rfl, fun V hV => by (obtain ⟨q0, q1, q2, q3, q4, q5, q6, q7⟩ := ev_cells hV; clear hV; go_simp)⟩) hHeld ?_
  change wpAnyH _ _ _ _ _ _ _ (Act.put _ (some 7) _) _
  simp only [Act.put, List.setIfInBounds_toArray, List.set_cons_zero, List.set_cons_succ]
  refine wpAnyH_ready (rs := [2]) (by kernel_rfl) (by simp) ?_
  refine AllReadyH.cons (o := _) rfl (fun K hK => ?_) AllReadyH.nil
  go_simp
  go_at_call 18
  refine (cur_nil _).mono ?_
  rintro e w2 ⟨rfl, rfl⟩
  go_wp2_with fail
  refine hK.out _ _ S1.out (fun hHeld => ?_)
  clear hK K
  refine wpAnyH_ready (rs := [4]) (by kernel_rfl) (by simp) ?_
  refine AllReadyH.cons (o := _) rfl (fun K hK => ?_) AllReadyH.nil
  go_simp
  go_at_call 13
  refine CA1.out.mono ?_
  rintro e w2 ⟨rfl, k9, k10⟩
  have K9 := Lib.hid k9; have S9 := Lib.hid (k10.heap (by simp) S1.out)
  clear k9 k10
  go_wp2_with fail
  refine hK.out _ _ S9.out (fun hHeld => ?_)
  clear hK K
  refine wpAnyH_done (by kernel_rfl) ?_ _
  go_wp2
  exact bodyPost_end (results_none rfl _ _ _) rfl ⟨rfl, K9.out⟩

set_option maxHeartbeats 1000000 in
set_option maxRecDepth 100000 in
theorem eclone_any (v : Value) (m : List Ev) (w : World) (h : RdE w v m) (hl : m.length ≤ 10000000) :
    Calls Try.prog 36 #[v] w fun e w' => ∃ v', e = .returned v' ∧ OwnE w' w.heap.size 36 v' m ∧ Kept w w' [] := by
  obtain ⟨i0, hi, hz0, hz1, hz2⟩ := info_parts Try.infoEv
  obtain ⟨a, c, rfl, hc, ha, hcell⟩ := id h
  have H := Lib.hid h; clear h hcell
  have q22 : ∀ (w : World) (a : Option Addr) (n c n' c' : Nat), (binOp .eql 27 (.slice a n c) (.slice none n' c')).run Try.prog w = .ok (.bool a.isNone) w := fun w a n c n' c' => Lib.run_eql_slice_nil w _ _ a n c n' c' Try.underlying27
  cases a with
  | none =>
    obtain rfl := ha rfl
    obtain rfl : m = [] := List.eq_nil_of_length_eq_zero (by omega)
    clear ha
    go_enter Try.func36, Try.ntmps36
    go_wp2
    go_ret
    exact ⟨_, rfl, OwnE.nil _ _ _, Kept.refl _ _⟩
  | some x =>
    clear ha
    go_enter Try.func36, Try.ntmps36
    go_wp2_with (at_builtin; refine wpList_append_src _ rfl (.tmp 5) (.tmp 6) 27 27 rfl w.heap.size 36 i0 _ 8 80 Try.underlying27 hi hz0 hz1 hz2 rfl (.slice (some ⟨w.heap.size, 0, none⟩) 0 0) 0 [] rfl ?hown (.slice (some x) m.length c) m.length (ecs m) rfl ?src ?b1 ?b2 ?base ?next)
    case hown => exact World.ownsRow_made w #[] 0 (Nat.le_refl _) (Nat.zero_le _) (by simp)
    case src => exact (H.out.kept ((Kept.refl w []).alloc _) (by simp)).src Try.underlying27
    case b1 => unfold maxLen; omega
    case b2 => omega
    case base => simp
    case next =>
      intro v2 w2 hown hgrow _ _
      have ho : OwnE w2 w.heap.size 36 v2 m := by unfold OwnE; simpa using hown
      have hk : Kept w w2 [] := ((Kept.refl w []).alloc _).grown hgrow (fun k hk => .inr (by simp [Value.ownBlock] at hk; omega))
      have Ho := Lib.hid ho; have Hk := Lib.hid hk
      clear ho hk hown hgrow
      go_wp2
      go_ret
      exact ⟨_, rfl, Ho.out, Hk.out⟩

set_option maxHeartbeats 1000000 in
theorem list_any (a : Sp spT w B h V l c) (i : Nat) (hi : i < 3) (hl : (l i).length ≤ 10000000) :
    Calls Try.prog 25 #[.pointer (some ⟨h, 0, none⟩), .int .i64 i] w fun e w' => ∃ v', e = .returned v' ∧ OwnE w' w.heap.size 36 v' (l i) ∧ Kept w w' [] := by
  obtain ⟨u, n, e⟩ := a.shape i hi
  have ci := (a.cell i hi).1
  have HC := Lib.hid (eclone_any (V i) (l i) w (a.own i hi).rd hl)
  rw [e] at ci HC
  have hh : isT (i : Int) = true := by unfold isT; rw [decide_eq_true]; omega
  have HH := Lib.hid (has_any h i w)
  rw [hh] at HH
  clear a e hh
  go_enter Try.func25, Try.ntmps25
  go_wp2_with fail
  refine HH.out.mono ?_
  rintro e w' ⟨rfl, rfl⟩
  go_wp2_with fail
  refine HC.out.mono ?_
  rintro e w2 ⟨v', rfl, ho, hk⟩
  have Ho := Lib.hid ho; have Hk := Lib.hid hk
  clear ho hk
  go_wp2
  go_ret
  exact ⟨_, rfl, Ho.out, Hk.out⟩

set_option maxHeartbeats 1000000 in
theorem list_out (h : Nat) (i : Int) (hi : isT i = false) (w : World) :
    Calls Try.prog 25 #[.pointer (some ⟨h, 0, none⟩), .int .i64 i] w fun e w' => e = .returned (.slice none 0 0) ∧ w' = w := by
  have HH := Lib.hid (has_any h i w)
  rw [hi] at HH
  clear hi
  go_enter Try.func25, Try.ntmps25
  go_wp2_with (go_at_call 27; refine HH.out.mono ?_; rintro e w' ⟨rfl, rfl⟩)
  go_ret
  exact ⟨rfl, rfl⟩

set_option maxHeartbeats 1000000 in
theorem list_nil (i : Int) (w : World) :
    Calls Try.prog 25 #[.pointer none, .int .i64 i] w fun e w' => e = .returned (.slice none 0 0) ∧ w' = w := by
  go_enter Try.func25, Try.ntmps25
  go_wp2_with (go_at_call 27; refine (has_nil i _).mono ?_; rintro e w' ⟨rfl, rfl⟩)
  go_ret
  exact ⟨rfl, rfl⟩

set_option maxHeartbeats 1000000 in
theorem nextl_any (a : Sp spT w B h V l c) (hl : (l (nxt c)).length ≤ 10000000) :
    Calls Try.prog 22 #[.pointer (some ⟨h, 0, none⟩)] w fun e w' => ∃ v', e = .returned v' ∧ OwnE w' w.heap.size 36 v' (l (nxt c)) ∧ Kept w w' [] := by
  have HN := Lib.hid (next_any a)
  have HL := Lib.hid (list_any a (nxt c) (nxt_lt c) hl)
  clear a hl
  generalize nxt c = d at *
  go_enter Try.func22, Try.ntmps22
  go_wp2_with fail
  refine HN.out.mono ?_
  rintro e w' ⟨rfl, rfl⟩
  go_wp2_with fail
  refine HL.out.mono ?_
  rintro e w2 ⟨v', rfl, ho, hk⟩
  have Ho := Lib.hid ho; have Hk := Lib.hid hk
  clear ho hk
  go_wp2
  go_ret
  exact ⟨_, rfl, Ho.out, Hk.out⟩

set_option maxHeartbeats 1000000 in
theorem nextl_nil (w : World) : Calls Try.prog 22 #[.pointer none] w fun e w' => e = .returned (.slice none 0 0) ∧ w' = w := by
  go_enter Try.func22, Try.ntmps22
  go_wp2_with fail
  refine (next_nil _).mono ?_
  rintro e w' ⟨rfl, rfl⟩
  go_wp2_with fail
  refine (list_nil _ _).mono ?_
  rintro e w2 ⟨rfl, rfl⟩
  go_wp2
  go_ret
  exact ⟨rfl, rfl⟩

end Go.Proofs.Ytalplhhmghnggaa
