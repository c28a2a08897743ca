/-
  The document's examples of layer 2 hold (carrierlaw02.three), in any world; and what the calls tell of no writer, and of no reader.
-/
import Derived.Test.YtfmljoekfbnpiaaRead2
namespace Go.Proofs.Ytfmljoekfbnpiaa
open Go.RowKit

theorem numL_300 : numL 300 = [172, 2] := by rw [numL_great (by decide), numL_small (by decide)]; rfl
theorem intL_m1 : intL (-1) = [1] := by
  have : Lib.zigzag (-1) = 1 := by decide
  rw [intL, this, numL_small (by decide)]; rfl
theorem rNum_300 : rNum 0 [172, 2] = (300, [], 0) := by decide

/-- Bytes written out, in a block that was just laid. -/
theorem rd_lit (w : World) (l : List UInt8) (cs : Array Value) (T : TypeId) (n : Nat) (hn : n = l.length) (h : cs.toList = bc l) : Rd (w.alloc (.cells cs T)) (.slice (some ⟨w.heap.size, 0, none⟩) n n) l := by
  subst hn
  refine ⟨_, _, rfl, Nat.le_refl _, by simp, fun _ => ⟨w.heap.size, 0, rfl, fun i hi => ?_⟩⟩
  rw [World.cell?_alloc_at _ _ _ _ rfl, ← Array.getElem?_toList, h, Nat.zero_add]
  exact bc_at l i hi

set_option maxHeartbeats 1000000 in
set_option maxRecDepth 100000 in
theorem three_any (w : World) : Calls Try.prog 9 #[] w fun e w' => e = .returned (.bool true) ∧ Kept w w' [] := by
  go_enter Try.func9, Try.ntmps9
  go_wp2_with fail
  refine (num_any w.heap.size w.heap.size (.slice none 0 0) [] 300 (w.alloc (.cells #[.slice none 0 0] 54)) ⟨heap_alloc_new w _, Own.nil _ _ _⟩ (by simp) (by decide) (by simp)).mono ?_
  rintro e w1 ⟨rfl, v1, hw1, hs1⟩
  have hk1 : Kept w w1 [] := ((Kept.refl w []).alloc _).trans hs1.1 (by intro x hx; simp [Value.ownBlock] at hx; exact .inr (by omega))
  have hz1 : w.heap.size ≤ w1.heap.size := hk1.size
  rw [numL_300] at hw1
  have Hw1 := Lib.hid hw1; have Hk1 := Lib.hid hk1; clear hw1 hs1 hk1
  go_wp2_with fail
  refine (int_any w.heap.size w.heap.size v1 _ (-1) w1 Hw1.out hz1 (by decide) (by decide)).mono ?_
  rintro e w2 ⟨rfl, v2, hw2, hs2⟩
  have hk2 : Kept w w2 [] := Hk1.out.trans hs2.1 (by
    intro x hx
    rcases List.mem_append.1 hx with h | h
    · simp at h; exact .inr (by omega)
    · have : v1.ownBlock = some x := by simpa using h
      exact .inr (Hw1.out.2.lt x this).1)
  have hz2 : w.heap.size ≤ w2.heap.size := hk2.size
  rw [intL_m1] at hw2
  have Hw2 := Lib.hid hw2; have Hk2 := Lib.hid hk2; clear hw2 hs2 hk2
  go_wp2_with fail
  refine (bytes_any w.heap.size w.heap.size v2 _ w2 Hw2.out (by decide)).mono ?_
  rintro e w3 ⟨v3, rfl, ho3, hk3⟩
  have Ho3 := Lib.hid ho3; have Hk3 := Lib.hid (Hk2.out.trans hk3 (by simp)); clear ho3 hk3
  go_wp2_with fail
  refine (alike_any v3 _ _ [172, 2, 1] _ ((Ho3.out.rd).kept ((Kept.refl w3 []).alloc _) (by simp)) (rd_lit w3 [172, 2, 1] _ _ 3 rfl rfl) (by decide)).mono ?_
  rintro e w4 ⟨rfl, hk4⟩
  have Hk4 := Lib.hid ((Hk3.out.alloc _).trans hk4 (by simp)); clear hk4
  go_wp2_with fail
  refine (new_any _ [172, 2] _ (rd_lit w4 [172, 2] _ _ 2 rfl rfl) (by decide)).mono ?_
  rintro e w5 ⟨r, v5, rfl, hr5, hle, _, hk5⟩
  have Hr5 := Lib.hid hr5; have Hk5 := Lib.hid ((Hk4.out.alloc _).trans hk5 (by simp)); clear hr5 hk5
  have hzr := Lib.hid (Nat.le_trans (Hk4.out.alloc _).size hle)
  clear hle
  go_wp2_with fail
  refine (rnum_any r v5 0 _ w5 Hr5.out (by decide)).mono ?_
  rintro e w6 ⟨rfl, v6, _, hk6, _⟩
  have Hk6 := Lib.hid (Hk5.out.trans hk6 (by intro x hx; simp at hx; subst hx; exact .inr hzr.out)); clear hk6
  rw [rNum_300]
  go_wp2
  go_ret
  exact ⟨rfl, Hk6.out⟩

end Go.Proofs.Ytfmljoekfbnpiaa
