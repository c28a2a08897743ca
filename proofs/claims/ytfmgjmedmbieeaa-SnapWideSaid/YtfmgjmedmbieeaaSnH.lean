/-
  The document's example (five); the document's snapshots by numbers (Of).
-/
import Derived.Test.YtfmgjmedmbieeaaSnG
import Derived.Test.YtfmgjmedmbieeaaFr
namespace Go.Proofs.Ytfmgjmedmbieeaa
open Go.RowKit

/-- A snapshot's two cells. -/
theorem two_cells {w : World} {p : Nat} {M : Int} {v : Value} {t : TypeId} {fz : Nat × Nat} (h : w.heap[p]? = some (.cells #[.int .i64 M, v] t fz)) : w.cell? ⟨p, 0, none⟩ = some (.int .i64 M) ∧ w.cell? ⟨p, 1, none⟩ = some v :=
  ⟨by simpa using cell_of_row w p 0 _ _ _ h, by simpa using cell_of_row w p 1 _ _ _ h⟩

theorem Kept.two {w w' : World} {p : Nat} {M : Int} {v : Value} (k : Kept w w' []) (h : w.cell? ⟨p, 0, none⟩ = some (.int .i64 M) ∧ w.cell? ⟨p, 1, none⟩ = some v) : w'.cell? ⟨p, 0, none⟩ = some (.int .i64 M) ∧ w'.cell? ⟨p, 1, none⟩ = some v :=
  ⟨k.cell (p := ⟨p, 0, none⟩) (by simp) h.1, k.cell (p := ⟨p, 1, none⟩) (by simp) h.2⟩

set_option maxHeartbeats 1000000 in
set_option maxRecDepth 100000 in
theorem five_any (w : World) : Calls Try.prog 9 #[] w fun e w' => e = .returned (.bool true) ∧ Kept w w' [] := by
  obtain ⟨W, hW⟩ : ∃ W, W = (w.alloc (.cells #[.int .i64 2] 2)).alloc (.cells #[.int .i64 5, .slice (some ⟨w.heap.size, 0, none⟩) 1 1] 25) := ⟨_, rfl⟩
  have hz : (w.alloc (.cells #[.int .i64 2] 2)).heap.size = w.heap.size + 1 := by simp
  have hp : W.heap[w.heap.size + 1]? = some (.cells #[.int .i64 5, .slice (some ⟨w.heap.size, 0, none⟩) 1 1] 25 (0, 0)) := by rw [hW, ← hz]; exact heap_alloc_new _ _
  have hg : W.heap[w.heap.size]? = some (.cells #[.int .i64 2] 2 (0, 0)) := by rw [hW]; exact (Below.heap_alloc _ _ _ (by simp)).trans (heap_alloc_new w _)
  have R : Hid (RdI W (.slice (some ⟨w.heap.size, 0, none⟩) 1 1) [2]) := by
    refine Lib.hid ⟨_, 1, rfl, Nat.le_refl _, by unfold maxLen; omega, by simp, fun _ => ⟨_, 0, rfl, fun i hi => ?_⟩⟩
    obtain rfl : i = 0 := by simpa using hi
    simpa using cell_of_row W w.heap.size 0 _ _ _ hg
  have Z := Lib.hid (two_cells hp)
  have K0 : Hid (Kept w W []) := Lib.hid (by rw [hW]; exact ((Kept.refl w []).alloc _).alloc _)
  have v1 : seesB 5 [2] 1 = true := by decide
  have v2 : seesB 5 [2] 2 = false := by decide
  have v4 : seesB 5 [2] 4 = true := by decide
  have v5 : seesB 5 [2] 5 = false := by decide
  have vl : leastI 5 [2] = 2 := by decide
  have vr : rightB 5 [2] = true := by decide
  clear hp hg hz
  go_enter Try.func9, Try.ntmps9
  go_wp2_with fail
  rw [← hW]
  clear hW
  refine (sees_any 5 1 _ [2] W R.out).mono ?_
  rintro e w1 ⟨rfl, hk⟩
  have K1 := Lib.hid hk; clear hk
  obtain ⟨z0, z1⟩ := K1.out.two Z.out
  go_wp2_with fail
  refine (sees_any 5 2 _ [2] w1 (R.out.keep K1.out)).mono ?_
  rintro e w2 ⟨rfl, hk⟩
  have K2 := Lib.hid (K1.out.trans hk (by simp)); clear hk z0 z1
  obtain ⟨z0, z1⟩ := K2.out.two Z.out
  go_wp2_with fail
  refine (sees_any 5 4 _ [2] w2 (R.out.keep K2.out)).mono ?_
  rintro e w3 ⟨rfl, hk⟩
  have K3 := Lib.hid (K2.out.trans hk (by simp)); clear hk z0 z1
  obtain ⟨z0, z1⟩ := K3.out.two Z.out
  go_wp2_with fail
  refine (sees_any 5 5 _ [2] w3 (R.out.keep K3.out)).mono ?_
  rintro e w4 ⟨rfl, hk⟩
  have K4 := Lib.hid (K3.out.trans hk (by simp)); clear hk z0 z1
  obtain ⟨z0, z1⟩ := K4.out.two Z.out
  go_wp2_with fail
  refine (least_any 5 _ [2] w4 (R.out.keep K4.out)).mono ?_
  rintro e w5 ⟨rfl, hk⟩
  have K5 := Lib.hid (K4.out.trans hk (by simp)); clear hk z0 z1
  obtain ⟨z0, z1⟩ := K5.out.two Z.out
  go_wp2_with fail
  refine (right_any 5 _ [2] w5 (R.out.keep K5.out)).mono ?_
  rintro e w6 ⟨rfl, hk⟩
  have K6 := Lib.hid (K5.out.trans hk (by simp)); clear hk z0 z1
  go_wp2
  go_ret
  exact ⟨rfl, K0.out.trans K6.out (by simp)⟩

end Go.Proofs.Ytfmgjmedmbieeaa
