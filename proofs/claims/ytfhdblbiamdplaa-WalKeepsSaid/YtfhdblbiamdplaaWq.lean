/-
  The contract of carrierref04's Room.
-/
import Derived.Test.YtfhdblbiamdplaaWp
namespace Go.Proofs.Ytfhdblbiamdplaa
open Go.RowKit

theorem RLg.cell {w : World} {ql q s : Nat} (h : RLg w ql q s) : w.cell? ⟨ql, 0, none⟩ = some (.pointer (some ⟨q, 0, none⟩)) ∧ w.cell? ⟨ql, 1, none⟩ = some (.int .i64 s) :=
  ⟨by simpa using cell_of_row w ql 0 _ _ _ h, by simpa using cell_of_row w ql 1 _ _ _ h⟩

theorem RLg.frame {w w' : World} {ql q s C : Nat} {ts : List TypeId} (h : RLg w ql q s) (hf : Fr C ts w w') (ht : 54 ∉ ts) : RLg w' ql q s := hf.heap h ht

set_option maxHeartbeats 1000000 in
set_option maxRecDepth 100000 in
theorem rroom_any {w : World} {B q n ql s : Nat} {vs vw : Value} {safe : List UInt8} {ws : List (Nat × List UInt8)} (R : Rf w B q vs vw n safe ws) (h : RLg w ql q s) (hs : s ≤ 32 * n) :
    Calls Try.prog 32 #[.pointer (some ⟨ql, 0, none⟩)] w fun e w' => e = .returned (.int .i64 ((32 * n - s : Nat) : Int)) ∧ Kept w w' [] := by
  obtain ⟨c0, c1⟩ := h.cell
  have hn12 := R.n12
  have d0 := R.cell0
  obtain ⟨a, c, hv⟩ := R.hs.shape
  rw [R.ls] at hv
  subst hv
  have Hs := Lib.hid hs
  obtain ⟨u, hu⟩ : ∃ u, u = 32 * n := ⟨_, rfl⟩
  have Hu := Lib.hid hu
  rw [← hu] at d0
  clear R h hs hu
  go_enter Try.func32, Try.ntmps32
  go_wp2
  go_quiet (fail)
  go_wp2
  go_ret
  exact ⟨ret_i (by have := Hs.out; have := Hu.out; simp only [wrap64]; omega), (Kept.refl w []).drewN _⟩

end Go.Proofs.Ytfhdblbiamdplaa
