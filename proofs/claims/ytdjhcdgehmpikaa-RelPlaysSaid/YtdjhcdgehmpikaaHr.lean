/-
  The calls of no heap, and of one without a manager.
-/
import Derived.Test.YtdjhcdgehmpikaaHp
namespace Go.Proofs.Ytdjhcdgehmpikaa
open Go.RowKit Go.Maps

/-- No heap, or one without a manager. -/
def Nh (w : World) (hv : Value) : Prop := hv = .pointer none ∨ ∃ g m, hv = .pointer (some ⟨g, 0, none⟩) ∧ w.heap[g]? = some (.cells #[.pointer none, m] 116 (0, 0))

theorem Nh.keep {w w' : World} {hv : Value} (a : Nh w hv) (hk : Kept w w' []) : Nh w' hv := by
  rcases a with h | ⟨g, m, h, hg⟩
  · exact .inl h
  · exact .inr ⟨g, m, h, hk.heap (by simp) hg⟩

variable {w : World} {hv : Value}

theorem missing_nil (a : Nh w hv) : Calls Try.prog 55 #[hv] w fun e w' => e = .returned (.bool true) ∧ w = w' := by
  rcases a with rfl | ⟨g, m, rfl, hg⟩
  · go_enter Try.func55, Try.ntmps55
    go_wp2
    go_ret
    exact ⟨rfl, rfl⟩
  · have c0 : w.cell? ⟨g, 0, none⟩ = some (.pointer none) := by rw [cell_of_row _ _ 0 _ _ _ hg]; rfl
    go_enter Try.func55, Try.ntmps55
    go_wp2
    go_ret
    exact ⟨rfl, rfl⟩

/-- The shape of what is no heap's pointer. -/
theorem Nh.shape (a : Nh w hv) : ∃ q, hv = .pointer q := by
  rcases a with rfl | ⟨g, m, rfl, _⟩
  · exact ⟨_, rfl⟩
  · exact ⟨_, rfl⟩

theorem mayWrite_nil (a : Nh w hv) (mx own : Int) (u : Option Addr) (n c : Nat) : Calls Try.prog 58 #[hv, .agg #[.int .i64 mx, .slice u n c, .int .i64 own]] w fun e w' => e = .returned (.int .i64 4) ∧ Kept w w' [] := by
  have K1 := Lib.hid ((Kept.refl w []).alloc (.cells #[.int .i64 mx, .slice u n c, .int .i64 own] 51))
  have cm := missing_nil (a.keep K1.out)
  obtain ⟨q, rfl⟩ := a.shape
  clear a
  go_enter Try.func58, Try.ntmps58
  go_wp2_with fail
  refine cm.mono ?_
  rintro e w' ⟨rfl, rfl⟩
  go_wp2
  go_ret
  exact ⟨rfl, K1.out⟩

theorem get_nil (a : Nh w hv) (mx own key : Int) (u : Option Addr) (n c : Nat) : Calls Try.prog 42 #[hv, .agg #[.int .i64 mx, .slice u n c, .int .i64 own], .int .i64 key] w fun e w' => e = .returned (.tuple #[.agg #[.int .i64 0, .string ⟨#[]⟩], .bool false]) ∧ Kept w w' [] := by
  obtain ⟨W2, hW2⟩ : ∃ W2, W2 = (w.alloc (.cells #[.int .i64 mx, .slice u n c, .int .i64 own] 51)).alloc (.cells #[.int .i64 0, .string ⟨#[]⟩] 55) := ⟨_, rfl⟩
  have K2 := Lib.hid (show Kept w W2 [] by rw [hW2]; exact ((Kept.refl w []).alloc _).alloc _)
  have g2 : W2.heap[w.heap.size + 1]? = some (.cells #[.int .i64 0, .string ⟨#[]⟩] 55 (0, 0)) := by
    have := heap_alloc_new (w.alloc (.cells #[.int .i64 mx, .slice u n c, .int .i64 own] 51)) (.cells #[.int .i64 0, .string ⟨#[]⟩] 55)
    rw [hW2]
    simpa using this
  have cm := Lib.hid (missing_nil (a.keep K2.out))
  obtain ⟨q, rfl⟩ := a.shape
  have G2 := Lib.hid g2
  clear a g2
  go_enter Try.func42, Try.ntmps42
  go_wp2_with fail
  rw [← hW2]
  clear hW2
  refine cm.out.mono ?_
  rintro e w' ⟨rfl, rfl⟩
  obtain ⟨e0, e1, e2, e3⟩ := res_cells G2.out
  go_wp2
  obtain ⟨d0, d1⟩ := row_set G2.out (.int .i64 0) (.string ⟨#[]⟩)
  exact bodyPost_ret (v := .tuple #[.agg #[.int .i64 0, .string ⟨#[]⟩], .bool false]) (by simp [results, Try.results42, go_sem, d0, d1]) rfl ⟨rfl, (K2.out.setCell (p := ⟨w.heap.size + 1, 0, none⟩) (.inr (by simp)) _).setCell (p := ⟨w.heap.size + 1, 1, none⟩) (.inr (by simp)) _⟩

theorem scan_nil (a : Nh w hv) (mx own : Int) (u : Option Addr) (n c : Nat) : Calls Try.prog 43 #[hv, .agg #[.int .i64 mx, .slice u n c, .int .i64 own]] w fun e w' => e = .returned (.slice none 0 0) ∧ Kept w w' [] := by
  have K1 := Lib.hid ((Kept.refl w []).alloc (.cells #[.int .i64 mx, .slice u n c, .int .i64 own] 51))
  have cm := missing_nil (a.keep K1.out)
  obtain ⟨q, rfl⟩ := a.shape
  clear a
  go_enter Try.func43, Try.ntmps43
  go_wp2_with fail
  refine cm.mono ?_
  rintro e w' ⟨rfl, rfl⟩
  go_wp2
  go_ret
  exact ⟨rfl, K1.out⟩

theorem len_nil (a : Nh w hv) : Calls Try.prog 31 #[hv] w fun e w' => e = .returned (.int .i64 0) ∧ Kept w w' [] := by
  have cm := missing_nil a
  obtain ⟨q, rfl⟩ := a.shape
  clear a
  go_enter Try.func31, Try.ntmps31
  go_wp2_with fail
  refine cm.mono ?_
  rintro e w' ⟨rfl, rfl⟩
  go_wp2
  go_ret
  exact ⟨rfl, Kept.refl w []⟩

theorem vacuum_nil (a : Nh w hv) (mx : Int) (u : Option Addr) (n c : Nat) : Calls Try.prog 51 #[hv, .agg #[.int .i64 mx, .slice u n c]] w fun e w' => e = .returned (.int .i64 0) ∧ Kept w w' [] := by
  obtain ⟨q, hq⟩ := a.shape
  obtain ⟨W2, hW2⟩ : ∃ W2, W2 = (w.alloc (.cells #[hv] 71)).alloc (.cells #[.int .i64 mx, .slice u n c] 47) := ⟨_, rfl⟩
  have K2 := Lib.hid (show Kept w W2 [] by rw [hW2]; exact ((Kept.refl w []).alloc _).alloc _)
  have cm := Lib.hid (len_nil (a.keep K2.out))
  subst hq
  clear a
  go_enter Try.func51, Try.ntmps51
  go_wp2_with fail
  rw [← hW2]
  clear hW2
  refine cm.out.mono ?_
  rintro e w' ⟨rfl, k2⟩
  have K3 := Lib.hid (K2.out.trans k2 (by simp))
  clear k2
  go_wp2
  go_ret
  exact ⟨rfl, K3.out⟩

theorem delete_nil (a : Nh w hv) (mx own key : Int) (u : Option Addr) (n c : Nat) : Calls Try.prog 39 #[hv, .agg #[.int .i64 mx, .slice u n c, .int .i64 own], .int .i64 key] w fun e w' => e = .returned (.int .i64 4) ∧ Kept w w' [] := by
  have K1 := Lib.hid ((Kept.refl w []).alloc (.cells #[.int .i64 mx, .slice u n c, .int .i64 own] 51))
  have cm := mayWrite_nil (a.keep K1.out) mx own u n c
  obtain ⟨q, rfl⟩ := a.shape
  clear a
  go_enter Try.func39, Try.ntmps39
  go_wp2_with fail
  refine cm.mono ?_
  rintro e w' ⟨rfl, k2⟩
  have K2 := Lib.hid (K1.out.trans k2 (by simp))
  clear k2
  go_wp2
  go_ret
  exact ⟨rfl, K2.out⟩

theorem insert_nil (a : Nh w hv) (mx own key : Int) (txt : ByteArray) (u : Option Addr) (n c : Nat) : Calls Try.prog 56 #[hv, .agg #[.int .i64 mx, .slice u n c, .int .i64 own], .agg #[.int .i64 key, .string txt]] w fun e w' => e = .returned (.int .i64 4) ∧ Kept w w' [] := by
  obtain ⟨q, hq⟩ := a.shape
  have K1 := Lib.hid ((((Kept.refl w []).alloc (.cells #[hv] 71)).alloc (.cells #[.int .i64 mx, .slice u n c, .int .i64 own] 51)).alloc (.cells #[.int .i64 key, .string txt] 55))
  have cm := mayWrite_nil (a.keep K1.out) mx own u n c
  subst hq
  clear a
  go_enter Try.func56, Try.ntmps56
  go_wp2_with fail
  refine cm.mono ?_
  rintro e w' ⟨rfl, k2⟩
  have K2 := Lib.hid (K1.out.trans k2 (by simp))
  clear k2
  go_wp2
  go_ret
  exact ⟨rfl, K2.out⟩

theorem update_nil (a : Nh w hv) (mx own key : Int) (txt : ByteArray) (u : Option Addr) (n c : Nat) : Calls Try.prog 57 #[hv, .agg #[.int .i64 mx, .slice u n c, .int .i64 own], .agg #[.int .i64 key, .string txt]] w fun e w' => e = .returned (.int .i64 4) ∧ Kept w w' [] := by
  have K1 := Lib.hid (((Kept.refl w []).alloc (.cells #[.int .i64 mx, .slice u n c, .int .i64 own] 51)).alloc (.cells #[.int .i64 key, .string txt] 55))
  have cm := delete_nil (a.keep K1.out) mx own key u n c
  obtain ⟨q, rfl⟩ := a.shape
  clear a
  go_enter Try.func57, Try.ntmps57
  go_wp2_with fail
  refine cm.mono ?_
  rintro e w' ⟨rfl, k2⟩
  have K2 := Lib.hid (K1.out.trans k2 (by simp))
  clear k2
  go_wp2
  go_ret
  exact ⟨rfl, K2.out⟩

theorem truncate_nil (a : Nh w hv) (mx own : Int) (u : Option Addr) (n c : Nat) : Calls Try.prog 40 #[hv, .agg #[.int .i64 mx, .slice u n c, .int .i64 own]] w fun e w' => e = .returned (.tuple #[.slice none 0 0, .int .i64 4]) ∧ Kept w w' [] := by
  have K1 := Lib.hid ((Kept.refl w []).alloc (.cells #[.int .i64 mx, .slice u n c, .int .i64 own] 51))
  have cm := mayWrite_nil (a.keep K1.out) mx own u n c
  obtain ⟨q, rfl⟩ := a.shape
  clear a
  go_enter Try.func40, Try.ntmps40
  go_wp2_with fail
  refine cm.mono ?_
  rintro e w' ⟨rfl, k2⟩
  have K2 := Lib.hid (K1.out.trans k2 (by simp))
  clear k2
  go_wp2
  go_ret2
  exact ⟨rfl, K2.out⟩

theorem hnew_nil (w : World) : Calls Try.prog 32 #[.pointer none] w fun e w' => ∃ hv, e = .returned hv ∧ Nh w' hv ∧ Kept w w' [] := by
  have hmm : ∀ w : World, (Instr.makeMap 114 none).run Try.prog w = .ok (.map (some w.heap.size)) (w.alloc (.map #[] 0)) := fun w => run_makeMap _ w
  have K1 := Lib.hid (((Kept.refl w []).alloc (.map #[] 0)).alloc (.cells #[.pointer none, .map (some w.heap.size)] 116))
  have hz : (w.alloc (.map #[] 0)).heap.size = w.heap.size + 1 := by simp
  have g1 := heap_alloc_new (w.alloc (.map #[] 0)) (.cells #[.pointer none, .map (some w.heap.size)] 116)
  rw [hz] at g1
  have G1 := Lib.hid g1
  clear g1
  go_enter Try.func32, Try.ntmps32
  go_wp2
  go_ret
  exact ⟨.pointer (some ⟨w.heap.size + 1, 0, none⟩), by simp, .inr ⟨_, _, rfl, G1.out⟩, K1.out⟩

end Go.Proofs.Ytdjhcdgehmpikaa
