/-
  The contracts of Right, of the code and of the document.
-/
import Derived.Test.YtkpjbmcgfdophaaEe
namespace Go.Proofs.Ytkpjbmcgfdophaa
open Go.RowKit

set_option maxHeartbeats 4000000 in
set_option maxRecDepth 100000 in
theorem right_any (e : Ev) (w : World) :
    Calls Try.prog 13 #[.agg e.cs] w fun en w' => en = .returned (.bool e.rightB) ∧ Kept w w' [] := by
  change Calls Try.prog 13 #[.agg #[.int .i64 e.id, .int .i64 e.tx, .string e.ow, .int .i64 e.tr, .int .i64 e.tb, .int .u8 e.kd, .int .i64 e.key, .string e.t]] w _
  by_cases h0 : 1 ≤ e.id
  rotate_left
  · have y0 : ¬ (1 : Int) ≤ e.id := by omega
    have HR : RowKit.Hid (e.rightB = false) := Lib.hid (by simp only [Ev.rightB]; simp; omega)
    clear h0
    go_enter Try.func13, Try.ntmps13
    go_wp2
    go_ret
    exact ⟨ret_bool HR.out.symm, (Kept.refl w []).alloc _⟩
  have x0 : (1 : Int) ≤ e.id := by omega
  by_cases h1 : 1 ≤ e.tx
  rotate_left
  · have y1 : ¬ (1 : Int) ≤ e.tx := by omega
    have HR : RowKit.Hid (e.rightB = false) := Lib.hid (by simp only [Ev.rightB]; simp; omega)
    clear h0 h1
    go_enter Try.func13, Try.ntmps13
    go_wp2
    go_ret
    exact ⟨ret_bool HR.out.symm, (Kept.refl w []).alloc _⟩
  have x1 : (1 : Int) ≤ e.tx := by omega
  by_cases h2 : e.ow.size ≤ 40
  rotate_left
  · have y2 : ¬ (e.ow.size : Int) ≤ 40 := by omega
    have HR : RowKit.Hid (e.rightB = false) := Lib.hid (by simp only [Ev.rightB]; simp; omega)
    clear h0 h1 h2
    go_enter Try.func13, Try.ntmps13
    go_wp2
    go_ret
    exact ⟨ret_bool HR.out.symm, (Kept.refl w []).alloc _⟩
  have x2 : (e.ow.size : Int) ≤ 40 := by omega
  by_cases h3 : e.t.size ≤ 40
  rotate_left
  · have y3 : ¬ (e.t.size : Int) ≤ 40 := by omega
    have HR : RowKit.Hid (e.rightB = false) := Lib.hid (by simp only [Ev.rightB]; simp; omega)
    clear h0 h1 h2 h3
    go_enter Try.func13, Try.ntmps13
    go_wp2
    go_ret
    exact ⟨ret_bool HR.out.symm, (Kept.refl w []).alloc _⟩
  have x3 : (e.t.size : Int) ≤ 40 := by omega
  by_cases h4 : 0 ≤ e.tr
  rotate_left
  · have y4 : ¬ (0 : Int) ≤ e.tr := by omega
    have HR : RowKit.Hid (e.rightB = false) := Lib.hid (by simp only [Ev.rightB]; simp; omega)
    clear h0 h1 h2 h3 h4
    go_enter Try.func13, Try.ntmps13
    go_wp2
    go_ret
    exact ⟨ret_bool HR.out.symm, (Kept.refl w []).alloc _⟩
  have x4 : (0 : Int) ≤ e.tr := by omega
  by_cases h5 : e.tr ≤ 2147483647
  rotate_left
  · have y5 : ¬ e.tr ≤ 2147483647 := by omega
    have HR : RowKit.Hid (e.rightB = false) := Lib.hid (by simp only [Ev.rightB]; simp; omega)
    clear h0 h1 h2 h3 h4 h5
    go_enter Try.func13, Try.ntmps13
    go_wp2
    go_ret
    exact ⟨ret_bool HR.out.symm, (Kept.refl w []).alloc _⟩
  have x5 : e.tr ≤ 2147483647 := by omega
  by_cases h6 : 0 ≤ e.tb
  rotate_left
  · have y6 : ¬ (0 : Int) ≤ e.tb := by omega
    have HR : RowKit.Hid (e.rightB = false) := Lib.hid (by simp only [Ev.rightB]; simp; omega)
    clear h0 h1 h2 h3 h4 h5 h6
    go_enter Try.func13, Try.ntmps13
    go_wp2
    go_ret
    exact ⟨ret_bool HR.out.symm, (Kept.refl w []).alloc _⟩
  have x6 : (0 : Int) ≤ e.tb := by omega
  by_cases h7 : e.tb ≤ 3
  rotate_left
  · have y7 : ¬ e.tb ≤ 3 := by omega
    have HR : RowKit.Hid (e.rightB = false) := Lib.hid (by simp only [Ev.rightB]; simp; omega)
    clear h0 h1 h2 h3 h4 h5 h6 h7
    go_enter Try.func13, Try.ntmps13
    go_wp2
    go_ret
    exact ⟨ret_bool HR.out.symm, (Kept.refl w []).alloc _⟩
  have x7 : e.tb ≤ 3 := by omega
  by_cases h8 : 1 ≤ e.kd
  rotate_left
  · have y8 : ¬ (1 : Int) ≤ e.kd := by omega
    have HR : RowKit.Hid (e.rightB = false) := Lib.hid (by simp only [Ev.rightB]; simp; omega)
    clear h0 h1 h2 h3 h4 h5 h6 h7 h8
    go_enter Try.func13, Try.ntmps13
    go_wp2
    go_ret
    exact ⟨ret_bool HR.out.symm, (Kept.refl w []).alloc _⟩
  have x8 : (1 : Int) ≤ e.kd := by omega
  by_cases h9 : e.kd ≤ 4
  rotate_left
  · have y9 : ¬ e.kd ≤ 4 := by omega
    have HR : RowKit.Hid (e.rightB = false) := Lib.hid (by simp only [Ev.rightB]; simp; omega)
    clear h0 h1 h2 h3 h4 h5 h6 h7 h8 h9
    go_enter Try.func13, Try.ntmps13
    go_wp2
    go_ret
    exact ⟨ret_bool HR.out.symm, (Kept.refl w []).alloc _⟩
  have x9 : e.kd ≤ 4 := by omega
  have HR : RowKit.Hid (e.rightB = true) := Lib.hid (by simp only [Ev.rightB]; simp; omega)
  clear h0 h1 h2 h3 h4 h5 h6 h7 h8 h9
  go_enter Try.func13, Try.ntmps13
  go_wp2
  go_ret
  exact ⟨ret_bool HR.out.symm, (Kept.refl w []).alloc _⟩

set_option maxHeartbeats 4000000 in
set_option maxRecDepth 100000 in
theorem refright_any (e : Ev) (w : World) :
    Calls Try.prog 18 #[.agg e.cs] w fun en w' => en = .returned (.bool e.rightB) ∧ Kept w w' [] := by
  change Calls Try.prog 18 #[.agg #[.int .i64 e.id, .int .i64 e.tx, .string e.ow, .int .i64 e.tr, .int .i64 e.tb, .int .u8 e.kd, .int .i64 e.key, .string e.t]] w _
  by_cases h0 : 1 ≤ e.id
  rotate_left
  · have y0 : ¬ (1 : Int) ≤ e.id := by omega
    have z0 : e.id < 1 := by omega
    have HR : RowKit.Hid (e.rightB = false) := Lib.hid (by simp only [Ev.rightB]; simp; omega)
    clear h0
    go_enter Try.func18, Try.ntmps18
    go_wp2
    go_ret
    exact ⟨ret_bool HR.out.symm, (Kept.refl w []).alloc _⟩
  have x0 : (1 : Int) ≤ e.id := by omega
  have z0 : ¬ e.id < 1 := by omega
  by_cases h1 : 1 ≤ e.tx
  rotate_left
  · have y1 : ¬ (1 : Int) ≤ e.tx := by omega
    have z1 : e.tx < 1 := by omega
    have HR : RowKit.Hid (e.rightB = false) := Lib.hid (by simp only [Ev.rightB]; simp; omega)
    clear h0 h1
    go_enter Try.func18, Try.ntmps18
    go_wp2
    go_ret
    exact ⟨ret_bool HR.out.symm, (Kept.refl w []).alloc _⟩
  have x1 : (1 : Int) ≤ e.tx := by omega
  have z1 : ¬ e.tx < 1 := by omega
  by_cases h2 : e.ow.size ≤ 40
  rotate_left
  · have y2 : ¬ (e.ow.size : Int) ≤ 40 := by omega
    have z2 : (40 : Int) < (e.ow.size : Int) := by omega
    have HR : RowKit.Hid (e.rightB = false) := Lib.hid (by simp only [Ev.rightB]; simp; omega)
    clear h0 h1 h2
    go_enter Try.func18, Try.ntmps18
    go_wp2
    go_ret
    exact ⟨ret_bool HR.out.symm, (Kept.refl w []).alloc _⟩
  have x2 : (e.ow.size : Int) ≤ 40 := by omega
  have z2 : ¬ (40 : Int) < (e.ow.size : Int) := by omega
  by_cases h3 : e.t.size ≤ 40
  rotate_left
  · have y3 : ¬ (e.t.size : Int) ≤ 40 := by omega
    have z3 : (40 : Int) < (e.t.size : Int) := by omega
    have HR : RowKit.Hid (e.rightB = false) := Lib.hid (by simp only [Ev.rightB]; simp; omega)
    clear h0 h1 h2 h3
    go_enter Try.func18, Try.ntmps18
    go_wp2
    go_ret
    exact ⟨ret_bool HR.out.symm, (Kept.refl w []).alloc _⟩
  have x3 : (e.t.size : Int) ≤ 40 := by omega
  have z3 : ¬ (40 : Int) < (e.t.size : Int) := by omega
  by_cases h4 : 0 ≤ e.tr
  rotate_left
  · have y4 : ¬ (0 : Int) ≤ e.tr := by omega
    have HR : RowKit.Hid (e.rightB = false) := Lib.hid (by simp only [Ev.rightB]; simp; omega)
    clear h0 h1 h2 h3 h4
    go_enter Try.func18, Try.ntmps18
    go_wp2
    go_ret
    exact ⟨ret_bool HR.out.symm, (Kept.refl w []).alloc _⟩
  have x4 : (0 : Int) ≤ e.tr := by omega
  by_cases h5 : e.tr ≤ 2147483647
  rotate_left
  · have y5 : ¬ e.tr ≤ 2147483647 := by omega
    have HR : RowKit.Hid (e.rightB = false) := Lib.hid (by simp only [Ev.rightB]; simp; omega)
    clear h0 h1 h2 h3 h4 h5
    go_enter Try.func18, Try.ntmps18
    go_wp2
    go_ret
    exact ⟨ret_bool HR.out.symm, (Kept.refl w []).alloc _⟩
  have x5 : e.tr ≤ 2147483647 := by omega
  by_cases h6 : 0 ≤ e.tb
  rotate_left
  · have y6 : ¬ (0 : Int) ≤ e.tb := by omega
    have HR : RowKit.Hid (e.rightB = false) := Lib.hid (by simp only [Ev.rightB]; simp; omega)
    clear h0 h1 h2 h3 h4 h5 h6
    go_enter Try.func18, Try.ntmps18
    go_wp2
    go_ret
    exact ⟨ret_bool HR.out.symm, (Kept.refl w []).alloc _⟩
  have x6 : (0 : Int) ≤ e.tb := by omega
  by_cases h7 : e.tb ≤ 3
  rotate_left
  · have y7 : ¬ e.tb ≤ 3 := by omega
    have HR : RowKit.Hid (e.rightB = false) := Lib.hid (by simp only [Ev.rightB]; simp; omega)
    clear h0 h1 h2 h3 h4 h5 h6 h7
    go_enter Try.func18, Try.ntmps18
    go_wp2
    go_ret
    exact ⟨ret_bool HR.out.symm, (Kept.refl w []).alloc _⟩
  have x7 : e.tb ≤ 3 := by omega
  by_cases h8 : 1 ≤ e.kd
  rotate_left
  · have y8 : ¬ (1 : Int) ≤ e.kd := by omega
    have HR : RowKit.Hid (e.rightB = false) := Lib.hid (by simp only [Ev.rightB]; simp; omega)
    clear h0 h1 h2 h3 h4 h5 h6 h7 h8
    go_enter Try.func18, Try.ntmps18
    go_wp2
    go_ret
    exact ⟨ret_bool HR.out.symm, (Kept.refl w []).alloc _⟩
  have x8 : (1 : Int) ≤ e.kd := by omega
  by_cases h9 : e.kd ≤ 4
  rotate_left
  · have y9 : ¬ e.kd ≤ 4 := by omega
    have HR : RowKit.Hid (e.rightB = false) := Lib.hid (by simp only [Ev.rightB]; simp; omega)
    clear h0 h1 h2 h3 h4 h5 h6 h7 h8 h9
    go_enter Try.func18, Try.ntmps18
    go_wp2
    go_ret
    exact ⟨ret_bool HR.out.symm, (Kept.refl w []).alloc _⟩
  have x9 : e.kd ≤ 4 := by omega
  have HR : RowKit.Hid (e.rightB = true) := Lib.hid (by simp only [Ev.rightB]; simp; omega)
  clear h0 h1 h2 h3 h4 h5 h6 h7 h8 h9
  go_enter Try.func18, Try.ntmps18
  go_wp2
  go_ret
  exact ⟨ret_bool HR.out.symm, (Kept.refl w []).alloc _⟩

end Go.Proofs.Ytkpjbmcgfdophaa
