/-
  Due, of the code and of the document.
-/
import Derived.Test.YtojkandkhhjaaaaBa
import Derived.Test.YtojkandkhhjaaaaEv0
namespace Go.Proofs.Ytojkandkhhjaaaa
set_option linter.unusedVariables false
open Go.RowKit

theorem ret_bool {a b : Bool} (h : a = b) : Ending.returned (.bool a) = .returned (.bool b) := by rw [h]

/-- Is an event with that owner told to b? -/
def dueB (o b : ByteArray) : Bool := o.toList.isEmpty || o.toList == b.toList

theorem dueB_empty {o : ByteArray} (h : o.toList = []) (b : ByteArray) : dueB o b = true := by simp [dueB, h]

theorem dueB_none (b : ByteArray) : dueB ⟨#[]⟩ b = true := by
  have : (⟨#[]⟩ : ByteArray).toList = [] := by rw [ByteArray.toList_eq]
  exact dueB_empty this b

theorem dueB_self (a : ByteArray) : dueB a a = true := by simp [dueB]

theorem size_isEmpty (o : ByteArray) : (((o.size : Nat) : Int) == 0) = o.toList.isEmpty := by
  have : o.toList.length = o.size := by rw [ByteArray.toList_eq, Array.length_toList]; rfl
  rw [← this]
  cases o.toList <;> simp
  omega

set_option maxHeartbeats 400000 in
set_option maxRecDepth 100000 in
theorem due_any (e : Ev) (b : ByteArray) (w : World) :
    Calls Try.prog 27 #[.agg e.cs, .string b] w fun en w' => en = .returned (.bool (dueB e.ow b)) ∧ Kept w w' [] := by
  change Calls Try.prog 27 #[.agg #[.int .i64 e.id, .int .i64 e.tx, .string e.ow, .int .i64 e.tr, .int .i64 e.tb, .int .u8 e.kd, .int .i64 e.key, .string e.t], .string b] w _
  go_enter Try.func27, Try.ntmps27
  go_wp2
  · go_ret
    exact ⟨ret_bool (dueB_empty (by assumption) b).symm, (Kept.refl w []).alloc _⟩
  · go_ret
    exact ⟨rfl, (Kept.refl w []).alloc _⟩

set_option maxHeartbeats 400000 in
set_option maxRecDepth 100000 in
theorem refdue_any (e : Ev) (b : ByteArray) (w : World) :
    Calls Try.prog 33 #[.agg e.cs, .string b] w fun en w' => en = .returned (.bool (dueB e.ow b)) ∧ Kept w w' [] := by
  change Calls Try.prog 33 #[.agg #[.int .i64 e.id, .int .i64 e.tx, .string e.ow, .int .i64 e.tr, .int .i64 e.tb, .int .u8 e.kd, .int .i64 e.key, .string e.t], .string b] w _
  go_enter Try.func33, Try.ntmps33
  go_wp2
  · go_ret
    exact ⟨ret_bool (dueB_empty (by rename_i h; rw [h]; exact (by rw [ByteArray.toList_eq]; rfl)) b).symm, (Kept.refl w []).alloc _⟩
  · go_ret
    exact ⟨ret_bool (by rw [size_isEmpty]; rfl), (Kept.refl w []).alloc _⟩

end Go.Proofs.Ytojkandkhhjaaaa
