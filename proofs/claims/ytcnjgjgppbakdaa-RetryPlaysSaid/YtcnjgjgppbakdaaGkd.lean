/-
  Lists of structs in memory, more: rows that are known; one cell written over; 'clear' as a step; a range taken out. No function of the program.
-/
import Derived.Test.YtcnjgjgppbakdaaGkb
namespace Go.Proofs.Ytcnjgjgppbakdaa
set_option linter.unusedVariables false
open Go.RowKit

theorem ownK_snoc {α : Type} {E : Enc α} {w : World} {B : Nat} {e : TypeId} {v : Value} {l : List α} {x : α} (h : w.ownsRow B e E.k v (l.length + 1) (kcs E l ++ (E.cs x).toList)) : OwnK E w B e v (l ++ [x]) := by
  unfold OwnK
  rw [kcs_append, kcs_single, List.length_append]
  exact h

/-- From a row that is known. -/
theorem ownK_row {α : Type} {E : Enc α} {w : World} {B g cap : Nat} {e : TypeId} {l : List α} {R : List Value} (hg : w.heap[g]? = some (.cells R.toArray e (0, 0))) (hB : B ≤ g) (hl : l.length ≤ cap) (hm : cap ≤ maxLen) (hs : R.length = cap * E.k) (ht : R.take (l.length * E.k) = kcs E l) :
    OwnK E w B e (.slice (some ⟨g, 0, none⟩) l.length cap) l :=
  ⟨kcs_length E l, .inr ⟨g, cap, R.toArray, rfl, hB, hg, hl, hm, by simpa using hs, by simpa using ht⟩⟩

theorem OwnK.row {α : Type} {E : Enc α} {w : World} {B g cap n : Nat} {e : TypeId} {l : List α} (h : OwnK E w B e (.slice (some ⟨g, 0, none⟩) n cap) l) :
    ∃ R : List Value, w.heap[g]? = some (.cells R.toArray e (0, 0)) ∧ B ≤ g ∧ n = l.length ∧ l.length ≤ cap ∧ cap ≤ maxLen ∧ R.length = cap * E.k ∧ R.take (l.length * E.k) = kcs E l := by
  rcases h.2 with ⟨h0, _⟩ | ⟨g', cap', cur, h0, hbg, hg, hnc, hcm, hcs, htk⟩
  · cases h0
  · simp only [Value.slice.injEq, Option.some.injEq, Addr.mk.injEq] at h0
    obtain ⟨⟨rfl, _⟩, rfl, rfl⟩ := h0
    exact ⟨cur.toList, by simpa using hg, hbg, rfl, hnc, hcm, by simpa using hcs, htk⟩

theorem wpList_clear_run {P : Program} (w : World) {ops : Array Oper} {rest : List Oper} {o : Oper} {a : Act} {Q : Exit → Act → World → Prop} (hgd : o.guard = none) (x : Operand) (t : TypeId)
    (ho : o.op = .call { callee := .builtin .clear, args := #[x], argTypes := #[t] }) (vx : Value) (hx : a.eval x = vx) (w' : World) (hr : (Builtin.clear_ #[t] o.type #[vx]).run P w = .ok (.tuple #[]) w')
    (h : wpList P ops Q rest (a.put o.dst (.tuple #[])) w') : wpList P ops Q (o :: rest) a w := by
  refine wpList_plain hgd fun K hK => ?_
  unfold Oper.wp execOp
  simp only [ho, resolve, invoke, builtin, Sem.run_bind, Sem.run_pure, Result.andThen_ok, List.map_toArray, List.map_cons, List.map_nil, hx, hr]
  exact hK _ _ h

/-- One cell of one element is written over. -/
theorem OwnK.set1 {α : Type} {E : Enc α} {w : World} {B g n c : Nat} {e : TypeId} {l : List α} (h : OwnK E w B e (.slice (some ⟨g, 0, none⟩) n c) l) {i : Nat} {x y : α} (hx : l[i]? = some x) {j : Nat} (hj : j < E.k) {u : Value} (hy : (E.cs y).toList = (E.cs x).toList.set j u) :
    OwnK E (w.setCell ⟨g, i * E.k + j, none⟩ u) B e (.slice (some ⟨g, 0, none⟩) n c) (l.set i y) := by
  obtain ⟨R, hg, hBg, rfl, hlc, hcm, hRl, hRt⟩ := h.row
  obtain ⟨hi, rfl⟩ := List.getElem?_eq_some_iff.1 hx
  have h1 := heap_setCell_at hg (i * E.k + j) u
  rw [List.setIfInBounds_toArray] at h1
  have hh := ownK_row (E := E) (l := l.set i y) (B := B) (cap := c) h1 hBg (by rw [List.length_set]; exact hlc) hcm (by rw [List.length_set]; exact hRl) (by
    have e1 := kcs_set E l i l[i] hi
    rw [List.set_getElem_self] at e1
    have hA : ((kcs E l).take (i * E.k)).length = i * E.k := by
      rw [← kcs_take E l i (by omega), kcs_length, List.length_take, Nat.min_eq_left (by omega)]
    rw [List.length_set, List.take_set, hRt, kcs_set E l i y hi, hy]
    conv => lhs; rw [e1]
    rw [List.append_assoc, List.append_assoc, List.set_append, if_neg (by rw [hA]; omega), hA, Nat.add_sub_cancel_left, List.set_append, if_pos (by rw [Array.length_toList, E.size]; exact hj)])
  rw [List.length_set] at hh
  exact hh

/-- Some are taken out: the tail is moved down. -/
theorem del_range {α : Type} {E : Enc α} {cur : List Value} {l : List α} {i j : Nat} (hij : i ≤ j) (hj : j ≤ l.length) (hc : l.length * E.k ≤ cur.length) (ht : cur.take (l.length * E.k) = kcs E l) :
    (splice cur (i * E.k) (kcs E (l.drop j))).take ((i + (l.length - j)) * E.k) = kcs E (l.take i ++ l.drop j) := by
  have hd : (kcs E (l.drop j)).length = (l.length - j) * E.k := by rw [kcs_length, List.length_drop]
  have e2 : (i + (l.length - j)) * E.k = i * E.k + (kcs E (l.drop j)).length := by rw [hd, ← Nat.add_mul]
  have e3 : i * E.k ≤ l.length * E.k := Nat.mul_le_mul_right _ (by omega)
  rw [e2, take_splice_head (by omega), kcs_append, kcs_take E l i (by omega), ← ht, List.take_take, Nat.min_eq_left e3]

end Go.Proofs.Ytcnjgjgppbakdaa
