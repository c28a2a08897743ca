/-
  slices.DeleteFunc on versions.
-/
import Derived.Test.YtdjhcdgehmpikaaRh
namespace Go.Proofs.Ytdjhcdgehmpikaa
open Go.RowKit

/-- What a predicate is asked while its own row turns. -/
def PaysG (w : World) (g : Nat) (key : Int) (l : List Vr) (c : Nat) (lb : Array Value) (P : Vr → Bool) : Prop :=
  ∀ r ∈ l, ∀ V, Fo (fun k => k = g) w V → Calls Try.prog c (#[.agg #[.int .i64 key, .string r.txt, .int .i64 r.birth, .int .i64 r.death]] ++ lb) V fun e w' => e = .returned (.bool (P r)) ∧ Kept V w' []

def keptTo (P : Vr → Bool) (l : List Vr) (j : Nat) : List Vr := (l.take j).filter fun r => !P r

theorem keptTo_hit {P : Vr → Bool} {l : List Vr} {j : Nat} {r : Vr} (h : l[j]? = some r) (hp : P r = false) : keptTo P l (j + 1) = keptTo P l j ++ [r] := by
  simp [keptTo, List.take_add_one, h, hp]
theorem keptTo_miss {P : Vr → Bool} {l : List Vr} {j : Nat} {r : Vr} (h : l[j]? = some r) (hp : P r = true) : keptTo P l (j + 1) = keptTo P l j := by
  simp [keptTo, List.take_add_one, h, hp]
theorem keptTo_all {P : Vr → Bool} {l : List Vr} : keptTo P l l.length = l.filter fun r => !P r := by simp [keptTo]

/-- The row in the loop's midst: what stays in front, and from j on what was. -/
structure Mid (wr : World) (g cap : Nat) (key : Int) (l : List Vr) (P : Vr → Bool) (i j : Nat) : Prop where
  row : ∃ cur, wr.heap[g]? = some (.cells cur 124 (0, 0)) ∧ cur.size = cap * 4 ∧ cur.toList.take (i * 4) = vcl key (keptTo P l j) ∧ ∀ m r t, j ≤ m → l[m]? = some r → t < 4 → cur[m * 4 + t]? = (vcs key r)[t]?
  len : i = (keptTo P l j).length
  lt : i < j
  le : j ≤ l.length

theorem Mid.cells {wr : World} {g cap : Nat} {key : Int} {l : List Vr} {P : Vr → Bool} {i j : Nat} (a : Mid wr g cap key l P i j) {r : Vr} (hr : l[j]? = some r) :
    wr.cell? ⟨g, j * 4, none⟩ = some (.int .i64 key) ∧ wr.cell? ⟨g, j * 4 + 1, none⟩ = some (.string r.txt) ∧ wr.cell? ⟨g, j * 4 + 2, none⟩ = some (.int .i64 r.birth) ∧ wr.cell? ⟨g, j * 4 + 3, none⟩ = some (.int .i64 r.death) := by
  obtain ⟨cur, h1, _, _, h4⟩ := a.row
  have cell : ∀ t u, t < 4 → (vcs key r)[t]? = some u → wr.cell? ⟨g, j * 4 + t, none⟩ = some u := fun t u ht hu => by
    rw [cell_of_row wr g _ _ _ _ h1, h4 j r t (Nat.le_refl _) hr ht, hu]
  exact ⟨cell 0 _ (by decide) rfl, cell 1 _ (by decide) rfl, cell 2 _ (by decide) rfl, cell 3 _ (by decide) rfl⟩

theorem Mid.skip {wr wr' : World} {g cap : Nat} {key : Int} {l : List Vr} {P : Vr → Bool} {i j : Nat} (a : Mid wr g cap key l P i j) {r : Vr} (hr : l[j]? = some r) (hp : P r = true) (hk : Kept wr wr' []) : Mid wr' g cap key l P i (j + 1) := by
  obtain ⟨cur, h1, h2, h3, h4⟩ := a.row
  have hj : j < l.length := (List.getElem?_eq_some_iff.1 hr).1
  exact ⟨⟨cur, hk.heap (by simp) h1, h2, by rw [keptTo_miss hr hp]; exact h3, fun m s t hm => h4 m s t (by omega)⟩, by rw [keptTo_miss hr hp]; exact a.len, by have := a.lt; omega, hj⟩

theorem Mid.keep {wr wr' : World} {g cap : Nat} {key : Int} {l : List Vr} {P : Vr → Bool} {i j : Nat} (a : Mid wr g cap key l P i j) {r : Vr} (hr : l[j]? = some r) (hp : P r = false) (hk : Kept wr wr' []) (hc : l.length ≤ cap) :
    Mid ((((wr'.setCell ⟨g, i * 4, none⟩ (.int .i64 key)).setCell ⟨g, i * 4 + 1, none⟩ (.string r.txt)).setCell ⟨g, i * 4 + 2, none⟩ (.int .i64 r.birth)).setCell ⟨g, i * 4 + 3, none⟩ (.int .i64 r.death)) g cap key l P (i + 1) (j + 1) := by
  obtain ⟨cur, h1, h2, h3, h4⟩ := a.row
  have hj : j < l.length := (List.getElem?_eq_some_iff.1 hr).1
  have hlt := a.lt
  have g1 := heap_setCell_at (heap_setCell_at (heap_setCell_at (heap_setCell_at (hk.heap (by simp) h1) (i * 4) (.int .i64 key)) (i * 4 + 1) (.string r.txt)) (i * 4 + 2) (.int .i64 r.birth)) (i * 4 + 3) (.int .i64 r.death)
  refine ⟨⟨_, g1, by simpa using h2, ?_, fun m s t hm hs ht => ?_⟩, by rw [keptTo_hit hr hp, List.length_append, ← a.len]; rfl, by omega, hj⟩
  · rw [keptTo_hit hr hp, vcl_append, ← h3]
    apply List.ext_getElem?
    intro m
    have hsz : i * 4 + 3 < cur.size := by omega
    have hl : (cur.toList.take (i * 4)).length = i * 4 := by simp; omega
    by_cases hm : m < i * 4
    · rw [List.getElem?_append_left (by omega), List.getElem?_take_of_lt (by omega), List.getElem?_take_of_lt hm]
      simp only [Array.toList_setIfInBounds]
      rw [List.getElem?_set_ne (by omega), List.getElem?_set_ne (by omega), List.getElem?_set_ne (by omega), List.getElem?_set_ne (by omega)]
    · rw [List.getElem?_append_right (by omega), hl]
      obtain ⟨t, rfl⟩ : ∃ t, m = i * 4 + t := ⟨m - i * 4, by omega⟩
      rw [show i * 4 + t - i * 4 = t by omega]
      simp only [vcl, List.flatMap_cons, List.flatMap_nil, List.append_nil]
      by_cases ht : t < 4
      · rw [List.getElem?_take_of_lt (by omega)]
        simp only [Array.toList_setIfInBounds]
        have hlc : cur.toList.length = cur.size := by simp
        obtain rfl | rfl | rfl | rfl : t = 0 ∨ t = 1 ∨ t = 2 ∨ t = 3 := by omega
        · rw [List.getElem?_set_ne (by omega), List.getElem?_set_ne (by omega), List.getElem?_set_ne (by omega), Nat.add_zero, List.getElem?_set_self (by omega)]; rfl
        · rw [List.getElem?_set_ne (by omega), List.getElem?_set_ne (by omega), List.getElem?_set_self (by simp; omega)]; rfl
        · rw [List.getElem?_set_ne (by omega), List.getElem?_set_self (by simp; omega)]; rfl
        · rw [List.getElem?_set_self (by simp; omega)]; rfl
      · rw [List.getElem?_eq_none (by simp; omega), List.getElem?_eq_none (by simp [vcs]; omega)]
  · rw [← h4 m s t (by omega) hs ht]
    rw [Array.getElem?_setIfInBounds_ne (by omega), Array.getElem?_setIfInBounds_ne (by omega), Array.getElem?_setIfInBounds_ne (by omega), Array.getElem?_setIfInBounds_ne (by omega)]

/-- At the end: what is left in front, whatever is written behind it. -/
theorem Mid.done {wr : World} {g cap base : Nat} {key : Int} {l : List Vr} {P : Vr → Bool} {i : Nat} (a : Mid wr g cap key l P i l.length) (hc : l.length ≤ cap) (hm : cap ≤ maxLen) (hb : base ≤ g) (vs : List Value) :
    i = (l.filter fun r => !P r).length ∧ (wr.setCells g (i * 4) vs).ownsRow base 124 4 (.slice (some ⟨g, 0, none⟩) i cap) i (vcl key (l.filter fun r => !P r)) := by
  obtain ⟨cur, h1, h2, h3, _⟩ := a.row
  have hl := a.len
  rw [keptTo_all] at h3 hl
  obtain ⟨cs', c1, c2, c3⟩ := setCells_at vs (i * 4) wr cur h1
  have hlt := a.lt
  exact ⟨hl, by rw [vcl_length, ← hl], .inr ⟨g, cap, cs', rfl, hb, c1, by omega, hm, by rw [c2, h2], by rw [c3, h3]⟩⟩

/-- clear behind it. -/
theorem Mid.clear {wr : World} {g cap : Nat} {key : Int} {l : List Vr} {P : Vr → Bool} {i : Nat} (a : Mid wr g cap key l P i l.length) (hc : l.length ≤ cap) :
    ∃ vs, ∀ ty, (Builtin.clear_ #[117] ty #[.slice (some ⟨g, i * 4, none⟩) (l.length - i) (cap - i)]).run Try.prog wr = .ok (.tuple #[]) (wr.setCells g (i * 4) vs) := by
  obtain ⟨cur, h1, h2, _⟩ := a.row
  have hlt := a.lt
  exact run_clear_cells wr _ 124 _ Try.underlying117 (fun w => Try.zeroValue124 w) (by
    intro v hv
    simp [Value.cells] at hv
    rcases hv with rfl | rfl | rfl | rfl <;> rfl) (by simp [Value.cells]) (by omega) h1 (by simp [Value.cells]; omega)

/-- The place that is written next. -/
theorem Mid.spot {wr wr' : World} {g cap : Nat} {key : Int} {l : List Vr} {P : Vr → Bool} {i j : Nat} (a : Mid wr g cap key l P i j) (hk : Kept wr wr' []) (hc : l.length ≤ cap) :
    (∃ u, wr'.cell? ⟨g, i * 4, none⟩ = some u) ∧ (∃ u, wr'.cell? ⟨g, i * 4 + 1, none⟩ = some u) ∧ (∃ u, wr'.cell? ⟨g, i * 4 + 2, none⟩ = some u) ∧ (∃ u, wr'.cell? ⟨g, i * 4 + 3, none⟩ = some u) ∧
    wr'.frozen? ⟨g, i * 4, none⟩ = false ∧ wr'.frozen? ⟨g, i * 4 + 1, none⟩ = false ∧ wr'.frozen? ⟨g, i * 4 + 2, none⟩ = false ∧ wr'.frozen? ⟨g, i * 4 + 3, none⟩ = false := by
  obtain ⟨cur, h1, h2, _⟩ := a.row
  have h3 := hk.heap (by simp) h1
  have hlt := a.lt
  have hle := a.le
  have c : ∀ m, m < cur.size → ∃ u, wr'.cell? ⟨g, m, none⟩ = some u := fun m hm => ⟨cur[m], by rw [cell_of_row wr' g m _ _ _ h3, Array.getElem?_eq_getElem hm]⟩
  have f : ∀ m, wr'.frozen? ⟨g, m, none⟩ = false := fun m => by simp [World.frozen?, h3]
  exact ⟨c _ (by omega), c _ (by omega), c _ (by omega), c _ (by omega), f _, f _, f _, f _⟩
end Go.Proofs.Ytdjhcdgehmpikaa
