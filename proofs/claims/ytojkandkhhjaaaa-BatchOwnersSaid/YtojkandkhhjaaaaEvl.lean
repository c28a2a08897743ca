/-
  Lists of events in memory: cells of eight, one behind the other. Slices that can be read (RdE), slices of the call's own (OwnE). No function of the program.
-/
import Derived.Test.YtojkandkhhjaaaaEv0
namespace Go.Proofs.Ytojkandkhhjaaaa
open Go.RowKit

theorem Ev.cs_size (e : Ev) : e.cs.size = 8 := rfl

/-- The cells of many. -/
def ecs : List Ev → List Value
  | [] => []
  | e :: t => e.cs.toList ++ ecs t

theorem ecs_length (l : List Ev) : (ecs l).length = l.length * 8 := by
  induction l with
  | nil => rfl
  | cons e t ih =>
    rw [ecs, List.length_append, ih, List.length_cons, Array.length_toList, Ev.cs_size]
    omega

theorem ecs_append (l m : List Ev) : ecs (l ++ m) = ecs l ++ ecs m := by
  induction l with
  | nil => rfl
  | cons e t ih => rw [List.cons_append, ecs, ecs, ih, List.append_assoc]

theorem ecs_one (l : List Ev) : ∀ u ∈ ecs l, u.oneCell' = true := by
  induction l with
  | nil => intro u hu; simp [ecs] at hu
  | cons e t ih =>
    intro u hu
    rcases List.mem_append.1 hu with h | h
    · simp only [Ev.cs, List.mem_cons, List.not_mem_nil, or_false] at h
      rcases h with rfl | rfl | rfl | rfl | rfl | rfl | rfl | rfl <;> rfl
    · exact ih u h

theorem ecs_get (l : List Ev) : ∀ (i j : Nat) (h : i < l.length), j < 8 → (ecs l)[i * 8 + j]? = (l[i]).cs[j]? := by
  induction l with
  | nil => intro i j h; simp at h
  | cons e t ih =>
    intro i j h hj
    rw [ecs]
    cases i with
    | zero =>
      rw [Nat.zero_mul, Nat.zero_add, List.getElem?_append_left (by rw [Array.length_toList, Ev.cs_size]; exact hj), Array.getElem?_toList]
      rfl
    | succ i =>
      rw [List.getElem?_append_right (by rw [Array.length_toList, Ev.cs_size]; omega), Array.length_toList, Ev.cs_size, show (i + 1) * 8 + j - 8 = i * 8 + j by omega]
      exact ih i j (by simpa using h) hj

/-- Any place is one of an event's. -/
theorem ecs_place (l : List Ev) (k : Nat) (h : k < (ecs l).length) : ∃ (i j : Nat) (hi : i < l.length), j < 8 ∧ k = i * 8 + j ∧ (ecs l)[k]? = (l[i]).cs[j]? := by
  rw [ecs_length] at h
  have hi : k / 8 < l.length := by omega
  have e : k = k / 8 * 8 + k % 8 := by omega
  refine ⟨k / 8, k % 8, hi, by omega, e, ?_⟩
  have := ecs_get l (k / 8) (k % 8) hi (by omega)
  rw [← e] at this
  exact this

theorem ecs_set (l : List Ev) : ∀ (i : Nat) (e : Ev), i < l.length → ecs (l.set i e) = (ecs l).take (i * 8) ++ e.cs.toList ++ (ecs l).drop (i * 8 + 8) := by
  induction l with
  | nil => intro i e h; simp at h
  | cons a t ih =>
    intro i e h
    have ha : a.cs.toList.length = 8 := rfl
    cases i with
    | zero =>
      rw [List.set_cons_zero, ecs, ecs, Nat.zero_mul, Nat.zero_add, List.take_zero, List.nil_append, List.drop_append_of_le_length (by omega), List.drop_of_length_le (by omega), List.nil_append]
    | succ i =>
      rw [List.set_cons_succ, ecs, ecs, ih i e (by simpa using h), show (i + 1) * 8 = 8 + i * 8 by omega, List.take_append, ha, List.take_of_length_le (l := a.cs.toList) (by omega), show 8 + i * 8 - 8 = i * 8 by omega, show 8 + i * 8 + 8 = 8 + (i * 8 + 8) by omega, List.drop_append, ha, List.drop_of_length_le (l := a.cs.toList) (by omega), List.nil_append, show 8 + (i * 8 + 8) - 8 = i * 8 + 8 by omega]
      simp

/-- The slice v can be read: its elements are the events l. -/
def RdE (w : World) (v : Value) (l : List Ev) : Prop :=
  ∃ a c, v = .slice a l.length c ∧ l.length ≤ c ∧ (a = none → c = 0) ∧
    (l ≠ [] → ∃ b o, a = some ⟨b, o, none⟩ ∧ ∀ k, k < l.length * 8 → w.cell? ⟨b, o + k, none⟩ = (ecs l)[k]?)

theorem RdE.nil (w : World) : RdE w (.slice none 0 0) [] := ⟨none, 0, rfl, Nat.le_refl _, fun _ => rfl, fun h => absurd rfl h⟩

theorem ecs_some (l : List Ev) (k : Nat) (h : k < l.length * 8) : ∃ u, (ecs l)[k]? = some u := ⟨_, List.getElem?_eq_getElem (by rw [ecs_length]; exact h)⟩

theorem RdE.kept {w w' : World} {v : Value} {l : List Ev} {bs : List Nat} (h : RdE w v l) (hk : Kept w w' bs) (hb : ∀ b, v.ownBlock = some b → b ∉ bs) : RdE w' v l := by
  obtain ⟨a, c, rfl, hc, ha, hl⟩ := h
  refine ⟨a, c, rfl, hc, ha, fun hne => ?_⟩
  obtain ⟨b, o, rfl, hcell⟩ := hl hne
  refine ⟨b, o, rfl, fun k hk' => ?_⟩
  obtain ⟨u, hu⟩ := ecs_some l k hk'
  have h1 := hcell k hk'
  rw [hu] at h1 ⊢
  exact hk.cell (p := ⟨b, o + k, none⟩) (hb b rfl) h1

theorem RdE.shape3 {w : World} {v : Value} {l : List Ev} (h : RdE w v l) : ∃ a c, v = .slice a l.length c := by
  obtain ⟨a, c, h, _⟩ := h
  exact ⟨a, c, h⟩

/-- One event's cells. -/
theorem RdE.at {w : World} {a : Option Addr} {n c : Nat} {l : List Ev} (h : RdE w (.slice a n c) l) (i : Nat) (hi : i < l.length) : ∃ b o, a = some ⟨b, o, none⟩ ∧ ∀ j, j < 8 → w.cell? ⟨b, o + i * 8 + j, none⟩ = (l[i]).cs[j]? := by
  obtain ⟨a', c', hv, _, _, hl⟩ := h
  simp only [Value.slice.injEq] at hv
  obtain ⟨rfl, _, _⟩ := hv
  obtain ⟨b, o, rfl, hcell⟩ := hl (by rintro rfl; simp at hi)
  refine ⟨b, o, rfl, fun j hj => ?_⟩
  rw [← ecs_get l i j hi hj, Nat.add_assoc]
  exact hcell _ (by omega)

/-- What a slice of events yields to an append. -/
theorem RdE.src {P : Program} {w : World} {v : Value} {l : List Ev} (h : RdE w v l) {tx e' : TypeId} (hk : P.underlying tx = some (.slice e')) : Src P 8 tx v l.length (ecs l) w := by
  obtain ⟨a, c, rfl, hc, ha, hl⟩ := h
  by_cases hne : l = []
  · subst hne
    cases a with
    | none => obtain rfl := ha rfl; exact Src.ofNil w hk 0
    | some x => exact Src.ofSlice w hk x 0 c [] rfl (by simp) (by simp)
  · obtain ⟨b, o, rfl, hcell⟩ := hl hne
    refine Src.ofSlice w hk ⟨b, o, none⟩ l.length c (ecs l) (ecs_length l) (fun j u hu => ?_) (ecs_one l)
    have hj := (List.getElem?_eq_some_iff.1 hu).1
    rw [ecs_length] at hj
    rw [Addr.add_lit, hcell j hj]
    exact hu

/-- A slice of events of the call's own. 'e': the event type's number. -/
def OwnE (w : World) (base : Nat) (e : TypeId) (v : Value) (l : List Ev) : Prop := w.ownsRow base e 8 v l.length (ecs l)

theorem OwnE.nil (w : World) (base : Nat) (e : TypeId) : OwnE w base e (.slice none 0 0) [] := World.ownsRow_nil w base e 8

theorem OwnE.rd {w : World} {base : Nat} {e : TypeId} {v : Value} {l : List Ev} (h : OwnE w base e v l) : RdE w v l := by
  rcases h.2 with ⟨rfl, hn⟩ | ⟨g, cap, cur, rfl, hb, hg, hnc, hcm, hcs, ht⟩
  · have : l = [] := List.eq_nil_of_length_eq_zero hn
    subst this
    exact RdE.nil w
  · refine ⟨some ⟨g, 0, none⟩, cap, rfl, hnc, by simp, fun _ => ⟨g, 0, rfl, fun k hk => ?_⟩⟩
    obtain ⟨u, hu⟩ := ecs_some l k hk
    have := World.ownsRow.cells h (g := g) rfl k u hu
    rw [hu]
    simpa [Addr.add_lit] using this

theorem OwnE.kept {w w' : World} {base : Nat} {e : TypeId} {v : Value} {l : List Ev} {bs : List Nat} (h : OwnE w base e v l) (hk : Kept w w' bs) (hb : ∀ b, v.ownBlock = some b → b ∉ bs) : OwnE w' base e v l := by
  refine ⟨h.1, ?_⟩
  rcases h.2 with h2 | ⟨g, cap, cur, rfl, hbg, hg, rest⟩
  · exact .inl h2
  · exact .inr ⟨g, cap, cur, rfl, hbg, hk.heap (hb g rfl) hg, rest⟩

theorem OwnE.mono {w : World} {base base' : Nat} {e : TypeId} {v : Value} {l : List Ev} (h : OwnE w base e v l) (hb : base' ≤ base) : OwnE w base' e v l := by
  refine ⟨h.1, ?_⟩
  rcases h.2 with h2 | ⟨g, cap, cur, rfl, hbg, r⟩
  · exact .inl h2
  · exact .inr ⟨g, cap, cur, rfl, by omega, r⟩

theorem OwnE.lt {w : World} {base : Nat} {e : TypeId} {v : Value} {l : List Ev} (h : OwnE w base e v l) : ∀ b, v.ownBlock = some b → base ≤ b ∧ b < w.heap.size := World.ownsRow.lt h

theorem OwnE.shape {w : World} {base : Nat} {e : TypeId} {v : Value} {l : List Ev} (h : OwnE w base e v l) : ∃ a c, v = .slice a l.length c := by
  rcases h.2 with ⟨rfl, hn⟩ | ⟨g, cap, cur, rfl, _⟩
  · exact ⟨none, 0, by rw [hn]⟩
  · exact ⟨_, _, rfl⟩

/-- Where there is an event, its cells at the block's head. -/
theorem OwnE.at {w : World} {base : Nat} {e : TypeId} {a : Option Addr} {n c : Nat} {l : List Ev} (h : OwnE w base e (.slice a n c) l) (i : Nat) (hi : i < l.length) :
    ∃ g, a = some ⟨g, 0, none⟩ ∧ ∀ j, j < 8 → w.cell? ⟨g, i * 8 + j, none⟩ = (l[i]).cs[j]? ∧ w.frozen? ⟨g, i * 8 + j, none⟩ = false := by
  rcases h.2 with ⟨h1, hn⟩ | ⟨g, cap, cur, hv, hb, hg, hnc, hcm, hcs, ht⟩
  · simp at hn; subst hn; simp at hi
  · simp only [Value.slice.injEq] at hv
    obtain ⟨rfl, _, _⟩ := hv
    refine ⟨g, rfl, fun j hj => ⟨?_, frozen_of_row _ _ _ _ _ hg⟩⟩
    obtain ⟨u, hu⟩ := ecs_some l (i * 8 + j) (by omega)
    have := World.ownsRow.cells h (g := g) rfl _ u hu
    rw [Addr.add_lit, Nat.zero_add] at this
    rw [this, ← hu, ecs_get l i j hi hj]

/-- Eight cells of a block are written. -/
theorem heap_set8 {w : World} {g : Nat} {cs : Array Value} {t : TypeId} {fz : Nat × Nat} (h : w.heap[g]? = some (.cells cs t fz)) (k : Nat) (u0 u1 u2 u3 u4 u5 u6 u7 : Value) :
    ((((((((w.setCell ⟨g, k + 0, none⟩ u0).setCell ⟨g, k + 1, none⟩ u1).setCell ⟨g, k + 2, none⟩ u2).setCell ⟨g, k + 3, none⟩ u3).setCell ⟨g, k + 4, none⟩ u4).setCell ⟨g, k + 5, none⟩ u5).setCell ⟨g, k + 6, none⟩ u6).setCell ⟨g, k + 7, none⟩ u7).heap[g]? =
      some (.cells ((((((((cs.setIfInBounds (k + 0) u0).setIfInBounds (k + 1) u1).setIfInBounds (k + 2) u2).setIfInBounds (k + 3) u3).setIfInBounds (k + 4) u4).setIfInBounds (k + 5) u5).setIfInBounds (k + 6) u6).setIfInBounds (k + 7) u7) t fz) :=
  heap_setCell_at (heap_setCell_at (heap_setCell_at (heap_setCell_at (heap_setCell_at (heap_setCell_at (heap_setCell_at (heap_setCell_at h _ u0) _ u1) _ u2) _ u3) _ u4) _ u5) _ u6) _ u7

theorem set8_list (xs : List Value) (k : Nat) (u0 u1 u2 u3 u4 u5 u6 u7 : Value) (h : k + 8 ≤ xs.length) :
    ((((((((xs.set (k + 0) u0).set (k + 1) u1).set (k + 2) u2).set (k + 3) u3).set (k + 4) u4).set (k + 5) u5).set (k + 6) u6).set (k + 7) u7) = xs.take k ++ [u0, u1, u2, u3, u4, u5, u6, u7] ++ xs.drop (k + 8) := by
  have e : xs = xs.take k ++ (xs.drop k) := (List.take_append_drop k xs).symm
  obtain ⟨A, hA⟩ : ∃ A, A = xs.take k := ⟨_, rfl⟩
  obtain ⟨B, hB⟩ : ∃ B, B = xs.drop k := ⟨_, rfl⟩
  have hl : A.length = k := by rw [hA, List.length_take]; omega
  have hB8 : 8 ≤ B.length := by rw [hB, List.length_drop]; omega
  have hd : xs.drop (k + 8) = B.drop 8 := by rw [hB, List.drop_drop]
  rw [hd, ← hA]
  rw [← hA, ← hB] at e
  rw [e]
  match B, hB8 with
  | b0 :: b1 :: b2 :: b3 :: b4 :: b5 :: b6 :: b7 :: r, _ =>
    subst hl
    simp

/-- An event is written over another one, in a slice of the call's own. -/
theorem OwnE.put {w : World} {base g n c : Nat} {e : TypeId} {l : List Ev} (h : OwnE w base e (.slice (some ⟨g, 0, none⟩) n c) l) (i : Nat) (hi : i < l.length) (x : Ev) :
    OwnE ((((((((w.setCell ⟨g, i * 8, none⟩ (.int .i64 x.id)).setCell ⟨g, i * 8 + 1, none⟩ (.int .i64 x.tx)).setCell ⟨g, i * 8 + 2, none⟩ (.string x.ow)).setCell ⟨g, i * 8 + 3, none⟩ (.int .i64 x.tr)).setCell ⟨g, i * 8 + 4, none⟩ (.int .i64 x.tb)).setCell ⟨g, i * 8 + 5, none⟩ (.int .u8 x.kd)).setCell ⟨g, i * 8 + 6, none⟩ (.int .i64 x.key)).setCell ⟨g, i * 8 + 7, none⟩ (.string x.t))
      base e (.slice (some ⟨g, 0, none⟩) n c) (l.set i x) := by
  refine ⟨by rw [ecs_length, List.length_set], ?_⟩
  rcases h.2 with ⟨h1, _⟩ | ⟨g', cap, cur, hv, hb, hg, hnc, hcm, hcs, ht⟩
  · simp at h1
  · simp only [Value.slice.injEq, Option.some.injEq, Addr.mk.injEq] at hv
    obtain ⟨⟨rfl, _⟩, rfl, rfl⟩ := hv
    refine .inr ⟨g, c, _, by rw [List.length_set], hb, heap_set8 hg (i * 8) (.int .i64 x.id) (.int .i64 x.tx) (.string x.ow) (.int .i64 x.tr) (.int .i64 x.tb) (.int .u8 x.kd) (.int .i64 x.key) (.string x.t), by rw [List.length_set]; exact hnc, hcm, by simpa using hcs, ?_⟩
    have hl1 : cur.toList.length = cur.size := Array.length_toList
    have hl : l.length * 8 ≤ cur.toList.length := by omega
    simp only [Array.toList_setIfInBounds, List.length_set]
    rw [set8_list _ _ _ _ _ _ _ _ _ _ (by omega), ecs_set l i x hi, ← ht]
    have hA : (cur.toList.take (i * 8)).length = i * 8 := by rw [List.length_take]; omega
    rw [List.take_take, Nat.min_eq_left (by omega), List.take_append, List.take_of_length_le (by rw [List.length_append, hA]; simp; omega)]
    congr 1
    rw [List.length_append, hA, List.drop_take]
    rfl

end Go.Proofs.Ytojkandkhhjaaaa
