/-
  A tick as plain data, and its cells; lists of ticks in memory; numbers that can be read, in a block of numbers. No function of the program.
-/
import Derived.Test.YtodfjpjjcgdmeaaFow
import Derived.Test.YtodfjpjjcgdmeaaSnG
namespace Go.Proofs.Ytodfjpjjcgdmeaa
open Go.RowKit

/-- What a tick tells. -/
structure Pt where
  n : Int
  M : Int
  l : List Int
  t : Int

/-- A tick as it lies in memory: 'a' and 'c' are its list's place and room. -/
structure Tk where
  n : Int
  M : Int
  a : Option Addr
  c : Nat
  l : List Int
  t : Int

def Tk.op (x : Tk) : Value := .slice x.a x.l.length x.c
def Tk.cs (x : Tk) : Array Value := #[.int .i64 x.n, .int .i64 x.M, .slice x.a x.l.length x.c, .int .i64 x.t]
def Tk.pl (x : Tk) : Pt := ⟨x.n, x.M, x.l, x.t⟩
def Tk.zero : Tk := ⟨0, 0, none, 0, [], 0⟩

/-- The slice v can be read, and lies in a block of numbers. -/
def RdT (w : World) (v : Value) (l : List Int) : Prop := RdI w v l ∧ ∀ b, v.ownBlock = some b → ∃ cs, w.heap[b]? = some (.cells cs 2 (0, 0))

/-- No block of numbers is one of these. -/
def NoI (w : World) (O : Nat → Prop) : Prop := ∀ k, O k → ∀ cs fz, w.heap[k]? ≠ some (.cells cs 2 fz)

theorem NoI.none (w : World) : NoI w (fun _ => False) := fun _ h => h.elim

theorem RdI.fo {w w' : World} {v : Value} {l : List Int} {O : Nat → Prop} (h : RdI w v l) (hf : Fo O w w') (hO : ∀ b, v.ownBlock = some b → ¬ O b) : RdI w' v l := by
  obtain ⟨a, c, rfl, hc, hm, ha, hl⟩ := h
  refine ⟨a, c, rfl, hc, hm, ha, fun hne => ?_⟩
  obtain ⟨b, o, rfl, hcell⟩ := hl hne
  refine ⟨b, o, rfl, fun i hi => ?_⟩
  have h1 := hcell i hi
  have same : w'.heap[b]? = w.heap[b]? := hf.block b (World.block_lt_of_cell? w _ h1) (hO b rfl)
  rw [World.cell?_of_block (w := w) same]
  exact h1

theorem RdT.fo {w w' : World} {v : Value} {l : List Int} {O : Nat → Prop} (h : RdT w v l) (hf : Fo O w w') (hO : NoI w O) : RdT w' v l := by
  have hn : ∀ b, v.ownBlock = some b → ¬ O b := fun b hb ho => by
    obtain ⟨cs, hg⟩ := h.2 b hb
    exact hO b ho cs _ hg
  refine ⟨h.1.fo hf hn, fun b hb => ?_⟩
  obtain ⟨cs, hg⟩ := h.2 b hb
  exact ⟨cs, hf.heap (hn b hb) hg⟩

theorem RdT.off {w w' : World} {v : Value} {l : List Int} {O : Nat → Prop} (h : RdT w v l) (hf : Fo O w w') (hn : ∀ b, v.ownBlock = some b → ¬ O b) : RdT w' v l := by
  refine ⟨h.1.fo hf hn, fun b hb => ?_⟩
  obtain ⟨cs, hg⟩ := h.2 b hb
  exact ⟨cs, hf.heap (hn b hb) hg⟩

theorem Fo.four {O : Nat → Prop} {a w : World} (h : Fo O a w) {g : Nat} (hg : O g ∨ a.heap.size ≤ g) (u0 u1 u2 u3 : Value) :
    Fo O a ((((w.setCell ⟨g, 0, none⟩ u0).setCell ⟨g, 1, none⟩ u1).setCell ⟨g, 2, none⟩ u2).setCell ⟨g, 3, none⟩ u3) :=
  (((h.setCell (p := ⟨g, 0, none⟩) hg u0).setCell (p := ⟨g, 1, none⟩) hg u1).setCell (p := ⟨g, 2, none⟩) hg u2).setCell (p := ⟨g, 3, none⟩) hg u3

theorem Kept.four {bs : List Nat} {a w : World} (h : Kept a w bs) {g : Nat} (hg : g ∈ bs ∨ a.heap.size ≤ g) (u0 u1 u2 u3 : Value) :
    Kept a ((((w.setCell ⟨g, 0, none⟩ u0).setCell ⟨g, 1, none⟩ u1).setCell ⟨g, 2, none⟩ u2).setCell ⟨g, 3, none⟩ u3) bs :=
  (((h.setCell (p := ⟨g, 0, none⟩) hg u0).setCell (p := ⟨g, 1, none⟩) hg u1).setCell (p := ⟨g, 2, none⟩) hg u2).setCell (p := ⟨g, 3, none⟩) hg u3

theorem RdT.keep {w w' : World} {v : Value} {l : List Int} (h : RdT w v l) (hk : Kept w w' []) : RdT w' v l := h.fo (Fo.ofKept hk (fun _ => False)) (NoI.none w)

theorem RdT.nil (w : World) : RdT w (.slice none 0 0) [] := ⟨RdI.nil w, fun b hb => by simp [Value.ownBlock] at hb⟩

/-- int64s as cells. -/
def ic (l : List Int) : List Value := l.map fun n => Value.int .i64 n
theorem ic_length (l : List Int) : (ic l).length = l.length := by simp [ic]
theorem ic_get (l : List Int) (j : Nat) (h : j < l.length) : (ic l)[j]? = some (.int .i64 (l.getD j 0)) := by
  simp [ic, List.getD, h]
theorem ic_one (l : List Int) : ∀ u ∈ ic l, u.oneCell' = true := by
  intro u hu
  obtain ⟨_, _, rfl⟩ := List.mem_map.1 hu
  rfl

theorem owns_rdT {w : World} {B : Nat} {v : Value} {l : List Int} (h : w.ownsRow B 2 1 v l.length (ic l)) : RdT w v l := by
  rcases h.2 with ⟨rfl, hn⟩ | ⟨g, cap, cur, rfl, hb, hg, hnc, hcm, hcs, ht⟩
  · have : l = [] := List.eq_nil_of_length_eq_zero hn
    subst this
    exact RdT.nil w
  · refine ⟨⟨some ⟨g, 0, none⟩, cap, rfl, hnc, hcm, by simp, fun _ => ⟨g, 0, rfl, fun i hi => ?_⟩⟩, fun b hb => ?_⟩
    · have := World.ownsRow.cells h (g := g) rfl i _ (ic_get l i hi)
      simpa [Addr.add_lit] using this
    · simp only [Value.ownBlock, Option.some.injEq] at hb
      subst hb
      exact ⟨cur, hg⟩

/-- What numbers that can be read yield to an append. -/
theorem RdI.src {P : Program} {w : World} {v : Value} {l : List Int} (h : RdI w v l) {tx e' : TypeId} (hk : P.underlying tx = some (.slice e')) : Src P 1 tx v l.length (ic l) w := by
  obtain ⟨a, c, rfl, hc, hm, ha, hl⟩ := h
  by_cases hne : l = []
  · subst hne
    cases a with
    | none => obtain rfl := ha rfl; exact Src.ofNil w hk 0
    | some x => exact Src.ofSlice w hk x 0 c [] rfl (by simp) (by simp)
  · obtain ⟨b, o, rfl, hcell⟩ := hl hne
    refine Src.ofSlice w hk ⟨b, o, none⟩ l.length c (ic l) (by rw [ic_length, Nat.mul_one]) (fun j u hu => ?_) (ic_one l)
    have hj := (List.getElem?_eq_some_iff.1 hu).1
    rw [ic_length] at hj
    rw [Addr.add_lit, hcell j hj, ← hu, ic_get l j hj]

theorem Tk.cs_size (e : Tk) : e.cs.size = 4 := rfl

/-- The cells of many. -/
def tcs : List Tk → List Value
  | [] => []
  | e :: t => e.cs.toList ++ tcs t

theorem tcs_length (l : List Tk) : (tcs l).length = l.length * 4 := by
  induction l with
  | nil => rfl
  | cons e t ih =>
    rw [tcs, List.length_append, ih, List.length_cons, Array.length_toList, Tk.cs_size]
    omega

theorem tcs_append (l m : List Tk) : tcs (l ++ m) = tcs l ++ tcs m := by
  induction l with
  | nil => rfl
  | cons e t ih => rw [List.cons_append, tcs, tcs, ih, List.append_assoc]

theorem tcs_one (l : List Tk) : ∀ u ∈ tcs l, u.oneCell' = true := by
  induction l with
  | nil => intro u hu; simp [tcs] at hu
  | cons e t ih =>
    intro u hu
    rcases List.mem_append.1 hu with h | h
    · simp only [Tk.cs, List.mem_cons, List.not_mem_nil, or_false] at h
      rcases h with rfl | rfl | rfl | rfl <;> rfl
    · exact ih u h

theorem tcs_get (l : List Tk) : ∀ (i j : Nat) (h : i < l.length), j < 4 → (tcs l)[i * 4 + j]? = (l[i]).cs[j]? := by
  induction l with
  | nil => intro i j h; simp at h
  | cons e t ih =>
    intro i j h hj
    rw [tcs]
    cases i with
    | zero =>
      rw [Nat.zero_mul, Nat.zero_add, List.getElem?_append_left (by rw [Array.length_toList, Tk.cs_size]; exact hj), Array.getElem?_toList]
      rfl
    | succ i =>
      rw [List.getElem?_append_right (by rw [Array.length_toList, Tk.cs_size]; omega), Array.length_toList, Tk.cs_size, show (i + 1) * 4 + j - 4 = i * 4 + j by omega]
      exact ih i j (by simpa using h) hj

/-- Any place is one of an tick's. -/
theorem tcs_place (l : List Tk) (k : Nat) (h : k < (tcs l).length) : ∃ (i j : Nat) (hi : i < l.length), j < 4 ∧ k = i * 4 + j ∧ (tcs l)[k]? = (l[i]).cs[j]? := by
  rw [tcs_length] at h
  have hi : k / 4 < l.length := by omega
  have e : k = k / 4 * 4 + k % 4 := by omega
  refine ⟨k / 4, k % 4, hi, by omega, e, ?_⟩
  have := tcs_get l (k / 4) (k % 4) hi (by omega)
  rw [← e] at this
  exact this

theorem tcs_set (l : List Tk) : ∀ (i : Nat) (e : Tk), i < l.length → tcs (l.set i e) = (tcs l).take (i * 4) ++ e.cs.toList ++ (tcs l).drop (i * 4 + 4) := by
  induction l with
  | nil => intro i e h; simp at h
  | cons a t ih =>
    intro i e h
    have ha : a.cs.toList.length = 4 := rfl
    cases i with
    | zero =>
      rw [List.set_cons_zero, tcs, tcs, Nat.zero_mul, Nat.zero_add, List.take_zero, List.nil_append, List.drop_append_of_le_length (by omega), List.drop_of_length_le (by omega), List.nil_append]
    | succ i =>
      rw [List.set_cons_succ, tcs, tcs, ih i e (by simpa using h), show (i + 1) * 4 = 4 + i * 4 by omega, List.take_append, ha, List.take_of_length_le (l := a.cs.toList) (by omega), show 4 + i * 4 - 4 = i * 4 by omega, show 4 + i * 4 + 4 = 4 + (i * 4 + 4) by omega, List.drop_append, ha, List.drop_of_length_le (l := a.cs.toList) (by omega), List.nil_append, show 4 + (i * 4 + 4) - 4 = i * 4 + 4 by omega]
      simp

/-- The slice v can be read: its elements are the ticks l. -/
def RdL (w : World) (v : Value) (l : List Tk) : Prop :=
  ∃ a c, v = .slice a l.length c ∧ l.length ≤ c ∧ (a = none → c = 0) ∧
    (l ≠ [] → ∃ b o, a = some ⟨b, o, none⟩ ∧ ∀ k, k < l.length * 4 → w.cell? ⟨b, o + k, none⟩ = (tcs l)[k]?)

theorem RdL.nil (w : World) : RdL w (.slice none 0 0) [] := ⟨none, 0, rfl, Nat.le_refl _, fun _ => rfl, fun h => absurd rfl h⟩

theorem tcs_some (l : List Tk) (k : Nat) (h : k < l.length * 4) : ∃ u, (tcs l)[k]? = some u := ⟨_, List.getElem?_eq_getElem (by rw [tcs_length]; exact h)⟩

theorem RdL.kept {w w' : World} {v : Value} {l : List Tk} {bs : List Nat} (h : RdL w v l) (hk : Kept w w' bs) (hb : ∀ b, v.ownBlock = some b → b ∉ bs) : RdL w' v l := by
  obtain ⟨a, c, rfl, hc, ha, hl⟩ := h
  refine ⟨a, c, rfl, hc, ha, fun hne => ?_⟩
  obtain ⟨b, o, rfl, hcell⟩ := hl hne
  refine ⟨b, o, rfl, fun k hk' => ?_⟩
  obtain ⟨u, hu⟩ := tcs_some l k hk'
  have h1 := hcell k hk'
  rw [hu] at h1 ⊢
  exact hk.cell (p := ⟨b, o + k, none⟩) (hb b rfl) h1

theorem RdL.shape3 {w : World} {v : Value} {l : List Tk} (h : RdL w v l) : ∃ a c, v = .slice a l.length c := by
  obtain ⟨a, c, h, _⟩ := h
  exact ⟨a, c, h⟩

/-- One tick's cells. -/
theorem RdL.at {w : World} {a : Option Addr} {n c : Nat} {l : List Tk} (h : RdL w (.slice a n c) l) (i : Nat) (hi : i < l.length) : ∃ b o, a = some ⟨b, o, none⟩ ∧ ∀ j, j < 4 → w.cell? ⟨b, o + i * 4 + j, none⟩ = (l[i]).cs[j]? := by
  obtain ⟨a', c', hv, _, _, hl⟩ := h
  simp only [Value.slice.injEq] at hv
  obtain ⟨rfl, _, _⟩ := hv
  obtain ⟨b, o, rfl, hcell⟩ := hl (by rintro rfl; simp at hi)
  refine ⟨b, o, rfl, fun j hj => ?_⟩
  rw [← tcs_get l i j hi hj, Nat.add_assoc]
  exact hcell _ (by omega)

/-- What a slice of ticks yields to an append. -/
theorem RdL.src {P : Program} {w : World} {v : Value} {l : List Tk} (h : RdL w v l) {tx e' : TypeId} (hk : P.underlying tx = some (.slice e')) : Src P 4 tx v l.length (tcs l) w := by
  obtain ⟨a, c, rfl, hc, ha, hl⟩ := h
  by_cases hne : l = []
  · subst hne
    cases a with
    | none => obtain rfl := ha rfl; exact Src.ofNil w hk 0
    | some x => exact Src.ofSlice w hk x 0 c [] rfl (by simp) (by simp)
  · obtain ⟨b, o, rfl, hcell⟩ := hl hne
    refine Src.ofSlice w hk ⟨b, o, none⟩ l.length c (tcs l) (tcs_length l) (fun j u hu => ?_) (tcs_one l)
    have hj := (List.getElem?_eq_some_iff.1 hu).1
    rw [tcs_length] at hj
    rw [Addr.add_lit, hcell j hj]
    exact hu

/-- A slice of ticks of the call's own. 'e': the tick type's number. -/
def OwnT (w : World) (base : Nat) (e : TypeId) (v : Value) (l : List Tk) : Prop := w.ownsRow base e 4 v l.length (tcs l)

theorem OwnT.nil (w : World) (base : Nat) (e : TypeId) : OwnT w base e (.slice none 0 0) [] := World.ownsRow_nil w base e 4

theorem OwnT.rd {w : World} {base : Nat} {e : TypeId} {v : Value} {l : List Tk} (h : OwnT w base e v l) : RdL w v l := by
  rcases h.2 with ⟨rfl, hn⟩ | ⟨g, cap, cur, rfl, hb, hg, hnc, hcm, hcs, ht⟩
  · have : l = [] := List.eq_nil_of_length_eq_zero hn
    subst this
    exact RdL.nil w
  · refine ⟨some ⟨g, 0, none⟩, cap, rfl, hnc, by simp, fun _ => ⟨g, 0, rfl, fun k hk => ?_⟩⟩
    obtain ⟨u, hu⟩ := tcs_some l k hk
    have := World.ownsRow.cells h (g := g) rfl k u hu
    rw [hu]
    simpa [Addr.add_lit] using this

theorem OwnT.kept {w w' : World} {base : Nat} {e : TypeId} {v : Value} {l : List Tk} {bs : List Nat} (h : OwnT w base e v l) (hk : Kept w w' bs) (hb : ∀ b, v.ownBlock = some b → b ∉ bs) : OwnT w' base e v l := by
  refine ⟨h.1, ?_⟩
  rcases h.2 with h2 | ⟨g, cap, cur, rfl, hbg, hg, rest⟩
  · exact .inl h2
  · exact .inr ⟨g, cap, cur, rfl, hbg, hk.heap (hb g rfl) hg, rest⟩

theorem OwnT.mono {w : World} {base base' : Nat} {e : TypeId} {v : Value} {l : List Tk} (h : OwnT w base e v l) (hb : base' ≤ base) : OwnT w base' e v l := by
  refine ⟨h.1, ?_⟩
  rcases h.2 with h2 | ⟨g, cap, cur, rfl, hbg, r⟩
  · exact .inl h2
  · exact .inr ⟨g, cap, cur, rfl, by omega, r⟩

theorem OwnT.lt {w : World} {base : Nat} {e : TypeId} {v : Value} {l : List Tk} (h : OwnT w base e v l) : ∀ b, v.ownBlock = some b → base ≤ b ∧ b < w.heap.size := World.ownsRow.lt h

theorem OwnT.shape {w : World} {base : Nat} {e : TypeId} {v : Value} {l : List Tk} (h : OwnT w base e v l) : ∃ a c, v = .slice a l.length c := by
  rcases h.2 with ⟨rfl, hn⟩ | ⟨g, cap, cur, rfl, _⟩
  · exact ⟨none, 0, by rw [hn]⟩
  · exact ⟨_, _, rfl⟩

/-- Where there is an tick, its cells at the block's head. -/
theorem OwnT.at {w : World} {base : Nat} {e : TypeId} {a : Option Addr} {n c : Nat} {l : List Tk} (h : OwnT w base e (.slice a n c) l) (i : Nat) (hi : i < l.length) :
    ∃ g, a = some ⟨g, 0, none⟩ ∧ ∀ j, j < 4 → w.cell? ⟨g, i * 4 + j, none⟩ = (l[i]).cs[j]? ∧ w.frozen? ⟨g, i * 4 + j, none⟩ = false := by
  rcases h.2 with ⟨h1, hn⟩ | ⟨g, cap, cur, hv, hb, hg, hnc, hcm, hcs, ht⟩
  · simp at hn; subst hn; simp at hi
  · simp only [Value.slice.injEq] at hv
    obtain ⟨rfl, _, _⟩ := hv
    refine ⟨g, rfl, fun j hj => ⟨?_, frozen_of_row _ _ _ _ _ hg⟩⟩
    obtain ⟨u, hu⟩ := tcs_some l (i * 4 + j) (by omega)
    have := World.ownsRow.cells h (g := g) rfl _ u hu
    rw [Addr.add_lit, Nat.zero_add] at this
    rw [this, ← hu, tcs_get l i j hi hj]

/-- Four cells of a block are written. -/
theorem heap_set4 {w : World} {g : Nat} {cs : Array Value} {t : TypeId} {fz : Nat × Nat} (h : w.heap[g]? = some (.cells cs t fz)) (k : Nat) (u0 u1 u2 u3 : Value) :
    ((((w.setCell ⟨g, k + 0, none⟩ u0).setCell ⟨g, k + 1, none⟩ u1).setCell ⟨g, k + 2, none⟩ u2).setCell ⟨g, k + 3, none⟩ u3).heap[g]? =
      some (.cells ((((cs.setIfInBounds (k + 0) u0).setIfInBounds (k + 1) u1).setIfInBounds (k + 2) u2).setIfInBounds (k + 3) u3) t fz) :=
  heap_setCell_at (heap_setCell_at (heap_setCell_at (heap_setCell_at h _ u0) _ u1) _ u2) _ u3

theorem set4_list (xs : List Value) (k : Nat) (u0 u1 u2 u3 : Value) (h : k + 4 ≤ xs.length) :
    ((((xs.set (k + 0) u0).set (k + 1) u1).set (k + 2) u2).set (k + 3) u3) = xs.take k ++ [u0, u1, u2, u3] ++ xs.drop (k + 4) := by
  have e : xs = xs.take k ++ (xs.drop k) := (List.take_append_drop k xs).symm
  obtain ⟨A, hA⟩ : ∃ A, A = xs.take k := ⟨_, rfl⟩
  obtain ⟨B, hB⟩ : ∃ B, B = xs.drop k := ⟨_, rfl⟩
  have hl : A.length = k := by rw [hA, List.length_take]; omega
  have hB4 : 4 ≤ B.length := by rw [hB, List.length_drop]; omega
  have hd : xs.drop (k + 4) = B.drop 4 := by rw [hB, List.drop_drop]
  rw [hd, ← hA]
  rw [← hA, ← hB] at e
  rw [e]
  match B, hB4 with
  | b0 :: b1 :: b2 :: b3 :: r, _ =>
    subst hl
    simp

/-- A tick is written over another one, in a slice of the call's own. -/
theorem OwnT.put {w : World} {base g n c : Nat} {e : TypeId} {l : List Tk} (h : OwnT w base e (.slice (some ⟨g, 0, none⟩) n c) l) (i : Nat) (hi : i < l.length) (x : Tk) :
    OwnT ((((w.setCell ⟨g, i * 4, none⟩ (.int .i64 x.n)).setCell ⟨g, i * 4 + 1, none⟩ (.int .i64 x.M)).setCell ⟨g, i * 4 + 2, none⟩ (.slice x.a x.l.length x.c)).setCell ⟨g, i * 4 + 3, none⟩ (.int .i64 x.t))
      base e (.slice (some ⟨g, 0, none⟩) n c) (l.set i x) := by
  refine ⟨by rw [tcs_length, List.length_set], ?_⟩
  rcases h.2 with ⟨h1, _⟩ | ⟨g', cap, cur, hv, hb, hg, hnc, hcm, hcs, ht⟩
  · simp at h1
  · simp only [Value.slice.injEq, Option.some.injEq, Addr.mk.injEq] at hv
    obtain ⟨⟨rfl, _⟩, rfl, rfl⟩ := hv
    refine .inr ⟨g, c, _, by rw [List.length_set], hb, heap_set4 hg (i * 4) (.int .i64 x.n) (.int .i64 x.M) (.slice x.a x.l.length x.c) (.int .i64 x.t), by rw [List.length_set]; exact hnc, hcm, by simpa using hcs, ?_⟩
    have hl1 : cur.toList.length = cur.size := Array.length_toList
    have hl : l.length * 4 ≤ cur.toList.length := by omega
    simp only [Array.toList_setIfInBounds, List.length_set]
    rw [set4_list _ _ _ _ _ _ (by omega), tcs_set l i x hi, ← ht]
    have hA : (cur.toList.take (i * 4)).length = i * 4 := by rw [List.length_take]; omega
    rw [List.take_take, Nat.min_eq_left (by omega), List.take_append, List.take_of_length_le (by rw [List.length_append, hA]; simp; omega)]
    congr 1
    rw [List.length_append, hA, List.drop_take]
    rfl

theorem OwnT.fo {w w' : World} {base : Nat} {e : TypeId} {v : Value} {m : List Tk} {O : Nat → Prop} (x : OwnT w base e v m) (hf : Fo O w w') (he : ∀ g, v.ownBlock = some g → ¬ O g) : OwnT w' base e v m := ownsRow_fo x hf he
theorem OwnT.tag {w : World} {base : Nat} {e : TypeId} {v : Value} {m : List Tk} (x : OwnT w base e v m) {k : Nat} (hk : v.ownBlock = some k) : ∃ cur, w.heap[k]? = some (.cells cur e (0, 0)) := by
  rcases x.2 with ⟨rfl, _⟩ | ⟨g, cap, cur, rfl, _, hg, _⟩
  · simp [Value.ownBlock] at hk
  · simp only [Value.ownBlock, Option.some.injEq] at hk
    subst hk
    exact ⟨cur, hg⟩

end Go.Proofs.Ytodfjpjjcgdmeaa
