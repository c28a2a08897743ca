/-
  What came in as arguments of the statements of layer 10: lists of acts; tables, as plain lists.
-/
import Derived.Test.YtalplhhmghnggaaSpi
import Derived.Test.YtalplhhmghnggaaRows
import Derived.Test.YtalplhhmghnggaaChecked
import Derived.Deep.Slices
import Derived.Deep.Fields
import Derived.Deep.Grids
import Derived.ChangeSame
import Derived.LoopTactic
import Derived.ProofKit
import Derived.OpenShut
import Derived.ChangeOld
import Derived.Below
namespace Go.Proofs.Ytalplhhmghnggaa
open Go.ChangeShapes Go.WideShapes Go.ChangeAt Go.RowKit

/-- An act, as it came in. -/
structure ActD where
  d : Nat
  i : Int
  id : Int
  x : Nat
  tb : Nat

/-- The act x lies at this place. -/
structure ActAt (w : World) (b o : Nat) (x : ActD) : Prop where
  c0 : w.cell? ⟨b, o, none⟩ = some (.int .u8 x.d)
  c1 : w.cell? ⟨b, o + 1, none⟩ = some (.int .i64 x.i)
  c2 : w.cell? ⟨b, o + 2, none⟩ = some (.int .i64 x.id)
  c3 : w.cell? ⟨b, o + 3, none⟩ = some (.int .u8 x.x)
  c4 : w.cell? ⟨b, o + 4, none⟩ = some (.int .u8 x.tb)
  d8 : x.d < 256
  x8 : x.x < 256
  t8 : x.tb < 256
  wi : (Lit.int .i64 x.i).wf = true
  wd : (Lit.int .i64 x.id).wf = true

/-- A list of acts that came in. -/
def IsActs (w : World) (B : Nat) (a : Option Addr) (len : Nat) (f : Nat → ActD) : Prop :=
  0 < len → ∃ b o, a = some ⟨b, o, none⟩ ∧ b < B ∧ ∀ i, i < len → ActAt w b (o + i * 5) (f i)

theorem ActAt.kept {w w' : World} {b o : Nat} {x : ActD} {bs : List Nat} (h : ActAt w b o x) (hk : Kept w w' bs) (hb : b ∉ bs) : ActAt w' b o x :=
  { h with c0 := hk.cell (p := ⟨b, o, none⟩) hb h.c0, c1 := hk.cell (p := ⟨b, o + 1, none⟩) hb h.c1, c2 := hk.cell (p := ⟨b, o + 2, none⟩) hb h.c2, c3 := hk.cell (p := ⟨b, o + 3, none⟩) hb h.c3, c4 := hk.cell (p := ⟨b, o + 4, none⟩) hb h.c4 }

theorem IsActs.kept {w w' : World} {B : Nat} {a : Option Addr} {len : Nat} {f : Nat → ActD} (h : IsActs w B a len f) (hk : Kept w w' []) : IsActs w' B a len f := fun hl => by
  obtain ⟨b, o, e, hb, hf⟩ := h hl
  exact ⟨b, o, e, hb, fun i hi => (hf i hi).kept hk (by simp)⟩

set_option maxRecDepth 100000 in
theorem acts_open {H : Type} {enc : TypeId × Value → H} {w : World} {base : Nat} {held : Bool} {fuel : Nat} {a : Option Addr} {len cap : Nat} {x : DataW H × List MemPlace}
    (h : DataW.trod enc Try.prog w base (fun _ => true) held fuel 22 [.slice a len cap] = some x) : ∃ f, IsActs w w.heap.size a len f ∧ len ≤ maxLen := by
  have hC : Try.prog.cellsOf 32 = 5 := by kernel_rfl
  have e0 : Try.prog.cellsOf 5 = 1 := by kernel_rfl
  have e1 : Try.prog.cellsOf 3 = 1 := by kernel_rfl
  have e2 : Try.prog.cellsOf 2 = 1 := by kernel_rfl
  rcases Go.Deep.open_slice Try.underlying22 h with ⟨hcs, _⟩ | ⟨b, l, c, m, n, D, Pl, hcs, _, hl, hm, hmm, _, hel⟩
  · simp at hcs
    obtain ⟨rfl, rfl, rfl⟩ := hcs
    exact ⟨fun _ => ⟨0, 0, 0, 0, 0⟩, fun h => by omega, Nat.zero_le _⟩
  · simp at hcs
    obtain ⟨rfl, rfl, rfl⟩ := hcs
    by_cases hpos : 0 < len
    · have hspot : ∃ bb oo, b = ⟨bb, oo, none⟩ ∧ bb < w.heap.size := by
        obtain ⟨cs, hc, _⟩ := hel 0 (by rw [hmm]; simp; omega)
        rw [hC] at hc
        obtain ⟨_, hcl, hat⟩ := World.cells?_some hc
        have h0 := hat 0 (by decide)
        rw [List.getElem?_eq_getElem (by omega)] at h0
        obtain ⟨bb, oo, spot⟩ := b
        have : spot = none := by simpa [Addr.add] using World.cell?_spot h0
        subst this
        exact ⟨bb, oo, rfl, World.block_lt_of_cell? w _ h0⟩
      obtain ⟨bb, oo, rfl, hbb⟩ := hspot
      have hex : ∀ i, i < len → ∃ y : ActD, ActAt w bb (oo + i * 5) y := by
        intro i hi
        obtain ⟨cs, hc, ht⟩ := hel i (by rw [hmm]; simp; omega)
        rw [hC] at hc
        obtain ⟨_, hcl, hat⟩ := World.cells?_some hc
        obtain ⟨ys, k, _, _, _, hyl, hf⟩ := DataW.trod_struct Try.underlying32 ht
        match cs, hcl, ys, hyl with
        | [x0, x1, x2, x3, x4], _, [y0, y1, y2, y3, y4], _ =>
          have h0 : DataW.trod enc Try.prog w base (fun _ => true) held k 5 [x0] = some y0 := by have := hf 0 _ rfl; simpa [e0] using this
          have h1 : DataW.trod enc Try.prog w base (fun _ => true) held k 3 [x1] = some y1 := by have := hf 1 _ rfl; simpa [e1] using this
          have h2 : DataW.trod enc Try.prog w base (fun _ => true) held k 2 [x2] = some y2 := by have := hf 2 _ rfl; simpa [e2] using this
          have h3 : DataW.trod enc Try.prog w base (fun _ => true) held k 5 [x3] = some y3 := by have := hf 3 _ rfl; simpa [e0] using this
          have h4 : DataW.trod enc Try.prog w base (fun _ => true) held k 5 [x4] = some y4 := by have := hf 4 _ rfl; simpa [e0] using this
          obtain ⟨n0, q0, _, w0⟩ := DataW.trod_int Try.underlying5 h0
          obtain ⟨n1, q1, _, w1⟩ := DataW.trod_int Try.underlying3 h1
          obtain ⟨n2, q2, _, w2⟩ := DataW.trod_int Try.underlying2 h2
          obtain ⟨n3, q3, _, w3⟩ := DataW.trod_int Try.underlying5 h3
          obtain ⟨n4, q4, _, w4⟩ := DataW.trod_int Try.underlying5 h4
          have b0 := bounds_u8 w0
          have b3 := bounds_u8 w3
          have b4 := bounds_u8 w4
          simp at q0 q1 q2 q3 q4
          subst q0 q1 q2 q3 q4
          have cell : ∀ j, j < 5 → w.cell? ⟨bb, oo + i * 5 + j, none⟩ = [Value.int .u8 n0, .int .i64 n1, .int .i64 n2, .int .u8 n3, .int .u8 n4][j]? := fun j hj => by
            have := hat j hj
            rw [Go.Deep.add_add, Addr.add_lit] at this
            rw [Nat.add_assoc]
            exact this
          refine ⟨⟨n0.toNat, n1, n2, n3.toNat, n4.toNat⟩, ?_⟩
          exact { c0 := (cell 0 (by decide)).trans (congrArg (fun z => some (Value.int .u8 z)) (show n0 = ((n0.toNat : Nat) : Int) by omega)), c1 := cell 1 (by decide), c2 := cell 2 (by decide), c3 := (cell 3 (by decide)).trans (congrArg (fun z => some (Value.int .u8 z)) (show n3 = ((n3.toNat : Nat) : Int) by omega)), c4 := (cell 4 (by decide)).trans (congrArg (fun z => some (Value.int .u8 z)) (show n4 = ((n4.toNat : Nat) : Int) by omega)),
                  d8 := by show n0.toNat < 256; omega, x8 := by show n3.toNat < 256; omega, t8 := by show n4.toNat < 256; omega, wi := w1, wd := w2 }
      refine ⟨fun i => if h : i < len then Classical.choose (hex i h) else ⟨0, 0, 0, 0, 0⟩, fun _ => ⟨bb, oo, rfl, hbb, fun i hi => ?_⟩, by omega⟩
      simp only [dif_pos hi]
      exact Classical.choose_spec (hex i hi)
    · exact ⟨fun _ => ⟨0, 0, 0, 0, 0⟩, fun h => absurd h hpos, by omega⟩

/-- Tables, out of what came to them. -/
def tabs (s : List (Nat × Ev)) : Nat → List Ev := fun j => (s.filter fun p => p.1 == j).map (·.2)

theorem tabs_nil : tabs [] = noE := rfl
theorem tabs_snoc (s : List (Nat × Ev)) (t : Nat) (e : Ev) : upd (tabs s) t (tabs s t ++ [e]) = tabs (s ++ [(t, e)]) := by
  funext j
  by_cases h : j = t
  · subst h; rw [upd_same]; simp [tabs]
  · rw [upd_ne _ _ h]
    have : (t == j) = false := beq_eq_false_iff_ne.2 (fun e => h e.symm)
    simp [tabs, this]

theorem tabs_le (s : List (Nat × Ev)) (j : Nat) : (tabs s j).length ≤ s.length := by
  unfold tabs
  rw [List.length_map]
  exact List.length_filter_le _ _

theorem lenN_tabs (s : List (Nat × Ev)) (h : ∀ p ∈ s, p.1 < 3) : lenN (tabs s) = s.length := by
  induction s with
  | nil => rfl
  | cons p s ih =>
    have ih := ih (fun q hq => h q (by simp [hq]))
    have hp := h p (by simp)
    unfold lenN tabs at *
    rw [List.length_map, List.length_map, List.length_map] at *
    obtain ⟨t, e⟩ := p
    simp only at hp
    obtain rfl | rfl | rfl : t = 0 ∨ t = 1 ∨ t = 2 := by omega
    all_goals
      simp only [List.filter_cons, Nat.reduceBEq, BEq.rfl, if_true, Bool.false_eq_true, if_false, List.length_cons]
      omega

theorem forL_tabs (x : Int) (s : List (Nat × Ev)) : forL x (tabs s) = tabs (s.filter fun p => !ofX x p.2) := by
  funext j
  unfold forL tabs
  rw [List.filter_map, List.filter_filter, List.filter_filter]
  congr 1
  apply List.filter_congr
  intro p _
  simp [Bool.and_comm]

theorem mem_pre {l : Nat → List Ev} {e : Ev} (k : Nat) : e ∈ pre l k ↔ ∃ i, i < k ∧ e ∈ l i := by
  induction k with
  | zero => simp [pre]
  | succ k ih =>
    rw [pre, List.mem_append, ih]
    constructor
    · rintro (⟨i, h1, h2⟩ | h)
      · exact ⟨i, by omega, h2⟩
      · exact ⟨k, by omega, h⟩
    · rintro ⟨i, h1, h2⟩
      by_cases e : i = k
      · subst e; exact .inr h2
      · exact .inl ⟨i, by omega, h2⟩

theorem mem_all {l : Nat → List Ev} {e : Ev} : e ∈ srt byId (pre l 3) ↔ ∃ i, i < 3 ∧ e ∈ l i := by
  rw [(srt_stab tot_byId (pre l 3)).mem tot_byId, mem_pre]

theorem pre3_length (l : Nat → List Ev) : (pre l 3).length = lenN l := by simp [pre, lenN]; omega

theorem forL_twice (x : Int) (l : Nat → List Ev) : forL x (forL x l) = forL x l := by
  funext j
  unfold forL
  rw [List.filter_filter]
  apply List.filter_congr
  intro e _
  simp

end Go.Proofs.Ytalplhhmghnggaa
