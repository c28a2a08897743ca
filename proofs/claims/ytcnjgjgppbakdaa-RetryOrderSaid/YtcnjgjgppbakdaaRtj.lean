/-
  What came in as arguments of the statements of layer 14: bytes, lists of acts.
-/
import Derived.Test.YtcnjgjgppbakdaaRti
import Derived.Deep.Slices
import Derived.Deep.Fields
import Derived.Deep.Grids
import Derived.ChangeSame
import Derived.LoopTactic
import Derived.ProofKit
import Derived.OpenShut
import Derived.ChangeOld
import Derived.Below
namespace Go.Proofs.Ytcnjgjgppbakdaa
set_option linter.unusedVariables false
open Go.ChangeShapes Go.WideShapes Go.ChangeAt Go.RowKit

/-- What the walk is told of a slice of integers that came in. -/
def IsRow (k : IntKind) (w : World) (a : Option Addr) (len cap : Nat) (zs : List Int) : Prop :=
  (a = none ∧ len = 0 ∧ cap = 0 ∧ zs = []) ∨
  ∃ x, a = some x ∧ len ≤ cap ∧ cap ≤ maxLen ∧ zs.length = cap ∧ (∀ i, i < zs.length → w.cell? (x.add i) = some (.int k (zs.getD i 0))) ∧ ∀ n ∈ zs, (Lit.int k n).wf = true

/-- The numbers of such a slice. -/
theorem u8_nat {a : Int} (h : (Lit.int .u8 a).wf = true) : ∃ n : Nat, a = (n : Int) ∧ n < 256 := by
  have := bounds_u8 h
  exact ⟨a.toNat, by omega, by omega⟩

/-- An act, as it came in. -/
structure ActD where
  d : Nat
  id : Nat
  ow : Nat
  a : Int
  tr : Int

/-- The act x lies at this place. -/
structure ActAt (w : World) (b o : Nat) (x : ActD) : Prop where
  c0 : w.cell? ⟨b, o, none⟩ = some (.int .u8 x.d)
  c1 : w.cell? ⟨b, o + 1, none⟩ = some (.int .u8 x.id)
  c2 : w.cell? ⟨b, o + 2, none⟩ = some (.int .u8 x.ow)
  c3 : w.cell? ⟨b, o + 3, none⟩ = some (.int .i64 x.a)
  c4 : w.cell? ⟨b, o + 4, none⟩ = some (.int .i64 x.tr)
  d8 : x.d < 256
  i8 : x.id < 256
  o8 : x.ow < 256
  wa : (Lit.int .i64 x.a).wf = true
  wt : (Lit.int .i64 x.tr).wf = true

/-- A list of acts that came in. -/
def IsActs (w : World) (B : Nat) (a : Option Addr) (len : Nat) (f : Nat → ActD) : Prop :=
  0 < len → ∃ b o, a = some ⟨b, o, none⟩ ∧ b < B ∧ ∀ i, i < len → ActAt w b (o + i * 5) (f i)

theorem ActAt.kept {w w' : World} {b o : Nat} {x : ActD} {bs : List Nat} (h : ActAt w b o x) (hk : Kept w w' bs) (hb : b ∉ bs) : ActAt w' b o x :=
  { h with c0 := hk.cell (p := ⟨b, o, none⟩) hb h.c0, c1 := hk.cell (p := ⟨b, o + 1, none⟩) hb h.c1, c2 := hk.cell (p := ⟨b, o + 2, none⟩) hb h.c2, c3 := hk.cell (p := ⟨b, o + 3, none⟩) hb h.c3, c4 := hk.cell (p := ⟨b, o + 4, none⟩) hb h.c4 }

theorem IsActs.kept {w w' : World} {B : Nat} {a : Option Addr} {len : Nat} {f : Nat → ActD} (h : IsActs w B a len f) (hk : Kept w w' []) : IsActs w' B a len f := fun hl => by
  obtain ⟨b, o, e, hb, hf⟩ := h hl
  exact ⟨b, o, e, hb, fun i hi => (hf i hi).kept hk (by simp)⟩

set_option maxRecDepth 100000 in
theorem acts_open {H : Type} {enc : TypeId × Value → H} {w : World} {base : Nat} {held : Bool} {fuel : Nat} {a : Option Addr} {len cap : Nat} {x : DataW H × List MemPlace}
    (h : DataW.trod enc Try.prog w base (fun _ => true) held fuel 22 [.slice a len cap] = some x) : ∃ f, IsActs w w.heap.size a len f ∧ len ≤ maxLen := by
  have hC : Try.prog.cellsOf 31 = 5 := by kernel_rfl
  have e0 : Try.prog.cellsOf 5 = 1 := by kernel_rfl
  have e3 : Try.prog.cellsOf 2 = 1 := by kernel_rfl
  have e4 : Try.prog.cellsOf 3 = 1 := by kernel_rfl
  rcases Go.Deep.open_slice Try.underlying22 h with ⟨hcs, _⟩ | ⟨b, l, c, m, n, D, Pl, hcs, _, hl, hm, hmm, _, hel⟩
  · simp at hcs
    obtain ⟨rfl, rfl, rfl⟩ := hcs
    exact ⟨fun _ => ⟨0, 0, 0, 0, 0⟩, fun h => by omega, Nat.zero_le _⟩
  · simp at hcs
    obtain ⟨rfl, rfl, rfl⟩ := hcs
    by_cases hpos : 0 < len
    · have hspot : ∃ bb oo, b = ⟨bb, oo, none⟩ ∧ bb < w.heap.size := by
        obtain ⟨cs, hc, _⟩ := hel 0 (by rw [hmm]; simp; omega)
        rw [hC] at hc
        obtain ⟨_, hcl, hat⟩ := World.cells?_some hc
        have h0 := hat 0 (by decide)
        rw [List.getElem?_eq_getElem (by omega)] at h0
        obtain ⟨bb, oo, spot⟩ := b
        have : spot = none := by simpa [Addr.add] using World.cell?_spot h0
        subst this
        exact ⟨bb, oo, rfl, World.block_lt_of_cell? w _ h0⟩
      obtain ⟨bb, oo, rfl, hbb⟩ := hspot
      have hex : ∀ i, i < len → ∃ y : ActD, ActAt w bb (oo + i * 5) y := by
        intro i hi
        obtain ⟨cs, hc, ht⟩ := hel i (by rw [hmm]; simp; omega)
        rw [hC] at hc
        obtain ⟨_, hcl, hat⟩ := World.cells?_some hc
        obtain ⟨ys, k, _, _, _, hyl, hf⟩ := DataW.trod_struct Try.underlying31 ht
        match cs, hcl, ys, hyl with
        | [x0, x1, x2, x3, x4], _, [y0, y1, y2, y3, y4], _ =>
          have h0 : DataW.trod enc Try.prog w base (fun _ => true) held k 5 [x0] = some y0 := by have := hf 0 _ rfl; simpa [e0] using this
          have h1 : DataW.trod enc Try.prog w base (fun _ => true) held k 5 [x1] = some y1 := by have := hf 1 _ rfl; simpa [e0] using this
          have h2 : DataW.trod enc Try.prog w base (fun _ => true) held k 5 [x2] = some y2 := by have := hf 2 _ rfl; simpa [e0] using this
          have h3 : DataW.trod enc Try.prog w base (fun _ => true) held k 2 [x3] = some y3 := by have := hf 3 _ rfl; simpa [e0, e3] using this
          have h4 : DataW.trod enc Try.prog w base (fun _ => true) held k 3 [x4] = some y4 := by have := hf 4 _ rfl; simpa [e0, e3, e4] using this
          obtain ⟨n0, q0, _, w0⟩ := DataW.trod_int Try.underlying5 h0
          obtain ⟨n1, q1, _, w1⟩ := DataW.trod_int Try.underlying5 h1
          obtain ⟨n2, q2, _, w2⟩ := DataW.trod_int Try.underlying5 h2
          obtain ⟨n3, q3, _, w3⟩ := DataW.trod_int Try.underlying2 h3
          obtain ⟨n4, q4, _, w4⟩ := DataW.trod_int Try.underlying3 h4
          have b0 := bounds_u8 w0
          have b1 := bounds_u8 w1
          have b2 := bounds_u8 w2
          simp at q0 q1 q2 q3 q4
          subst q0 q1 q2 q3 q4
          have cell : ∀ j, j < 5 → w.cell? ⟨bb, oo + i * 5 + j, none⟩ = [Value.int .u8 n0, .int .u8 n1, .int .u8 n2, .int .i64 n3, .int .i64 n4][j]? := fun j hj => by
            have := hat j hj
            rw [Go.Deep.add_add, Addr.add_lit] at this
            rw [Nat.add_assoc]
            exact this
          refine ⟨⟨n0.toNat, n1.toNat, n2.toNat, n3, n4⟩, ?_⟩
          exact { c0 := (cell 0 (by decide)).trans (congrArg (fun z => some (Value.int .u8 z)) (show n0 = ((n0.toNat : Nat) : Int) by omega)), c1 := (cell 1 (by decide)).trans (congrArg (fun z => some (Value.int .u8 z)) (show n1 = ((n1.toNat : Nat) : Int) by omega)), c2 := (cell 2 (by decide)).trans (congrArg (fun z => some (Value.int .u8 z)) (show n2 = ((n2.toNat : Nat) : Int) by omega)), c3 := cell 3 (by decide), c4 := cell 4 (by decide),
                  d8 := by show n0.toNat < 256; omega, i8 := by show n1.toNat < 256; omega, o8 := by show n2.toNat < 256; omega, wa := w3, wt := w4 }
      refine ⟨fun i => if h : i < len then Classical.choose (hex i h) else ⟨0, 0, 0, 0, 0⟩, fun _ => ⟨bb, oo, rfl, hbb, fun i hi => ?_⟩, by omega⟩
      simp only [dif_pos hi]
      exact Classical.choose_spec (hex i hi)
    · exact ⟨fun _ => ⟨0, 0, 0, 0, 0⟩, fun h => absurd h hpos, by omega⟩

end Go.Proofs.Ytcnjgjgppbakdaa
