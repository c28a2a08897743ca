/-
  What came in as arguments of the statements of layer 6: lists of acts.
-/
import Derived.Test.YtfhdblbiamdplaaTj
import Derived.Deep.Slices
import Derived.Deep.Fields
import Derived.Deep.Grids
import Derived.ChangeSame
import Derived.LoopTactic
namespace Go.Proofs.Ytfhdblbiamdplaa
open Go.ChangeShapes Go.WideShapes Go.ChangeAt Go.RowKit

theorem ints_open {H : Type} {enc : TypeId × Value → H} {w : World} {base : Nat} {held : Bool} {fuel : Nat} {v : Value} {x : DataW H × List MemPlace}
    (h : DataW.trod enc Try.prog w base (fun _ => true) held fuel 73 [v] = some x) : ∃ l : List Int, RdI w v l := by
  rcases open_ints Try.underlying73 Try.underlying2 (by kernel_rfl) h with ⟨hcs, _⟩ | ⟨a, l, c, zs, hcs, _, hl, hm, hz, _, hcell, hwz⟩
  · simp at hcs
    subst hcs
    exact ⟨[], RdI.nil w⟩
  · simp at hcs
    subst hcs
    obtain ⟨L, _, hr⟩ := isRow_rdI (w := w) (a := some a) (len := l) (cap := c) (zs := zs) (.inr ⟨_, rfl, hl, hm, by simpa using hz, hcell, hwz⟩)
    exact ⟨L, hr⟩

/-- An act, as it came in. -/
structure ActD where
  d : Nat
  x : Int
  lv : Value
  l : List Int

/-- The act x lies at this place. -/
structure ActAt (w : World) (b o : Nat) (x : ActD) : Prop where
  c0 : w.cell? ⟨b, o, none⟩ = some (.int .u8 x.d)
  c1 : w.cell? ⟨b, o + 1, none⟩ = some (.int .i64 x.x)
  c2 : w.cell? ⟨b, o + 2, none⟩ = some x.lv
  rl : RdI w x.lv x.l
  d8 : x.d < 256
  wx : (Lit.int .i64 x.x).wf = true

/-- A list of acts that came in. -/
def IsActs (w : World) (_B : Nat) (a : Option Addr) (len : Nat) (f : Nat → ActD) : Prop :=
  0 < len → ∃ b o, a = some ⟨b, o, none⟩ ∧ ∀ i, i < len → ActAt w b (o + i * 3) (f i)

theorem ActAt.frame {w w' : World} {b o : Nat} {x : ActD} (h : ActAt w b o x) (hk : Kept w w' []) : ActAt w' b o x :=
  { c0 := hk.cell (p := ⟨b, o, none⟩) (by simp) h.c0, c1 := hk.cell (p := ⟨b, o + 1, none⟩) (by simp) h.c1, c2 := hk.cell (p := ⟨b, o + 2, none⟩) (by simp) h.c2, rl := h.rl.keep hk, d8 := h.d8, wx := h.wx }

set_option maxRecDepth 100000 in
theorem acts_open {H : Type} {enc : TypeId × Value → H} {w : World} {base : Nat} {held : Bool} {fuel : Nat} {a : Option Addr} {len cap : Nat} {x : DataW H × List MemPlace}
    (h : DataW.trod enc Try.prog w base (fun _ => true) held fuel 67 [.slice a len cap] = some x) : ∃ f, IsActs w w.heap.size a len f ∧ len ≤ maxLen := by
  have hC : Try.prog.cellsOf 75 = 3 := by kernel_rfl
  have e0 : Try.prog.cellsOf 5 = 1 := by kernel_rfl
  have e1 : Try.prog.cellsOf 2 = 1 := by kernel_rfl
  have e2 : Try.prog.cellsOf 73 = 1 := by kernel_rfl
  rcases Go.Deep.open_slice Try.underlying67 h with ⟨hcs, _⟩ | ⟨b, l, c, m, n, D, Pl, hcs, _, hl, hm, hmm, _, hel⟩
  · simp at hcs
    obtain ⟨rfl, rfl, rfl⟩ := hcs
    exact ⟨fun _ => ⟨0, 0, .slice none 0 0, []⟩, fun h => by omega, Nat.zero_le _⟩
  · simp at hcs
    obtain ⟨rfl, rfl, rfl⟩ := hcs
    by_cases hpos : 0 < len
    · have hspot : ∃ bb oo, b = ⟨bb, oo, none⟩ := by
        obtain ⟨cs, hc, _⟩ := hel 0 (by rw [hmm]; simp; omega)
        rw [hC] at hc
        obtain ⟨_, hcl, hat⟩ := World.cells?_some hc
        have h0 := hat 0 (by decide)
        rw [List.getElem?_eq_getElem (by omega)] at h0
        obtain ⟨bb, oo, spot⟩ := b
        have : spot = none := by simpa [Addr.add] using World.cell?_spot h0
        subst this
        exact ⟨bb, oo, rfl⟩
      obtain ⟨bb, oo, rfl⟩ := hspot
      have hex : ∀ i, i < len → ∃ y : ActD, ActAt w bb (oo + i * 3) y := by
        intro i hi
        obtain ⟨cs, hc, ht⟩ := hel i (by rw [hmm]; simp; omega)
        rw [hC] at hc
        obtain ⟨_, hcl, hat⟩ := World.cells?_some hc
        obtain ⟨ys, k, _, _, _, hyl, hf⟩ := DataW.trod_struct Try.underlying75 ht
        match cs, hcl, ys, hyl with
        | [x0, x1, x2], _, [y0, y1, y2], _ =>
          have h0 : DataW.trod enc Try.prog w base (fun _ => true) held k 5 [x0] = some y0 := by have := hf 0 _ rfl; simpa [e0] using this
          have h1 : DataW.trod enc Try.prog w base (fun _ => true) held k 2 [x1] = some y1 := by have := hf 1 _ rfl; simpa [e1] using this
          have h2 : DataW.trod enc Try.prog w base (fun _ => true) held k 73 [x2] = some y2 := by have := hf 2 _ rfl; simpa [e2] using this
          obtain ⟨n0, q0, _, w0⟩ := DataW.trod_int Try.underlying5 h0
          obtain ⟨n1, q1, _, w1⟩ := DataW.trod_int Try.underlying2 h1
          obtain ⟨P, hP⟩ := ints_open h2
          have b0 := bounds_u8 w0
          have b1 := bounds_i64 w1
          simp at q0 q1
          subst q0 q1
          have cell : ∀ j, j < 3 → w.cell? ⟨bb, oo + i * 3 + j, none⟩ = [Value.int .u8 n0, .int .i64 n1, x2][j]? := fun j hj => by
            have := hat j hj
            rw [Go.Deep.add_add, Addr.add_lit] at this
            rw [Nat.add_assoc]
            exact this
          refine ⟨⟨n0.toNat, n1, x2, P⟩, ?_⟩
          exact { c0 := (cell 0 (by decide)).trans (congrArg (fun z => some (Value.int .u8 z)) (show n0 = ((n0.toNat : Nat) : Int) by omega)), c1 := cell 1 (by decide), c2 := cell 2 (by decide), rl := hP, d8 := by show n0.toNat < 256; omega, wx := w1 }
      refine ⟨fun i => if h : i < len then Classical.choose (hex i h) else ⟨0, 0, .slice none 0 0, []⟩, fun _ => ⟨bb, oo, rfl, fun i hi => ?_⟩, by omega⟩
      simp only [dif_pos hi]
      exact Classical.choose_spec (hex i hi)
    · exact ⟨fun _ => ⟨0, 0, .slice none 0 0, []⟩, fun h => absurd h hpos, by omega⟩


end Go.Proofs.Ytfhdblbiamdplaa
