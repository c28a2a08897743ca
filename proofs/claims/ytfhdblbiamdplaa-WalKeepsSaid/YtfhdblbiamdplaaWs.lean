/-
  What came in as arguments of the statements of layer 4: slices of bools, lists of acts.
-/
import Derived.Test.YtfhdblbiamdplaaWr
import Derived.Test.YtfhdblbiamdplaaRefCrash
import Derived.Deep.Slices
import Derived.Deep.Fields
import Derived.Deep.Grids
import Derived.ChangeSame
import Derived.LoopTactic
namespace Go.Proofs.Ytfhdblbiamdplaa
open Go.ChangeShapes Go.WideShapes Go.ChangeAt Go.RowKit

theorem bytes_open {H : Type} {enc : TypeId × Value → H} {w : World} {base : Nat} {held : Bool} {fuel : Nat} {v : Value} {x : DataW H × List MemPlace}
    (h : DataW.trod enc Try.prog w base (fun _ => true) held fuel 36 [v] = some x) : ∃ l : List UInt8, Rb w w.heap.size 5 v l := by
  rcases open_ints Try.underlying36 Try.underlying5 (by kernel_rfl) h with ⟨hcs, _⟩ | ⟨a, l, c, zs, hcs, _, hl, hm, hz, _, hcell, hwz⟩
  · simp at hcs
    subst hcs
    exact ⟨[], (Rd.nil w).rb _⟩
  · simp at hcs
    subst hcs
    obtain ⟨L, _, hr⟩ := isRow_rd (w := w) (a := some a) (len := l) (cap := c) (zs := zs) (.inr ⟨_, rfl, hl, hm, by simpa using hz, hcell, hwz⟩)
    exact ⟨L, hr.rb _⟩

theorem bools_open {H : Type} {enc : TypeId × Value → H} {w : World} {base : Nat} {held : Bool} {fuel : Nat} {v : Value} {x : DataW H × List MemPlace}
    (h : DataW.trod enc Try.prog w base (fun _ => true) held fuel 37 [v] = some x) : ∃ l : List Bool, RbB w w.heap.size 4 v l := by
  rcases Go.Deep.open_bools Try.underlying37 Try.underlying4 (by kernel_rfl) h with ⟨hcs, _⟩ | ⟨a, l, c, B, hcs, _, hl, hm, _, hcell⟩
  · simp at hcs
    subst hcs
    exact ⟨[], none, 0, rfl, fun h => absurd rfl h⟩
  · simp at hcs
    subst hcs
    refine ⟨(List.range l).map B, some a, c, by simp, fun hne => ?_⟩
    have hpos : 0 < l := by
      rcases Nat.eq_zero_or_pos l with h0 | h0
      · subst h0; simp at hne
      · exact h0
    obtain ⟨b, off, spot⟩ := a
    have h0 := hcell 0 (by omega)
    have hspot : spot = none := by simpa [Addr.add] using World.cell?_spot h0
    subst hspot
    refine ⟨b, off, rfl, .inl ?_, fun i hi => ?_⟩
    · have := World.block_lt_of_cell? w _ h0
      simpa [Addr.add] using this
    · simp at hi
      have := hcell i (by omega)
      rw [Addr.add_lit] at this
      rw [this]
      simp [List.getD, hi]

/-- An act, as it came in. -/
structure ActD where
  d : Nat
  pv : Value
  p : List UInt8
  lv : Value
  l : List Bool
  t : Int

/-- The act x lies at this place. -/
structure ActAt (w : World) (B b o : Nat) (x : ActD) : Prop where
  c0 : w.cell? ⟨b, o, none⟩ = some (.int .u8 x.d)
  c1 : w.cell? ⟨b, o + 1, none⟩ = some x.pv
  c2 : w.cell? ⟨b, o + 2, none⟩ = some x.lv
  c3 : w.cell? ⟨b, o + 3, none⟩ = some (.int .i64 x.t)
  rp : Rb w B 5 x.pv x.p
  rl : RbB w B 4 x.lv x.l
  d8 : x.d < 256
  t64 : -9223372036854775808 ≤ x.t ∧ x.t ≤ 9223372036854775807

/-- A list of acts that came in. -/
def IsActs (w : World) (B : Nat) (a : Option Addr) (len : Nat) (f : Nat → ActD) : Prop :=
  0 < len → ∃ b o, a = some ⟨b, o, none⟩ ∧ ∀ i, i < len → ActAt w B b (o + i * 4) (f i)

theorem ActAt.frame {w w' : World} {B b o : Nat} {x : ActD} (h : ActAt w B b o x) (hk : Kept w w' []) : ActAt w' B b o x :=
  { c0 := hk.cell (p := ⟨b, o, none⟩) (by simp) h.c0, c1 := hk.cell (p := ⟨b, o + 1, none⟩) (by simp) h.c1, c2 := hk.cell (p := ⟨b, o + 2, none⟩) (by simp) h.c2, c3 := hk.cell (p := ⟨b, o + 3, none⟩) (by simp) h.c3
    rp := h.rp.frame (Fr.ofKept hk B []) (Nat.le_refl _) (by simp), rl := h.rl.frame (Fr.ofKept hk B []) (Nat.le_refl _) (by simp), d8 := h.d8, t64 := h.t64 }

set_option maxRecDepth 100000 in
theorem acts_open {H : Type} {enc : TypeId × Value → H} {w : World} {base : Nat} {held : Bool} {fuel : Nat} {a : Option Addr} {len cap : Nat} {x : DataW H × List MemPlace}
    (h : DataW.trod enc Try.prog w base (fun _ => true) held fuel 22 [.slice a len cap] = some x) : ∃ f, IsActs w w.heap.size a len f ∧ len ≤ maxLen := by
  have hC : Try.prog.cellsOf 39 = 4 := by kernel_rfl
  have e0 : Try.prog.cellsOf 5 = 1 := by kernel_rfl
  have e1 : Try.prog.cellsOf 3 = 1 := by kernel_rfl
  have e2 : Try.prog.cellsOf 36 = 1 := by kernel_rfl
  have e3 : Try.prog.cellsOf 37 = 1 := by kernel_rfl
  rcases Go.Deep.open_slice Try.underlying22 h with ⟨hcs, _⟩ | ⟨b, l, c, m, n, D, Pl, hcs, _, hl, hm, hmm, _, hel⟩
  · simp at hcs
    obtain ⟨rfl, rfl, rfl⟩ := hcs
    exact ⟨fun _ => ⟨0, .slice none 0 0, [], .slice none 0 0, [], 0⟩, fun h => by omega, Nat.zero_le _⟩
  · simp at hcs
    obtain ⟨rfl, rfl, rfl⟩ := hcs
    by_cases hpos : 0 < len
    · have hspot : ∃ bb oo, b = ⟨bb, oo, none⟩ := by
        obtain ⟨cs, hc, _⟩ := hel 0 (by rw [hmm]; simp; omega)
        rw [hC] at hc
        obtain ⟨_, hcl, hat⟩ := World.cells?_some hc
        have h0 := hat 0 (by decide)
        rw [List.getElem?_eq_getElem (by omega)] at h0
        obtain ⟨bb, oo, spot⟩ := b
        have : spot = none := by simpa [Addr.add] using World.cell?_spot h0
        subst this
        exact ⟨bb, oo, rfl⟩
      obtain ⟨bb, oo, rfl⟩ := hspot
      have hex : ∀ i, i < len → ∃ y : ActD, ActAt w w.heap.size bb (oo + i * 4) y := by
        intro i hi
        obtain ⟨cs, hc, ht⟩ := hel i (by rw [hmm]; simp; omega)
        rw [hC] at hc
        obtain ⟨_, hcl, hat⟩ := World.cells?_some hc
        obtain ⟨ys, k, _, _, _, hyl, hf⟩ := DataW.trod_struct Try.underlying39 ht
        match cs, hcl, ys, hyl with
        | [x0, x2, x3, x4], _, [y0, y2, y3, y4], _ =>
          have h0 : DataW.trod enc Try.prog w base (fun _ => true) held k 5 [x0] = some y0 := by have := hf 0 _ rfl; simpa [e0] using this
          have h2 : DataW.trod enc Try.prog w base (fun _ => true) held k 36 [x2] = some y2 := by have := hf 1 _ rfl; simpa [e2] using this
          have h3 : DataW.trod enc Try.prog w base (fun _ => true) held k 37 [x3] = some y3 := by have := hf 2 _ rfl; simpa [e3] using this
          have h4 : DataW.trod enc Try.prog w base (fun _ => true) held k 3 [x4] = some y4 := by have := hf 3 _ rfl; simpa [e1] using this
          obtain ⟨n0, q0, _, w0⟩ := DataW.trod_int Try.underlying5 h0
          obtain ⟨n4, q4, _, w4⟩ := DataW.trod_int Try.underlying3 h4
          obtain ⟨P, hP⟩ := bytes_open h2
          obtain ⟨Ls, hL⟩ := bools_open h3
          have b0 := bounds_u8 w0
          have b4 := bounds_i64 w4
          simp at q0 q4
          subst q0 q4
          have cell : ∀ j, j < 4 → w.cell? ⟨bb, oo + i * 4 + j, none⟩ = [Value.int .u8 n0, x2, x3, .int .i64 n4][j]? := fun j hj => by
            have := hat j hj
            rw [Go.Deep.add_add, Addr.add_lit] at this
            rw [Nat.add_assoc]
            exact this
          refine ⟨⟨n0.toNat, x2, P, x3, Ls, n4⟩, ?_⟩
          exact { c0 := (cell 0 (by decide)).trans (congrArg (fun z => some (Value.int .u8 z)) (show n0 = ((n0.toNat : Nat) : Int) by omega)), c1 := cell 1 (by decide), c2 := cell 2 (by decide), c3 := cell 3 (by decide), rp := hP, rl := hL, d8 := by show n0.toNat < 256; omega, t64 := b4 }
      refine ⟨fun i => if h : i < len then Classical.choose (hex i h) else ⟨0, .slice none 0 0, [], .slice none 0 0, [], 0⟩, fun _ => ⟨bb, oo, rfl, fun i hi => ?_⟩, by omega⟩
      simp only [dif_pos hi]
      exact Classical.choose_spec (hex i hi)
    · exact ⟨fun _ => ⟨0, .slice none 0 0, [], .slice none 0 0, [], 0⟩, fun h => absurd h hpos, by omega⟩


end Go.Proofs.Ytfhdblbiamdplaa
