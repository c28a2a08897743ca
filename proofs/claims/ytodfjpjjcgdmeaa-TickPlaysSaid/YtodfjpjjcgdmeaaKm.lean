/-
  What came in as arguments of the statements of layer 11: bytes, lists of acts.
-/
import Derived.Test.YtodfjpjjcgdmeaaKl
import Derived.Test.YtodfjpjjcgdmeaaRows
import Derived.Test.YtodfjpjjcgdmeaaChecked
import Derived.ProofKit
import Derived.OpenShut
import Derived.ChangeOld
import Derived.Below
import Derived.Deep.Slices
import Derived.Deep.Fields
import Derived.Deep.Grids
import Derived.ChangeSame
namespace Go.Proofs.Ytodfjpjjcgdmeaa
open Go.ChangeShapes Go.WideShapes Go.ChangeAt Go.RowKit

/-- What the walk is told of a slice of integers that came in. -/
def IsRow (k : IntKind) (w : World) (a : Option Addr) (len cap : Nat) (zs : List Int) : Prop :=
  (a = none ∧ len = 0 ∧ cap = 0 ∧ zs = []) ∨
  ∃ x, a = some x ∧ len ≤ cap ∧ cap ≤ maxLen ∧ zs.length = cap ∧ (∀ i, i < zs.length → w.cell? (x.add i) = some (.int k (zs.getD i 0))) ∧ ∀ n ∈ zs, (Lit.int k n).wf = true

/-- The bytes of such a slice. -/
theorem isRow_rd {w : World} {a : Option Addr} {len cap : Nat} {zs : List Int} (h : IsRow .u8 w a len cap zs) : ∃ l : List UInt8, l.length = len ∧ Rd w (.slice a len cap) l := by
  rcases h with ⟨rfl, rfl, rfl, rfl⟩ | ⟨x, rfl, hl, hm, hz, hcell, hwz⟩
  · exact ⟨[], rfl, Rd.nil w⟩
  · refine ⟨(zs.take len).map fun n => UInt8.ofNat n.toNat, by simp; omega, ?_⟩
    have hlen : ((zs.take len).map fun n => UInt8.ofNat n.toNat).length = len := by simp; omega
    refine ⟨some x, cap, by rw [hlen], by omega, by simp, fun hne => ?_⟩
    have hpos : 0 < len := by rw [← hlen]; exact List.length_pos_iff.2 hne
    obtain ⟨b, off, spot⟩ := x
    have h0 := hcell 0 (by omega)
    have hspot : spot = none := by simpa [Addr.add] using World.cell?_spot h0
    subst hspot
    refine ⟨b, off, rfl, fun i hi => ?_⟩
    rw [hlen] at hi
    have hc := hcell i (by omega)
    rw [Addr.add_lit] at hc
    rw [hc]
    have hb := bounds_u8 (hwz (zs.getD i 0) (by simp [List.getD, show i < zs.length by omega]))
    have e : ((zs.take len).map fun n => UInt8.ofNat n.toNat).getD i 0 = UInt8.ofNat (zs.getD i 0).toNat := by
      simp [List.getD, hi, show i < zs.length by omega]
    rw [e]
    have h2 : (UInt8.ofNat (zs.getD i 0).toNat).toNat = (zs.getD i 0).toNat := by
      rw [UInt8.toNat_ofNat']
      omega
    rw [h2]
    congr 2
    omega

/-- The numbers of such a slice. -/
theorem u8_nat {a : Int} (h : (Lit.int .u8 a).wf = true) : ∃ n : Nat, a = (n : Int) ∧ n < 256 := by
  have := bounds_u8 h
  exact ⟨a.toNat, by omega, by omega⟩

theorem bytes_open {H : Type} {enc : TypeId × Value → H} {w : World} {base : Nat} {held : Bool} {fuel : Nat} {v : Value} {x : DataW H × List MemPlace}
    (h : DataW.trod enc Try.prog w base (fun _ => true) held fuel 30 [v] = some x) : ∃ l : List UInt8, Rd w v l := by
  rcases open_ints Try.underlying30 Try.underlying5 (by kernel_rfl) h with ⟨hcs, _⟩ | ⟨a, l, c, zs, hcs, _, hl, hm, hz, _, hcell, hwz⟩
  · simp at hcs
    subst hcs
    exact ⟨[], Rd.nil w⟩
  · simp at hcs
    subst hcs
    obtain ⟨L, _, hr⟩ := isRow_rd (w := w) (a := some a) (len := l) (cap := c) (zs := zs) (.inr ⟨_, rfl, hl, hm, by simpa using hz, hcell, hwz⟩)
    exact ⟨L, hr⟩

/-- An act, as it came in. -/
structure ActD where
  d : Nat
  m : Nat
  pv : Value
  p : List UInt8
  t : Int
  n : Int

/-- The act x lies at this place. -/
structure ActAt (w : World) (b o : Nat) (x : ActD) : Prop where
  c0 : w.cell? ⟨b, o, none⟩ = some (.int .u8 x.d)
  c1 : w.cell? ⟨b, o + 1, none⟩ = some (.int .u8 x.m)
  c2 : w.cell? ⟨b, o + 2, none⟩ = some x.pv
  c3 : w.cell? ⟨b, o + 3, none⟩ = some (.int .i64 x.t)
  c4 : w.cell? ⟨b, o + 4, none⟩ = some (.int .i64 x.n)
  rp : Rd w x.pv x.p
  d8 : x.d < 256
  m8 : x.m < 256
  t64 : -9223372036854775808 ≤ x.t ∧ x.t ≤ 9223372036854775807
  n64 : -9223372036854775808 ≤ x.n ∧ x.n ≤ 9223372036854775807

/-- A list of acts that came in. -/
def IsActs (w : World) (B : Nat) (a : Option Addr) (len : Nat) (f : Nat → ActD) : Prop :=
  0 < len → ∃ b o, a = some ⟨b, o, none⟩ ∧ b < B ∧ ∀ i, i < len → ActAt w b (o + i * 5) (f i)

theorem ActAt.keep {w w' : World} {b o : Nat} {x : ActD} (h : ActAt w b o x) (hk : Kept w w' []) : ActAt w' b o x :=
  { h with c0 := hk.cell (p := ⟨b, o, none⟩) (by simp) h.c0, c1 := hk.cell (p := ⟨b, o + 1, none⟩) (by simp) h.c1, c2 := hk.cell (p := ⟨b, o + 2, none⟩) (by simp) h.c2, c3 := hk.cell (p := ⟨b, o + 3, none⟩) (by simp) h.c3, c4 := hk.cell (p := ⟨b, o + 4, none⟩) (by simp) h.c4, rp := h.rp.kept hk (by simp) }

set_option maxRecDepth 100000 in
theorem acts_open {H : Type} {enc : TypeId × Value → H} {w : World} {base : Nat} {held : Bool} {fuel : Nat} {a : Option Addr} {len cap : Nat} {x : DataW H × List MemPlace}
    (h : DataW.trod enc Try.prog w base (fun _ => true) held fuel 22 [.slice a len cap] = some x) : ∃ f, IsActs w w.heap.size a len f ∧ len ≤ maxLen := by
  have hC : Try.prog.cellsOf 32 = 5 := by kernel_rfl
  have e0 : Try.prog.cellsOf 5 = 1 := by kernel_rfl
  have e1 : Try.prog.cellsOf 30 = 1 := by kernel_rfl
  have e2 : Try.prog.cellsOf 2 = 1 := by kernel_rfl
  rcases Go.Deep.open_slice Try.underlying22 h with ⟨hcs, _⟩ | ⟨b, l, c, m, n, D, Pl, hcs, _, hl, hm, hmm, _, hel⟩
  · simp at hcs
    obtain ⟨rfl, rfl, rfl⟩ := hcs
    exact ⟨fun _ => ⟨0, 0, .slice none 0 0, [], 0, 0⟩, fun h => by omega, Nat.zero_le _⟩
  · simp at hcs
    obtain ⟨rfl, rfl, rfl⟩ := hcs
    by_cases hpos : 0 < len
    · have hspot : ∃ bb oo, b = ⟨bb, oo, none⟩ ∧ bb < w.heap.size := by
        obtain ⟨cs, hc, _⟩ := hel 0 (by rw [hmm]; simp; omega)
        rw [hC] at hc
        obtain ⟨_, hcl, hat⟩ := World.cells?_some hc
        have h0 := hat 0 (by decide)
        rw [List.getElem?_eq_getElem (by omega)] at h0
        obtain ⟨bb, oo, spot⟩ := b
        have : spot = none := by simpa [Addr.add] using World.cell?_spot h0
        subst this
        exact ⟨bb, oo, rfl, World.block_lt_of_cell? w _ h0⟩
      obtain ⟨bb, oo, rfl, hbb⟩ := hspot
      have hex : ∀ i, i < len → ∃ y : ActD, ActAt w bb (oo + i * 5) y := by
        intro i hi
        obtain ⟨cs, hc, ht⟩ := hel i (by rw [hmm]; simp; omega)
        rw [hC] at hc
        obtain ⟨_, hcl, hat⟩ := World.cells?_some hc
        obtain ⟨ys, k, _, _, _, hyl, hf⟩ := DataW.trod_struct Try.underlying32 ht
        match cs, hcl, ys, hyl with
        | [x0, x1, x2, x3, x4], _, [y0, y1, y2, y3, y4], _ =>
          have h0 : DataW.trod enc Try.prog w base (fun _ => true) held k 5 [x0] = some y0 := by have := hf 0 _ rfl; simpa [e0] using this
          have h1 : DataW.trod enc Try.prog w base (fun _ => true) held k 5 [x1] = some y1 := by have := hf 1 _ rfl; simpa [e0] using this
          have h2 : DataW.trod enc Try.prog w base (fun _ => true) held k 30 [x2] = some y2 := by have := hf 2 _ rfl; simpa [e1] using this
          have h3 : DataW.trod enc Try.prog w base (fun _ => true) held k 2 [x3] = some y3 := by have := hf 3 _ rfl; simpa [e2] using this
          have h4 : DataW.trod enc Try.prog w base (fun _ => true) held k 2 [x4] = some y4 := by have := hf 4 _ rfl; simpa [e2] using this
          obtain ⟨n0, q0, _, w0⟩ := DataW.trod_int Try.underlying5 h0
          obtain ⟨n1, q1, _, w1⟩ := DataW.trod_int Try.underlying5 h1
          obtain ⟨n3, q3, _, w3⟩ := DataW.trod_int Try.underlying2 h3
          obtain ⟨n4, q4, _, w4⟩ := DataW.trod_int Try.underlying2 h4
          obtain ⟨P, hP⟩ := bytes_open h2
          have b0 := bounds_u8 w0
          have b1 := bounds_u8 w1
          have b3 := bounds_i64 w3
          have b4 := bounds_i64 w4
          simp at q0 q1 q3 q4
          subst q0 q1 q3 q4
          have cell : ∀ j, j < 5 → w.cell? ⟨bb, oo + i * 5 + j, none⟩ = [Value.int .u8 n0, .int .u8 n1, x2, .int .i64 n3, .int .i64 n4][j]? := fun j hj => by
            have := hat j hj
            rw [Go.Deep.add_add, Addr.add_lit] at this
            rw [Nat.add_assoc]
            exact this
          refine ⟨⟨n0.toNat, n1.toNat, x2, P, n3, n4⟩, ?_⟩
          exact { c0 := (cell 0 (by decide)).trans (congrArg (fun z => some (Value.int .u8 z)) (show n0 = ((n0.toNat : Nat) : Int) by omega)), c1 := (cell 1 (by decide)).trans (congrArg (fun z => some (Value.int .u8 z)) (show n1 = ((n1.toNat : Nat) : Int) by omega)), c2 := cell 2 (by decide), c3 := cell 3 (by decide), c4 := cell 4 (by decide), rp := hP,
                  d8 := by show n0.toNat < 256; omega, m8 := by show n1.toNat < 256; omega, t64 := b3, n64 := b4 }
      refine ⟨fun i => if h : i < len then Classical.choose (hex i h) else ⟨0, 0, .slice none 0 0, [], 0, 0⟩, fun _ => ⟨bb, oo, rfl, hbb, fun i hi => ?_⟩, by omega⟩
      simp only [dif_pos hi]
      exact Classical.choose_spec (hex i hi)
    · exact ⟨fun _ => ⟨0, 0, .slice none 0 0, [], 0, 0⟩, fun h => absurd h hpos, by omega⟩

end Go.Proofs.Ytodfjpjjcgdmeaa
