/-
  What came in as arguments of the statements of layer 5: slices of bytes, of int64, of bools; small laws of snapshots.
-/
import Derived.Test.YtfmgjmedmbieeaaSnI
import Derived.ProofKit
import Derived.OpenShut
import Derived.ChangeOld
import Derived.Below
import Derived.Deep.Slices
import Derived.Deep.Grids
namespace Go.Proofs.Ytfmgjmedmbieeaa
open Go.ChangeShapes Go.WideShapes Go.ChangeAt Go.RowKit

/-- What the walk is told of a slice of integers that came in. -/
def IsRow (k : IntKind) (w : World) (a : Option Addr) (len cap : Nat) (zs : List Int) : Prop :=
  (a = none ∧ len = 0 ∧ cap = 0 ∧ zs = []) ∨
  ∃ x, a = some x ∧ len ≤ cap ∧ cap ≤ maxLen ∧ zs.length = cap ∧ (∀ i, i < zs.length → w.cell? (x.add i) = some (.int k (zs.getD i 0))) ∧ ∀ n ∈ zs, (Lit.int k n).wf = true

/-- The bytes of such a slice. -/
theorem isRow_rd {w : World} {a : Option Addr} {len cap : Nat} {zs : List Int} (h : IsRow .u8 w a len cap zs) : ∃ l : List UInt8, l.length = len ∧ Rd w (.slice a len cap) l := by
  rcases h with ⟨rfl, rfl, rfl, rfl⟩ | ⟨x, rfl, hl, hm, hz, hcell, hwz⟩
  · exact ⟨[], rfl, Rd.nil w⟩
  · refine ⟨(zs.take len).map fun n => UInt8.ofNat n.toNat, by simp; omega, ?_⟩
    have hlen : ((zs.take len).map fun n => UInt8.ofNat n.toNat).length = len := by simp; omega
    refine ⟨some x, cap, by rw [hlen], by omega, by simp, fun hne => ?_⟩
    have hpos : 0 < len := by rw [← hlen]; exact List.length_pos_iff.2 hne
    obtain ⟨b, off, spot⟩ := x
    have h0 := hcell 0 (by omega)
    have hspot : spot = none := by simpa [Addr.add] using World.cell?_spot h0
    subst hspot
    refine ⟨b, off, rfl, fun i hi => ?_⟩
    rw [hlen] at hi
    have hc := hcell i (by omega)
    rw [Addr.add_lit] at hc
    rw [hc]
    have hb := bounds_u8 (hwz (zs.getD i 0) (by simp [List.getD, show i < zs.length by omega]))
    have e : ((zs.take len).map fun n => UInt8.ofNat n.toNat).getD i 0 = UInt8.ofNat (zs.getD i 0).toNat := by
      simp [List.getD, hi, show i < zs.length by omega]
    rw [e]
    have h2 : (UInt8.ofNat (zs.getD i 0).toNat).toNat = (zs.getD i 0).toNat := by
      rw [UInt8.toNat_ofNat']
      omega
    rw [h2]
    congr 2
    omega

/-- The numbers of such a slice. -/
theorem isRow_rdI {w : World} {a : Option Addr} {len cap : Nat} {zs : List Int} (h : IsRow .i64 w a len cap zs) : ∃ l : List Int, l.length = len ∧ RdI w (.slice a len cap) l := by
  rcases h with ⟨rfl, rfl, rfl, rfl⟩ | ⟨x, rfl, hl, hm, hz, hcell, hwz⟩
  · exact ⟨[], rfl, RdI.nil w⟩
  · have hlen : (zs.take len).length = len := by simp; omega
    refine ⟨zs.take len, hlen, some x, cap, by rw [hlen], by omega, hm, by simp, fun hne => ?_⟩
    have hpos : 0 < len := by rw [← hlen]; exact List.length_pos_iff.2 hne
    obtain ⟨b, off, spot⟩ := x
    have h0 := hcell 0 (by omega)
    have hspot : spot = none := by simpa [Addr.add] using World.cell?_spot h0
    subst hspot
    refine ⟨b, off, rfl, fun i hi => ?_⟩
    rw [hlen] at hi
    have hc := hcell i (by omega)
    rw [Addr.add_lit] at hc
    rw [hc]
    congr 2
    simp [List.getD, hi]

theorem bools_open {H : Type} {enc : TypeId × Value → H} {w : World} {base : Nat} {held : Bool} {fuel : Nat} {v : Value} {x : DataW H × List MemPlace}
    (h : DataW.trod enc Try.prog w base (fun _ => true) held fuel 37 [v] = some x) : ∃ l : List Bool, RbB w w.heap.size 4 v l := by
  rcases Go.Deep.open_bools Try.underlying37 Try.underlying4 (by kernel_rfl) h with ⟨hcs, _⟩ | ⟨a, l, c, B, hcs, _, hl, hm, _, hcell⟩
  · simp at hcs
    subst hcs
    exact ⟨[], none, 0, rfl, fun h => absurd rfl h⟩
  · simp at hcs
    subst hcs
    refine ⟨(List.range l).map B, some a, c, by simp, fun hne => ?_⟩
    have hpos : 0 < l := by
      rcases Nat.eq_zero_or_pos l with h0 | h0
      · subst h0; simp at hne
      · exact h0
    obtain ⟨b, off, spot⟩ := a
    have h0 := hcell 0 (by omega)
    have hspot : spot = none := by simpa [Addr.add] using World.cell?_spot h0
    subst hspot
    refine ⟨b, off, rfl, .inl ?_, fun i hi => ?_⟩
    · have := World.block_lt_of_cell? w _ h0
      simpa [Addr.add] using this
    · simp at hi
      have := hcell i (by omega)
      rw [Addr.add_lit] at this
      rw [this]
      simp [List.getD, hi]

theorem u8_nat {a : Int} (h : (Lit.int .u8 a).wf = true) : ∃ n : Nat, a = (n : Int) ∧ n < 256 := by
  have := bounds_u8 h
  exact ⟨a.toNat, by omega, by omega⟩

/-- A snapshot in memory that can be read. -/
structure Sr (w : World) (p : Nat) (M : Int) (v : Value) (l : List Int) : Prop where
  c0 : w.cell? ⟨p, 0, none⟩ = some (.int .i64 M)
  c1 : w.cell? ⟨p, 1, none⟩ = some v
  rd : RdI w v l

theorem Sr.keep {w w' : World} {p : Nat} {M : Int} {v : Value} {l : List Int} (h : Sr w p M v l) (k : Kept w w' []) : Sr w' p M v l :=
  ⟨k.cell (p := ⟨p, 0, none⟩) (by simp) h.c0, k.cell (p := ⟨p, 1, none⟩) (by simp) h.c1, h.rd.keep k⟩

theorem Sr.new {w : World} {M : Int} {v : Value} {l : List Int} (h : RdI w v l) (t : TypeId) : Sr (w.alloc (.cells #[.int .i64 M, v] t)) w.heap.size M v l := by
  obtain ⟨h0, h1⟩ := two_cells (heap_alloc_new w (.cells #[.int .i64 M, v] t))
  exact ⟨h0, h1, h.keep ((Kept.refl w []).alloc _)⟩

theorem RdI.slice {w : World} {v : Value} {l : List Int} (h : RdI w v l) : ∃ a c, v = .slice a l.length c := by
  obtain ⟨a, c, h, _⟩ := h
  exact ⟨a, c, h⟩

theorem least_sees {M x : Int} {l : List Int} (h : rightB M l = true) (h1 : 1 ≤ x) (h2 : x < leastI M l) : seesB M l x = true := by
  rw [seesB_iff]
  cases l with
  | nil => exact ⟨h1, h2, by simp⟩
  | cons y r =>
    have hy := right_mem h y (by simp)
    have h2 : x < y := h2
    refine ⟨h1, by omega, fun hm => ?_⟩
    obtain ⟨j, hj, e⟩ := mem_getD hm
    cases j with
    | zero => simp at e; omega
    | succ j => have := right_inc h 0 (j + 1) (by omega) hj; simp only [List.getD_cons_zero] at this; omega

theorem least_not {M : Int} (l : List Int) : seesB M l (leastI M l) = false := by
  cases l with
  | nil => simp [seesB, leastI]
  | cons y r => simp [seesB, leastI]

theorem least_bounds {M : Int} {l : List Int} (h : rightB M l = true) : 1 ≤ leastI M l ∧ leastI M l ≤ M := by
  cases l with
  | nil => exact ⟨right_one h, Int.le_refl _⟩
  | cons y r =>
    have := right_mem h y (by simp)
    have e : leastI M (y :: r) = y := rfl
    omega

end Go.Proofs.Ytfmgjmedmbieeaa
