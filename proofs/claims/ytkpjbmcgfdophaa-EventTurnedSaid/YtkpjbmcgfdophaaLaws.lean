/-
  Own small laws for the statements' walks: what came in as a slice of integers; one byte written into a slice of the call's own.
-/
import Derived.Test.YtkpjbmcgfdophaaThree
import Derived.Test.YtkpjbmcgfdophaaRefRead2
import Derived.Deep.RegionHeld3
import Derived.ProofKit
import Derived.OpenShut
import Derived.ShutString
import Derived.ChangeOld
import Derived.Below
namespace Go.Proofs.Ytkpjbmcgfdophaa
open Go.ChangeShapes Go.WideShapes Go.ChangeAt Go.RowKit

/-- What the walk is told of a slice of integers that came in. -/
def IsRow (k : IntKind) (w : World) (a : Option Addr) (len cap : Nat) (zs : List Int) : Prop :=
  (a = none ∧ len = 0 ∧ cap = 0 ∧ zs = []) ∨
  ∃ x, a = some x ∧ len ≤ cap ∧ cap ≤ maxLen ∧ zs.length = cap ∧ (∀ i, i < zs.length → w.cell? (x.add i) = some (.int k (zs.getD i 0))) ∧ ∀ n ∈ zs, (Lit.int k n).wf = true

/-- The bytes of such a slice. -/
theorem isRow_rd {w : World} {a : Option Addr} {len cap : Nat} {zs : List Int} (h : IsRow .u8 w a len cap zs) : ∃ l : List UInt8, l.length = len ∧ Rd w (.slice a len cap) l := by
  rcases h with ⟨rfl, rfl, rfl, rfl⟩ | ⟨x, rfl, hl, hm, hz, hcell, hwz⟩
  · exact ⟨[], rfl, Rd.nil w⟩
  · refine ⟨(zs.take len).map fun n => UInt8.ofNat n.toNat, by simp; omega, ?_⟩
    have hlen : ((zs.take len).map fun n => UInt8.ofNat n.toNat).length = len := by simp; omega
    refine ⟨some x, cap, by rw [hlen], by omega, by simp, fun hne => ?_⟩
    have hpos : 0 < len := by rw [← hlen]; exact List.length_pos_iff.2 hne
    obtain ⟨b, off, spot⟩ := x
    have h0 := hcell 0 (by omega)
    have hspot : spot = none := by simpa [Addr.add] using World.cell?_spot h0
    subst hspot
    refine ⟨b, off, rfl, fun i hi => ?_⟩
    rw [hlen] at hi
    have hc := hcell i (by omega)
    rw [Addr.add_lit] at hc
    rw [hc]
    have hb := bounds_u8 (hwz (zs.getD i 0) (by simp [List.getD, show i < zs.length by omega]))
    have e : ((zs.take len).map fun n => UInt8.ofNat n.toNat).getD i 0 = UInt8.ofNat (zs.getD i 0).toNat := by
      simp [List.getD, hi, show i < zs.length by omega]
    rw [e]
    have h2 : (UInt8.ofNat (zs.getD i 0).toNat).toNat = (zs.getD i 0).toNat := by
      rw [UInt8.toNat_ofNat']
      omega
    rw [h2]
    congr 2
    omega

theorem Rr.kept2 {w w' : World} {r : Nat} {v : Value} {e : Int} {l : List UInt8} {bs : List Nat} (h : Rr w r v e l) (hk : Kept w w' bs) (hr : r ∉ bs) (hb : l ≠ [] → ∀ b, v.ownBlock = some b → b ∉ bs) : Rr w' r v e l :=
  ⟨hk.heap hr h.1, h.2.1.kept2 hk hb, h.2.2⟩

theorem Wr.kept {w w' : World} {base p : Nat} {v : Value} {l : List UInt8} {bs : List Nat} (h : Wr w base p v l) (hk : Kept w w' bs) (hp : p ∉ bs) (hb : ∀ b, v.ownBlock = some b → b ∉ bs) : Wr w' base p v l :=
  ⟨hk.heap hp h.1, h.2.kept hk hb⟩

/-- From block number B on nothing that was there has changed. -/
def NK (B : Nat) (w w' : World) : Prop := ∀ k, B ≤ k → k < w.heap.size → w'.heap[k]? = w.heap[k]?

theorem Rd.nk {B : Nat} {w w' : World} {v : Value} {l : List UInt8} (h : Rd w v l) (hk : NK B w w') (hb : ∀ b, v.ownBlock = some b → B ≤ b) : Rd w' v l := by
  obtain ⟨a, c, rfl, hc, ha, hl⟩ := h
  refine ⟨a, c, rfl, hc, ha, fun hne => ?_⟩
  obtain ⟨b, o, rfl, hcell⟩ := hl hne
  refine ⟨b, o, rfl, fun i hi => ?_⟩
  rw [World.cell?_of_block (w := w) (hk b (hb b rfl) (World.block_lt_of_cell? w _ (hcell i hi)))]
  exact hcell i hi

/-- One byte written into a slice of the call's own. -/
theorem own_store {w : World} {base g n c : Nat} {e : TypeId} {l : List UInt8} (h : Own w base e (.slice (some ⟨g, 0, none⟩) n c) l) (k : Nat) (_hk : k < l.length) (b : UInt8) :
    Own (w.setCell ⟨g, k, none⟩ (.int .u8 (b.toNat : Int))) base e (.slice (some ⟨g, 0, none⟩) n c) (l.set k b) := by
  refine ⟨by rw [bc_length, List.length_set]; omega, ?_⟩
  rcases h.2 with ⟨h1, _⟩ | ⟨g', cap, cur, hv, hbg, hg, hnc, hcm, hcs, ht⟩
  · simp at h1
  · simp only [Value.slice.injEq, Option.some.injEq, Addr.mk.injEq] at hv
    obtain ⟨⟨rfl, _⟩, rfl, rfl⟩ := hv
    refine .inr ⟨g, c, cur.setIfInBounds k (.int .u8 (b.toNat : Int)), by rw [List.length_set], hbg, heap_setCell_at hg k _, by rw [List.length_set]; exact hnc, hcm, by simpa using hcs, ?_⟩
    rw [Array.toList_setIfInBounds, List.length_set, Nat.mul_one, List.take_set]
    rw [Nat.mul_one] at ht
    rw [ht]
    simp [bc, List.map_set]

theorem own_at {w : World} {base g n c : Nat} {e : TypeId} {l : List UInt8} (h : Own w base e (.slice (some ⟨g, 0, none⟩) n c) l) (k : Nat) (hk : k < l.length) :
    w.cell? ⟨g, k, none⟩ = some (.int .u8 ((l.getD k 0).toNat : Int)) ∧ w.frozen? ⟨g, k, none⟩ = false := by
  refine ⟨?_, ?_⟩
  · have := World.ownsRow.cells h (g := g) rfl k _ (bc_at l k hk)
    simpa [Addr.add_lit] using this
  · rcases h.2 with ⟨h1, _⟩ | ⟨g', cap, cur, hv, hbg, hg, _⟩
    · simp at h1
    · simp only [Value.slice.injEq, Option.some.injEq, Addr.mk.injEq] at hv
      obtain ⟨⟨rfl, _⟩, _⟩ := hv
      exact frozen_of_row _ _ _ _ _ hg

end Go.Proofs.Ytkpjbmcgfdophaa
