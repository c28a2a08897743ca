/-
  Own small laws for the statements' walks of layer 4: what came in as a slice of integers; one byte written into a slice of the call's own.
-/
import Derived.Test.YtfhdblbiamdplaaDCrash
import Derived.Test.YtfhdblbiamdplaaR01
import Derived.ProofKit
import Derived.OpenShut
import Derived.ShutString
import Derived.ChangeOld
import Derived.Below
import Derived.Lib.SlBytesConst
import Derived.Laws.BytesString
namespace Go.Proofs.Ytfhdblbiamdplaa
open Go.ChangeShapes Go.WideShapes Go.ChangeAt Go.RowKit

/-- What the walk is told of a slice of integers that came in. -/
def IsRow (k : IntKind) (w : World) (a : Option Addr) (len cap : Nat) (zs : List Int) : Prop :=
  (a = none ∧ len = 0 ∧ cap = 0 ∧ zs = []) ∨
  ∃ x, a = some x ∧ len ≤ cap ∧ cap ≤ maxLen ∧ zs.length = cap ∧ (∀ i, i < zs.length → w.cell? (x.add i) = some (.int k (zs.getD i 0))) ∧ ∀ n ∈ zs, (Lit.int k n).wf = true

/-- The bytes of such a slice. -/
theorem isRow_rd {w : World} {a : Option Addr} {len cap : Nat} {zs : List Int} (h : IsRow .u8 w a len cap zs) : ∃ l : List UInt8, l.length = len ∧ Rd w (.slice a len cap) l := by
  rcases h with ⟨rfl, rfl, rfl, rfl⟩ | ⟨x, rfl, hl, hm, hz, hcell, hwz⟩
  · exact ⟨[], rfl, Rd.nil w⟩
  · refine ⟨(zs.take len).map fun n => UInt8.ofNat n.toNat, by simp; omega, ?_⟩
    have hlen : ((zs.take len).map fun n => UInt8.ofNat n.toNat).length = len := by simp; omega
    refine ⟨some x, cap, by rw [hlen], by omega, by simp, fun hne => ?_⟩
    have hpos : 0 < len := by rw [← hlen]; exact List.length_pos_iff.2 hne
    obtain ⟨b, off, spot⟩ := x
    have h0 := hcell 0 (by omega)
    have hspot : spot = none := by simpa [Addr.add] using World.cell?_spot h0
    subst hspot
    refine ⟨b, off, rfl, fun i hi => ?_⟩
    rw [hlen] at hi
    have hc := hcell i (by omega)
    rw [Addr.add_lit] at hc
    rw [hc]
    have hb := bounds_u8 (hwz (zs.getD i 0) (by simp [List.getD, show i < zs.length by omega]))
    have e : ((zs.take len).map fun n => UInt8.ofNat n.toNat).getD i 0 = UInt8.ofNat (zs.getD i 0).toNat := by
      simp [List.getD, hi, show i < zs.length by omega]
    rw [e]
    have h2 : (UInt8.ofNat (zs.getD i 0).toNat).toNat = (zs.getD i 0).toNat := by
      rw [UInt8.toNat_ofNat']
      omega
    rw [h2]
    congr 2
    omega

/-- From block number B on nothing that was there has changed. -/
def NK (B : Nat) (w w' : World) : Prop := ∀ k, B ≤ k → k < w.heap.size → w'.heap[k]? = w.heap[k]?

theorem Rd.nk {B : Nat} {w w' : World} {v : Value} {l : List UInt8} (h : Rd w v l) (hk : NK B w w') (hb : ∀ b, v.ownBlock = some b → B ≤ b) : Rd w' v l := by
  obtain ⟨a, c, rfl, hc, ha, hl⟩ := h
  refine ⟨a, c, rfl, hc, ha, fun hne => ?_⟩
  obtain ⟨b, o, rfl, hcell⟩ := hl hne
  refine ⟨b, o, rfl, fun i hi => ?_⟩
  rw [World.cell?_of_block (w := w) (hk b (hb b rfl) (World.block_lt_of_cell? w _ (hcell i hi)))]
  exact hcell i hi

/-- One byte written into a slice of the call's own. -/
theorem own_store {w : World} {base g n c : Nat} {e : TypeId} {l : List UInt8} (h : Own w base e (.slice (some ⟨g, 0, none⟩) n c) l) (k : Nat) (_hk : k < l.length) (b : UInt8) :
    Own (w.setCell ⟨g, k, none⟩ (.int .u8 (b.toNat : Int))) base e (.slice (some ⟨g, 0, none⟩) n c) (l.set k b) := by
  refine ⟨by rw [bc_length, List.length_set]; omega, ?_⟩
  rcases h.2 with ⟨h1, _⟩ | ⟨g', cap, cur, hv, hbg, hg, hnc, hcm, hcs, ht⟩
  · simp at h1
  · simp only [Value.slice.injEq, Option.some.injEq, Addr.mk.injEq] at hv
    obtain ⟨⟨rfl, _⟩, rfl, rfl⟩ := hv
    refine .inr ⟨g, c, cur.setIfInBounds k (.int .u8 (b.toNat : Int)), by rw [List.length_set], hbg, heap_setCell_at hg k _, by rw [List.length_set]; exact hnc, hcm, by simpa using hcs, ?_⟩
    rw [Array.toList_setIfInBounds, List.length_set, Nat.mul_one, List.take_set]
    rw [Nat.mul_one] at ht
    rw [ht]
    simp [bc, List.map_set]

theorem own_at {w : World} {base g n c : Nat} {e : TypeId} {l : List UInt8} (h : Own w base e (.slice (some ⟨g, 0, none⟩) n c) l) (k : Nat) (hk : k < l.length) :
    w.cell? ⟨g, k, none⟩ = some (.int .u8 ((l.getD k 0).toNat : Int)) ∧ w.frozen? ⟨g, k, none⟩ = false := by
  refine ⟨?_, ?_⟩
  · have := World.ownsRow.cells h (g := g) rfl k _ (bc_at l k hk)
    simpa [Addr.add_lit] using this
  · rcases h.2 with ⟨h1, _⟩ | ⟨g', cap, cur, hv, hbg, hg, _⟩
    · simp at h1
    · simp only [Value.slice.injEq, Option.some.injEq, Addr.mk.injEq] at hv
      obtain ⟨⟨rfl, _⟩, _⟩ := hv
      exact frozen_of_row _ _ _ _ _ hg

/-- A device stands where another slice of bytes is written over. -/
theorem Dv.keptOwn {w w' : World} {B p gn gs n base m : Nat} {v vq : Value} {now safe : List UInt8} {ws : List Wt} {l : List UInt8} (h : Dv w B p gn gs v n now safe ws) (ho : w.ownsRow base 5 1 vq m (bc l)) (hk : Kept w w' vq.ownBlock.toList) : Dv w' B p gn gs v n now safe ws := by
  have hne : ∀ {k : Nat} {cs : Array Value} {t : TypeId} {fz : Nat × Nat}, w.heap[k]? = some (.cells cs t fz) → 5 ≠ t → k ∉ vq.ownBlock.toList := fun hk ht hx => own_ne ho hk ht _ (by simpa using hx) rfl
  refine h.kept hk (hne h.hp (by decide)) (hne h.hn (by decide)) (hne h.hs (by decide)) (fun g hg hx => ?_)
  rcases h.hv.2 with ⟨rfl, _⟩ | ⟨g', cap, cur, rfl, _, hh, _⟩
  · simp [Value.ownBlock] at hg
  · obtain rfl : g' = g := by simpa [Value.ownBlock] using hg
    exact hne hh (by decide) hx

theorem byte_of {a : Int} (h : (Lit.int .u8 a).wf = true) : ∃ b : UInt8, a = (b.toNat : Int) := by
  have := bounds_u8 h
  refine ⟨UInt8.ofNat a.toNat, ?_⟩
  rw [UInt8.toNat_ofNat']
  omega

theorem own_addr {w : World} {base n c : Nat} {e : TypeId} {a : Option Addr} {l : List UInt8} (h : Own w base e (.slice a n c) l) (hn : 0 < n) : ∃ g, a = some ⟨g, 0, none⟩ := by
  rcases h.2 with ⟨h1, _⟩ | ⟨g, cap, cur, h1, _⟩
  · simp at h1; omega
  · simp only [Value.slice.injEq] at h1; exact ⟨g, h1.1⟩

/-- Bytes written out, in a block that was just laid. -/
theorem rb_lit (w : World) (B : Nat) (l : List UInt8) (cs : Array Value) (e : TypeId) (fz : Nat × Nat) (n : Nat) (hn : n = l.length) (h : cs.toList = bc l) : Rb (w.alloc (.cells cs e fz)) B e (.slice (some ⟨w.heap.size, 0, none⟩) n n) l := by
  subst hn
  have hg : (w.alloc (.cells cs e fz)).heap[w.heap.size]? = some (.cells cs e fz) := heap_alloc_new w _
  refine ⟨_, _, rfl, Nat.le_refl _, by simp, fun _ => ⟨w.heap.size, 0, rfl, .inr ⟨_, _, hg⟩, fun i hi => ?_⟩⟩
  rw [cell_of_row _ w.heap.size (0 + i) _ _ _ hg, ← Array.getElem?_toList, h, Nat.zero_add]
  exact bc_at l i hi

theorem rbB_lit (w : World) (B : Nat) (l : List Bool) (cs : Array Value) (e : TypeId) (fz : Nat × Nat) (n : Nat) (hn : n = l.length) (h : cs.toList = l.map Value.bool) : RbB (w.alloc (.cells cs e fz)) B e (.slice (some ⟨w.heap.size, 0, none⟩) n n) l := by
  subst hn
  have hg : (w.alloc (.cells cs e fz)).heap[w.heap.size]? = some (.cells cs e fz) := heap_alloc_new w _
  refine ⟨_, _, rfl, fun _ => ⟨w.heap.size, 0, rfl, .inr ⟨_, _, hg⟩, fun i hi => ?_⟩⟩
  rw [cell_of_row _ w.heap.size (0 + i) _ _ _ hg, ← Array.getElem?_toList, h, Nat.zero_add, List.getElem?_map]
  simp [List.getD, hi]

theorem foldl_push (l : List UInt8) : ∀ (s : ByteArray), ((l.map fun b => (b.toNat : Int)).foldl (fun r n => r.push (UInt8.ofNat n.toNat)) s).data.toList = s.data.toList ++ l := by
  induction l with
  | nil => intro s; simp
  | cons b r ih =>
    intro s
    rw [List.map_cons, List.foldl_cons, ih]
    simp [ByteArray.push]

/-- 'string(b)' of bytes that can be read, at an address. -/
theorem run_str {P : Program} (w : World) (src dst e : TypeId) (hs : P.underlying src = some (.slice e)) (he : P.underlying e = some (.int .u8)) (hd : P.underlying dst = some .string) (a : Addr) (c : Nat) (l : List UInt8) (n : Nat) (hn : n = l.length) (h : ∀ j u, (bc l)[j]? = some u → w.cell? (a.add j) = some u) :
    (convert src dst (.slice (some a) n c)).run P w = .ok (.string ⟨l.toArray⟩) w := by
  subst hn
  have hl : (loadCells a l.length).run P w = .ok (bc l).toArray w := by
    have := run_loadCells_list (P := P) w a (bc l) h
    rwa [bc_length] at this
  have hm : (bc l).toArray = ((l.map fun b => (b.toNat : Int)).map (Value.int .u8)).toArray := by simp [bc]
  rw [run_convert_bytes_string w src dst e _ _ _ hs he hd, run_bytesToString w a l.length c (l.map fun b => (b.toNat : Int)) (by rw [hl, hm])]
  congr 2
  have h2 := foldl_push l ByteArray.empty
  generalize (l.map fun b => (b.toNat : Int)).foldl (fun r n => r.push (UInt8.ofNat n.toNat)) ByteArray.empty = s at h2
  cases s with
  | mk d =>
    congr 1
    apply Array.ext'
    simpa using h2

/-- A frame over blocks that came later counts for nothing. -/
theorem Kept.later {a b c : World} {B : Nat} {ts : List TypeId} (h : Kept a b []) (k : Fr B ts b c) (hB : a.heap.size ≤ B) : Kept a c [] := ((Fr.ofKept h 0 []).later k hB).kept

end Go.Proofs.Ytfhdblbiamdplaa
