/-
  Zsa, Zsc in one text.
-/
import Derived.Test.YticiofkiffgclaaGreatQo37
import Derived.Test.YticiofkiffgclaaGreatQo7
import Derived.Deep.Slices
import Derived.Deep.Fields
import Derived.Deep.Grids
import Derived.ChangeSame
import Derived.LoopTactic
import Derived.ProofKit
import Derived.OpenShut
import Derived.ChangeOld
import Derived.Below
import Derived.Test.YticiofkiffgclaaGreatQo17
namespace Go.Proofs.YticiofkiffgclaaGreat
set_option linter.unusedVariables false
open Go.ChangeShapes Go.WideShapes Go.ChangeAt Go.RowKit

structure ActQ where
  d : Nat
  id : Nat
  ow : Nat
  a : Int
structure ActQt (w : World) (b o : Nat) (x : ActQ) : Prop where
  c0 : w.cell? ⟨b, o, none⟩ = some (.int .u8 x.d)
  c1 : w.cell? ⟨b, o + 1, none⟩ = some (.int .u8 x.id)
  c2 : w.cell? ⟨b, o + 2, none⟩ = some (.int .u8 x.ow)
  c3 : w.cell? ⟨b, o + 3, none⟩ = some (.int .i64 x.a)
  d8 : x.d < 256
  i8 : x.id < 256
  o8 : x.ow < 256
  wa : (Lit.int .i64 x.a).wf = true
def IsActsQ (w : World) (B : Nat) (a : Option Addr) (len : Nat) (f : Nat → ActQ) : Prop :=
  0 < len → ∃ b o, a = some ⟨b, o, none⟩ ∧ b < B ∧ ∀ i, i < len → ActQt w b (o + i * 4) (f i)
theorem ActQt.kept {w w' : World} {b o : Nat} {x : ActQ} (h : ActQt w b o x) (hk : Kept w w' []) : ActQt w' b o x :=
  { h with c0 := hk.cell (p := ⟨b, o, none⟩) (by simp) h.c0, c1 := hk.cell (p := ⟨b, o + 1, none⟩) (by simp) h.c1, c2 := hk.cell (p := ⟨b, o + 2, none⟩) (by simp) h.c2, c3 := hk.cell (p := ⟨b, o + 3, none⟩) (by simp) h.c3 }
theorem IsActsQ.kept {w w' : World} {B : Nat} {a : Option Addr} {len : Nat} {f : Nat → ActQ} (h : IsActsQ w B a len f) (hk : Kept w w' []) : IsActsQ w' B a len f := fun hl => by
  obtain ⟨b, o, e, hb, hf⟩ := h hl
  exact ⟨b, o, e, hb, fun i hi => (hf i hi).kept hk⟩

set_option maxRecDepth 100000 in
theorem actsq_open {H : Type} {enc : TypeId × Value → H} {w : World} {base : Nat} {held : Bool} {fuel : Nat} {a : Option Addr} {len cap : Nat} {x : DataW H × List MemPlace}
    (h : DataW.trod enc Tryz.prog w base (fun _ => true) held fuel 22 [.slice a len cap] = some x) : ∃ f, IsActsQ w w.heap.size a len f ∧ len ≤ maxLen := by
  have hC : Tryz.prog.cellsOf 28 = 4 := by kernel_rfl
  have e0 : Tryz.prog.cellsOf 5 = 1 := by kernel_rfl
  have e3 : Tryz.prog.cellsOf 2 = 1 := by kernel_rfl
  rcases Go.Deep.open_slice Tryz.underlying22 h with ⟨hcs, _⟩ | ⟨b, l, c, m, n, D, Pl, hcs, _, hl, hm, hmm, _, hel⟩
  · simp at hcs
    obtain ⟨rfl, rfl, rfl⟩ := hcs
    exact ⟨fun _ => ⟨0, 0, 0, 0⟩, fun h => by omega, Nat.zero_le _⟩
  · simp at hcs
    obtain ⟨rfl, rfl, rfl⟩ := hcs
    by_cases hpos : 0 < len
    · have hspot : ∃ bb oo, b = ⟨bb, oo, none⟩ ∧ bb < w.heap.size := by
        obtain ⟨cs, hc, _⟩ := hel 0 (by rw [hmm]; simp; omega)
        rw [hC] at hc
        obtain ⟨_, hcl, hat⟩ := World.cells?_some hc
        have h0 := hat 0 (by decide)
        rw [List.getElem?_eq_getElem (by omega)] at h0
        obtain ⟨bb, oo, spot⟩ := b
        have : spot = none := by simpa [Addr.add] using World.cell?_spot h0
        subst this
        exact ⟨bb, oo, rfl, World.block_lt_of_cell? w _ h0⟩
      obtain ⟨bb, oo, rfl, hbb⟩ := hspot
      have hex : ∀ i, i < len → ∃ y : ActQ, ActQt w bb (oo + i * 4) y := by
        intro i hi
        obtain ⟨cs, hc, ht⟩ := hel i (by rw [hmm]; simp; omega)
        rw [hC] at hc
        obtain ⟨_, hcl, hat⟩ := World.cells?_some hc
        obtain ⟨ys, k, _, _, _, hyl, hf⟩ := DataW.trod_struct Tryz.underlying28 ht
        match cs, hcl, ys, hyl with
        | [x0, x1, x2, x3], _, [y0, y1, y2, y3], _ =>
          have h0 : DataW.trod enc Tryz.prog w base (fun _ => true) held k 5 [x0] = some y0 := by have := hf 0 _ rfl; simpa [e0] using this
          have h1 : DataW.trod enc Tryz.prog w base (fun _ => true) held k 5 [x1] = some y1 := by have := hf 1 _ rfl; simpa [e0] using this
          have h2 : DataW.trod enc Tryz.prog w base (fun _ => true) held k 5 [x2] = some y2 := by have := hf 2 _ rfl; simpa [e0] using this
          have h3 : DataW.trod enc Tryz.prog w base (fun _ => true) held k 2 [x3] = some y3 := by have := hf 3 _ rfl; simpa [e0, e3] using this
          obtain ⟨n0, q0, _, w0⟩ := DataW.trod_int Tryz.underlying5 h0
          obtain ⟨n1, q1, _, w1⟩ := DataW.trod_int Tryz.underlying5 h1
          obtain ⟨n2, q2, _, w2⟩ := DataW.trod_int Tryz.underlying5 h2
          obtain ⟨n3, q3, _, w3⟩ := DataW.trod_int Tryz.underlying2 h3
          have b0 := bounds_u8 w0
          have b1 := bounds_u8 w1
          have b2 := bounds_u8 w2
          simp at q0 q1 q2 q3
          subst q0 q1 q2 q3
          have cell : ∀ j, j < 4 → w.cell? ⟨bb, oo + i * 4 + j, none⟩ = [Value.int .u8 n0, .int .u8 n1, .int .u8 n2, .int .i64 n3][j]? := fun j hj => by
            have := hat j hj
            rw [Go.Deep.add_add, Addr.add_lit] at this
            rw [Nat.add_assoc]
            exact this
          refine ⟨⟨n0.toNat, n1.toNat, n2.toNat, n3⟩, ?_⟩
          exact { c0 := (cell 0 (by decide)).trans (congrArg (fun z => some (Value.int .u8 z)) (show n0 = ((n0.toNat : Nat) : Int) by omega)), c1 := (cell 1 (by decide)).trans (congrArg (fun z => some (Value.int .u8 z)) (show n1 = ((n1.toNat : Nat) : Int) by omega)), c2 := (cell 2 (by decide)).trans (congrArg (fun z => some (Value.int .u8 z)) (show n2 = ((n2.toNat : Nat) : Int) by omega)), c3 := cell 3 (by decide),
                  d8 := by show n0.toNat < 256; omega, i8 := by show n1.toNat < 256; omega, o8 := by show n2.toNat < 256; omega, wa := w3 }
      refine ⟨fun i => if h : i < len then Classical.choose (hex i h) else ⟨0, 0, 0, 0⟩, fun _ => ⟨bb, oo, rfl, hbb, fun i hi => ?_⟩, by omega⟩
      simp only [dif_pos hi]
      exact Classical.choose_spec (hex i hi)
    · exact ⟨fun _ => ⟨0, 0, 0, 0⟩, fun h => absurd h hpos, by omega⟩


theorem wt {P : Program} {md : Region.Mode} {ops : Array Oper} {Q : Exit → Act → World → Prop} {S : World → Prop} {i : Nat} {oi : Oper} {v : Value} {fuel : Nat} {listed : Array Bool} {a : Act} {w : World} (hi : ops[i]? = some oi) (hy : YieldsIf P ops S oi v a) (hS : S w)
    (h : wpAnyH P md ops Q S fuel (listed.setIfInBounds i true) (a.put oi.dst v) w) (hs : Region.noSelect ops = true := by kernel_rfl) (hf : Region.free md ops listed i = true := by kernel_rfl) (hr : (Region.ready md ops listed).contains i = true := by kernel_rfl) (hQ : ∀ c a w, Q (.panic c) (a.put oi.dst v) w → Q (.panic c) a w := by exact fun _ _ _ h => h) : wpAnyH P md ops Q S (fuel + 1) listed a w :=
  wpAnyH_take hi hs hf hr hQ hy hS h

variable {w0 w w' : World} {a : Hk} {h m hx : Nat} {s1 s2 s1' s2' : List Nat} {q1 q2 q' : Qs} {O1 O2 : Nat → Prop}
theorem act_cells {W : World} {xb : Nat} {u0 u1 u2 u3 : Value} {T : TypeId} {f : Nat × Nat} (h : W.heap[xb]? = some (.cells #[u0, u1, u2, u3] T f)) : W.cell? ⟨xb, 0, none⟩ = some u0 ∧ W.cell? ⟨xb, 1, none⟩ = some u1 ∧ W.cell? ⟨xb, 2, none⟩ = some u2 ∧ W.cell? ⟨xb, 3, none⟩ = some u3 :=
  ⟨by rw [cell_of_row _ _ _ _ _ _ h]; rfl, by rw [cell_of_row _ _ _ _ _ _ h]; rfl, by rw [cell_of_row _ _ _ _ _ _ h]; rfl, by rw [cell_of_row _ _ _ _ _ _ h]; rfl⟩

end Go.Proofs.YticiofkiffgclaaGreat

namespace Go.Proofs.YticiofkiffgclaaGreat
set_option linter.unusedVariables false
open Go.ChangeShapes Go.WideShapes Go.ChangeAt Go.RowKit
variable {w0 w w' : World} {a : Hk} {h m hx zb zr : Nat} {s1 s2 s1' s2' : List Nat} {q1 q2 q' : Qs} {O1 O2 : Nat → Prop} {C R : Array Value}

theorem tm4 {U r : Nat} (h : r = U % 4) : (U : Int) % 4 = (r : Int) ∧ (U : Int).tmod 4 = (r : Int) ∧ IntKind.i64.wrap (r : Int) = (r : Int) ∧ wrap64 (r : Int) = (r : Int) := by
  have e : (U : Int) % 4 = (r : Int) := by omega
  exact ⟨e, (Int.tmod_eq_emod_of_nonneg (by omega)).trans e, by rw [IntKind.wrap_i64]; omega, by simp only [wrap64]; omega⟩
theorem ow_wf {ow : Int} (h : -100 ≤ ow ∧ ow ≤ 100000) : (Lit.int .i64 ow).wf = true := wf_i64 (by omega)
end Go.Proofs.YticiofkiffgclaaGreat
