/-
  What came in as arguments of the statements of layer 8: lists of acts; small.
-/
import Derived.Test.YtdjhcdgehmpikaaHr
import Derived.Deep.Slices
import Derived.Deep.Fields
import Derived.Deep.Grids
import Derived.ChangeSame
import Derived.LoopTactic
import Derived.ProofKit
import Derived.OpenShut
import Derived.ChangeOld
import Derived.Below
namespace Go.Proofs.Ytdjhcdgehmpikaa
open Go.ChangeShapes Go.WideShapes Go.ChangeAt Go.RowKit

/-- An act, as it came in. -/
structure ActD where
  d : Nat
  who : Nat
  kind : Nat
  table : Int
  key : Int
  txt : ByteArray

/-- The act x lies at this place. -/
structure ActAt (w : World) (b o : Nat) (x : ActD) : Prop where
  c0 : w.cell? ⟨b, o, none⟩ = some (.int .u8 x.d)
  c1 : w.cell? ⟨b, o + 1, none⟩ = some (.int .u8 x.who)
  c2 : w.cell? ⟨b, o + 2, none⟩ = some (.int .u8 x.kind)
  c3 : w.cell? ⟨b, o + 3, none⟩ = some (.int .i64 x.table)
  c4 : w.cell? ⟨b, o + 4, none⟩ = some (.int .i64 x.key)
  c5 : w.cell? ⟨b, o + 5, none⟩ = some (.string x.txt)
  d8 : x.d < 256
  w8 : x.who < 256
  k8 : x.kind < 256
  wt : (Lit.int .i64 x.table).wf = true
  wk : (Lit.int .i64 x.key).wf = true

/-- A list of acts that came in. -/
def IsActs (w : World) (_B : Nat) (a : Option Addr) (len : Nat) (f : Nat → ActD) : Prop :=
  0 < len → ∃ b o, a = some ⟨b, o, none⟩ ∧ ∀ i, i < len → ActAt w b (o + i * 6) (f i)

theorem ActAt.frame {w w' : World} {b o : Nat} {x : ActD} (h : ActAt w b o x) (hk : Kept w w' []) : ActAt w' b o x :=
  { c0 := hk.cell (p := ⟨b, o, none⟩) (by simp) h.c0, c1 := hk.cell (p := ⟨b, o + 1, none⟩) (by simp) h.c1, c2 := hk.cell (p := ⟨b, o + 2, none⟩) (by simp) h.c2, c3 := hk.cell (p := ⟨b, o + 3, none⟩) (by simp) h.c3, c4 := hk.cell (p := ⟨b, o + 4, none⟩) (by simp) h.c4, c5 := hk.cell (p := ⟨b, o + 5, none⟩) (by simp) h.c5, d8 := h.d8, w8 := h.w8, k8 := h.k8, wt := h.wt, wk := h.wk }

theorem IsActs.below {w w' : World} {B : Nat} {a : Option Addr} {len : Nat} {f : Nat → ActD} (h : IsActs w B a len f) (hb : Below w.heap.size w w') : IsActs w' B a len f := fun hl => by
  obtain ⟨b, o, e, hf⟩ := h hl
  exact ⟨b, o, e, fun i hi => (hf i hi).frame (Kept.ofBelow hb [])⟩

set_option maxRecDepth 100000 in
theorem acts_open {H : Type} {enc : TypeId × Value → H} {w : World} {base : Nat} {held : Bool} {fuel : Nat} {a : Option Addr} {len cap : Nat} {x : DataW H × List MemPlace}
    (h : DataW.trod enc Try.prog w base (fun _ => true) held fuel 22 [.slice a len cap] = some x) : ∃ f, IsActs w w.heap.size a len f ∧ len ≤ maxLen := by
  have hC : Try.prog.cellsOf 41 = 6 := by kernel_rfl
  have e0 : Try.prog.cellsOf 5 = 1 := by kernel_rfl
  have e2 : Try.prog.cellsOf 2 = 1 := by kernel_rfl
  have ei : Try.prog.cellsOf 3 = 1 := by kernel_rfl
  have e3 : Try.prog.cellsOf 9 = 1 := by kernel_rfl
  rcases Go.Deep.open_slice Try.underlying22 h with ⟨hcs, _⟩ | ⟨b, l, c, m, n, D, Pl, hcs, _, hl, hm, hmm, _, hel⟩
  · simp at hcs
    obtain ⟨rfl, rfl, rfl⟩ := hcs
    exact ⟨fun _ => ⟨0, 0, 0, 0, 0, ⟨#[]⟩⟩, fun h => by omega, Nat.zero_le _⟩
  · simp at hcs
    obtain ⟨rfl, rfl, rfl⟩ := hcs
    by_cases hpos : 0 < len
    · have hspot : ∃ bb oo, b = ⟨bb, oo, none⟩ := by
        obtain ⟨cs, hc, _⟩ := hel 0 (by rw [hmm]; simp; omega)
        rw [hC] at hc
        obtain ⟨_, hcl, hat⟩ := World.cells?_some hc
        have h0 := hat 0 (by decide)
        rw [List.getElem?_eq_getElem (by omega)] at h0
        obtain ⟨bb, oo, spot⟩ := b
        have : spot = none := by simpa [Addr.add] using World.cell?_spot h0
        subst this
        exact ⟨bb, oo, rfl⟩
      obtain ⟨bb, oo, rfl⟩ := hspot
      have hex : ∀ i, i < len → ∃ y : ActD, ActAt w bb (oo + i * 6) y := by
        intro i hi
        obtain ⟨cs, hc, ht⟩ := hel i (by rw [hmm]; simp; omega)
        rw [hC] at hc
        obtain ⟨_, hcl, hat⟩ := World.cells?_some hc
        obtain ⟨ys, k, _, _, _, hyl, hf⟩ := DataW.trod_struct Try.underlying41 ht
        match cs, hcl, ys, hyl with
        | [x0, x1, x2, x3, x4, x5], _, [y0, y1, y2, y3, y4, y5], _ =>
          have h0 : DataW.trod enc Try.prog w base (fun _ => true) held k 5 [x0] = some y0 := by have := hf 0 _ rfl; simpa [e0] using this
          have h1 : DataW.trod enc Try.prog w base (fun _ => true) held k 5 [x1] = some y1 := by have := hf 1 _ rfl; simpa [e0] using this
          have h2 : DataW.trod enc Try.prog w base (fun _ => true) held k 5 [x2] = some y2 := by have := hf 2 _ rfl; simpa [e0] using this
          have h3 : DataW.trod enc Try.prog w base (fun _ => true) held k 3 [x3] = some y3 := by have := hf 3 _ rfl; simpa [ei] using this
          have h4 : DataW.trod enc Try.prog w base (fun _ => true) held k 2 [x4] = some y4 := by have := hf 4 _ rfl; simpa [e2] using this
          have h5 : DataW.trod enc Try.prog w base (fun _ => true) held k 9 [x5] = some y5 := by have := hf 5 _ rfl; simpa [e3] using this
          obtain ⟨n0, q0, _, w0⟩ := DataW.trod_int Try.underlying5 h0
          obtain ⟨n1, q1, _, w1⟩ := DataW.trod_int Try.underlying5 h1
          obtain ⟨n2, q2, _, w2⟩ := DataW.trod_int Try.underlying5 h2
          obtain ⟨n3, q3, _, w3⟩ := DataW.trod_int Try.underlying3 h3
          obtain ⟨n4, q4, _, w4⟩ := DataW.trod_int Try.underlying2 h4
          obtain ⟨s, q5, _, w5⟩ := DataW.trod_string Try.underlying9 h5
          have b0 := bounds_u8 w0
          have b1 := bounds_u8 w1
          have b2 := bounds_u8 w2
          simp at q0 q1 q2 q3 q4 q5
          subst q0 q1 q2 q3 q4 q5
          have cell : ∀ j, j < 6 → w.cell? ⟨bb, oo + i * 6 + j, none⟩ = [Value.int .u8 n0, .int .u8 n1, .int .u8 n2, .int .i64 n3, .int .i64 n4, .string s][j]? := fun j hj => by
            have := hat j hj
            rw [Go.Deep.add_add, Addr.add_lit] at this
            rw [Nat.add_assoc]
            exact this
          refine ⟨⟨n0.toNat, n1.toNat, n2.toNat, n3, n4, s⟩, ?_⟩
          exact { c0 := (cell 0 (by decide)).trans (congrArg (fun z => some (Value.int .u8 z)) (show n0 = ((n0.toNat : Nat) : Int) by omega)), c1 := (cell 1 (by decide)).trans (congrArg (fun z => some (Value.int .u8 z)) (show n1 = ((n1.toNat : Nat) : Int) by omega)), c2 := (cell 2 (by decide)).trans (congrArg (fun z => some (Value.int .u8 z)) (show n2 = ((n2.toNat : Nat) : Int) by omega)), c3 := cell 3 (by decide), c4 := cell 4 (by decide), c5 := cell 5 (by decide), d8 := by show n0.toNat < 256; omega, w8 := by show n1.toNat < 256; omega, k8 := by show n2.toNat < 256; omega, wt := w3, wk := w4 }
      refine ⟨fun i => if h : i < len then Classical.choose (hex i h) else ⟨0, 0, 0, 0, 0, ⟨#[]⟩⟩, fun _ => ⟨bb, oo, rfl, fun i hi => ?_⟩, by omega⟩
      simp only [dif_pos hi]
      exact Classical.choose_spec (hex i hi)
    · exact ⟨fun _ => ⟨0, 0, 0, 0, 0, ⟨#[]⟩⟩, fun h => absurd h hpos, by omega⟩

/-- What small says. -/
def SmallPost (len : Nat) (w w' : World) (e : Ending) : Prop := ∃ s, e = .returned (.bool s) ∧ (s = true → len ≤ 80) ∧ w = w'

set_option maxHeartbeats 1000000 in
theorem small_any {w : World} {B : Nat} {a : Option Addr} {len cap : Nat} {f : Nat → ActD} (h : IsActs w B a len f) (hl : len ≤ maxLen) :
    Calls Try.prog 11 #[.slice a len cap] w fun e w' => SmallPost len w w' e := by
  have hlen : len ≤ 9223372036854775807 := by unfold maxLen at hl; omega
  have H := Lib.hid h
  clear h hl
  go_enter Try.func11, Try.ntmps11
  go_wp2
  go_loop [3] (fun t => ∃ k : Nat, t = .int .i64 k ∧ k ≤ len) (fun t => len - (intOf t).toNat)
  case atStart => exact ⟨0, rfl, Nat.zero_le _⟩
  case round =>
    obtain ⟨k, rfl, hk⟩ := hrel
    by_cases hlt : k < len
    · obtain ⟨b, o, rfl, hx⟩ := H.out (by omega)
      have c3 := (hx k hlt).c5
      generalize f k = x at c3
      obtain ⟨d, who, kind, table, key, txt⟩ := x
      simp only at c3
      have x1 : (k : Int) < (len : Int) := by omega
      clear hx
      by_cases h20 : 60 < txt.size
      · have x2 : (60 : Int) < (txt.size : Int) := by omega
        go_wp2
        go_ret
        exact ⟨false, rfl, fun h => (by cases h), rfl⟩
      · have x2 : ¬ (60 : Int) < (txt.size : Int) := by omega
        go_wp2
        go_round
        case rel => exact ⟨k + 1, by go_num, by omega⟩
        case measure => simp [intOf]; omega
    · have x1 : ¬ (k : Int) < (len : Int) := by omega
      by_cases h80 : len ≤ 80
      · have x2 : (len : Int) ≤ 80 := by omega
        go_wp2
        go_ret
        exact ⟨true, rfl, fun _ => h80, rfl⟩
      · have x2 : ¬ (len : Int) ≤ 80 := by omega
        go_wp2
        go_ret
        exact ⟨false, rfl, fun h => (by cases h), rfl⟩

end Go.Proofs.Ytdjhcdgehmpikaa
