/-
  Views beside a store; an act's cells.
-/
import Derived.Test.YtdjhcdgehmpikaaQg
import Derived.Deep.RegionHeld3
namespace Go.Proofs.Ytdjhcdgehmpikaa
open Go.RowKit Go.Maps

variable {w w' : World} {B p r : Nat} {O : Nat → Prop} {st : List Nat} {T : List Tab}

theorem Bv.sto {g : Nat} {mx own : Int} {sl : Value} {l : List Int} (a : Bv w g mx own sl l) (s : Sto w B p r O st T) (hf : Fo O w w') : Bv w' g mx own sl l :=
  ⟨s.heap hf a.1 (by decide), s.vo hf a.2⟩

theorem below_cell {B : Nat} (h : Below B w w') {p : Addr} (hp : p.block < B) {v : Value} (hv : w.cell? p = some v) : w'.cell? p = some v :=
  (World.cell?_of_block (h.block p.block hp)).trans hv

/-- A view's cells, and an act's. -/
def ActS (V : World) (g ab o : Nat) (mx own : Int) (sl : Value) (x : ActD) : Prop :=
  ((V.cell? ⟨g, 0, none⟩ = some (.int .i64 mx) ∧ V.cell? ⟨g, 1, none⟩ = some sl) ∧ V.cell? ⟨g, 2, none⟩ = some (.int .i64 own)) ∧
    (((V.cell? ⟨ab, o + 1, none⟩ = some (.int .u8 x.who) ∧ V.cell? ⟨ab, o + 2, none⟩ = some (.int .u8 x.kind)) ∧ V.cell? ⟨ab, o + 4, none⟩ = some (.int .i64 x.key)) ∧ V.cell? ⟨ab, o + 5, none⟩ = some (.string x.txt))

theorem ActS.keep {g ab o : Nat} {mx own : Int} {sl : Value} {x : ActD} (h : ActS w g ab o mx own sl x) (hk : Kept w w' []) : ActS w' g ab o mx own sl x :=
  ⟨⟨⟨hk.cell (p := ⟨g, 0, none⟩) (by simp) h.1.1.1, hk.cell (p := ⟨g, 1, none⟩) (by simp) h.1.1.2⟩, hk.cell (p := ⟨g, 2, none⟩) (by simp) h.1.2⟩,
    ⟨⟨⟨hk.cell (p := ⟨ab, o + 1, none⟩) (by simp) h.2.1.1.1, hk.cell (p := ⟨ab, o + 2, none⟩) (by simp) h.2.1.1.2⟩, hk.cell (p := ⟨ab, o + 4, none⟩) (by simp) h.2.1.2⟩, hk.cell (p := ⟨ab, o + 5, none⟩) (by simp) h.2.2⟩⟩

theorem ActS.make {W : World} {g ab o : Nat} {mx own : Int} {sl : Value} {l : List Int} {x : ActD} (v : Bv w g mx own sl l) (a : ActAt W ab o x) (hb : Below W.heap.size W w) : ActS w g ab o mx own sl x := by
  obtain ⟨z0, z1, z2⟩ := v.cells
  have l := World.block_lt_of_cell? W _ a.c0
  exact ⟨⟨⟨z0, z1⟩, z2⟩, ⟨⟨⟨below_cell hb (p := ⟨ab, o + 1, none⟩) l a.c1, below_cell hb (p := ⟨ab, o + 2, none⟩) l a.c2⟩, below_cell hb (p := ⟨ab, o + 4, none⟩) l a.c4⟩, below_cell hb (p := ⟨ab, o + 5, none⟩) l a.c5⟩⟩

theorem wf_mod5 (x : Int) : (Lit.int .i64 (x.tmod 5)).wf = true := by
  have h1 := Int.tmod_lt_of_pos x (by decide : (0 : Int) < 5)
  have h2 := Int.lt_tmod_of_pos x (by decide : (0 : Int) < 5)
  exact wf_i64 (by omega)

/-- The row of the first transaction, alone. -/
def tabOf (k : Int) (txt : ByteArray) : Tab := ⟨[k], updF (fun _ => []) k [⟨txt, 1, 0⟩]⟩

theorem run_ins (k : Int) (txt : ByteArray) (h : txt.size ≤ 40) : (runH [1] ⟨2, [1], 1⟩ 1 k txt noTab).tab = tabOf k txt := by
  have st1 : stAt [1] 1 = 1 := by decide
  have f0 : ∀ P : Vr → Bool, (noTab.F k).findIdx? P = none := fun P => rfl
  have hins : insE [1] ⟨2, [1], 1⟩ (noTab.F k) = 0 := by unfold insE; simp [st1, f0]
  rw [runH, if_pos (.inl rfl)]
  simp only
  rw [putH, if_neg (by omega), if_pos rfl, hins]
  rfl

theorem scan_one (k : Int) (txt : ByteArray) : scanR (sees [1] ⟨2, [1], 1⟩) (tabOf k txt).ks (tabOf k txt).F = [(k, txt)] := by
  rw [scanR_eq, scanF]
  have e : (tabOf k txt).F k = [⟨txt, 1, 0⟩] := updF_same (fun _ => []) k [(⟨txt, 1, 0⟩ : Vr)]
  have s : sees [1] ⟨2, [1], 1⟩ ⟨txt, 1, 0⟩ = true := by
    have a1 : did [1] ⟨2, [1], 1⟩ 1 = true := by decide
    have a0 : did [1] ⟨2, [1], 1⟩ 0 = false := by decide
    simp [sees, a1, a0]
  show [k].flatMap _ = _
  simp [e, s]

theorem runT_at {t : Nat} {u : Tab} (h : T[t]? = some u) (V : Vw) (kind : Nat) (key : Int) (txt : ByteArray) : runT st V kind t key txt T = T.set t (runH st V kind key txt u).tab := by
  rw [runT, if_neg (by omega), Int.toNat_natCast, h]

theorem runT_other {j : Nat} {tb : Int} (h : (j : Int) ≠ tb) (V : Vw) (kind : Nat) (key : Int) (txt : ByteArray) : (runT st V kind tb key txt T)[j]? = T[j]? := by
  unfold runT
  split
  · rfl
  · split
    · rw [List.getElem?_set_ne (by omega)]
    · rfl
end Go.Proofs.Ytdjhcdgehmpikaa
