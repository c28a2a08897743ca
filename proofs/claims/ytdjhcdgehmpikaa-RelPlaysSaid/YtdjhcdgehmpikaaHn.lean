/-
  Redo, of one operation at most; Get.
-/
import Derived.Test.YtdjhcdgehmpikaaHm
namespace Go.Proofs.Ytdjhcdgehmpikaa
open Go.RowKit Go.Maps

/-- An operation: is the row gone; the row. -/
structure Opn where
  gone : Bool
  key : Int
  txt : ByteArray

def ocl (l : List Opn) : List Value := l.flatMap fun o => [.bool o.gone, .int .i64 o.key, .string o.txt]

/-- What was alive dies by x. -/
def redoD (st : List Nat) (x : Int) (key : Int) (F : Int → List Vr) : Int → List Vr := match (F key).findIdx? (alive st) with
  | some i => updF F key (dieAt (F key) i x)
  | none => F

/-- Redo, of one operation. -/
def redoK (o : Opn) (ks : List Int) : List Int := if o.gone then ks else insK o.key ks
def redoF (st : List Nat) (x : Int) (o : Opn) (F : Int → List Vr) : Int → List Vr :=
  if o.gone then redoD st x o.key F else updF (redoD st x o.key F) o.key (redoD st x o.key F o.key ++ [⟨o.txt, x, 0⟩])

/-- .. of one at most. -/
def redoKs (l : List Opn) (ks : List Int) : List Int := match l with
  | [] => ks
  | o :: _ => redoK o ks
def redoFs (st : List Nat) (x : Int) (l : List Opn) (F : Int → List Vr) : Int → List Vr := match l with
  | [] => F
  | o :: _ => redoF st x o F

theorem redoD_length (st : List Nat) (x key : Int) (F : Int → List Vr) (k : Int) : (redoD st x key F k).length = (F k).length := by
  cases h : (F key).findIdx? (alive st) with
  | none => simp only [redoD, h]
  | some i =>
    simp only [redoD, h]
    by_cases e : k = key
    · subst e; rw [updF_same, dieAt_length]
    · rw [updF_other _ _ e]

variable {w : World} {B p h b mb : Nat} {v : Value} {S : Int → Value} {st : List Nat} {ks : List Int} {F : Int → List Vr}

theorem Sx.footB (a : Sx w B p h b mb v S st ks F) : ∀ k, foot p b v h mb S k → B ≤ k ∧ k < w.heap.size := by
  intro k hk
  rcases hk with (rfl | rfl | h1) | rfl | rfl | ⟨q, h1⟩
  · exact ⟨a.mg.bp, heap_lt a.mg.hp⟩
  · exact ⟨a.mg.bb, a.mg.hm.lt⟩
  · exact World.ownsRow.lt a.mg.hv k h1
  · exact ⟨a.hp.bh, heap_lt a.hp.hh⟩
  · exact ⟨a.hp.bm, a.hp.hm.lt⟩
  · exact World.ownsRow.lt (a.hp.rows q) k h1

/-- A list of one operation. -/
theorem three_head {w : World} {base n c : Nat} {a : Option Addr} {gone : Bool} {key : Int} {txt : ByteArray} {t : TypeId} (h : w.ownsRow base t 3 (.slice a n c) 1 (ocl [⟨gone, key, txt⟩])) :
    ∃ g, a = some ⟨g, 0, none⟩ ∧ base ≤ g ∧ n = 1 ∧ n ≤ c ∧ (w.cell? ⟨g, 0, none⟩ = some (.bool gone) ∧ w.cell? ⟨g, 1, none⟩ = some (.int .i64 key) ∧ w.cell? ⟨g, 2, none⟩ = some (.string txt)) := by
  rcases h.2 with ⟨_, h0⟩ | ⟨g, cap, cur, hv, hbg, hg, hnc, hcm, hcs, htk⟩
  · omega
  · simp only [Value.slice.injEq] at hv
    obtain ⟨rfl, rfl, rfl⟩ := hv
    have cell : ∀ (i : Nat) (u : Value), (ocl [⟨gone, key, txt⟩])[i]? = some u → w.cell? ⟨g, i, none⟩ = some u := fun i u hu => by
      have := World.ownsRow.cells h (g := g) rfl i u hu
      simpa [Addr.add_lit] using this
    exact ⟨g, rfl, hbg, rfl, hnc, cell 0 _ rfl, cell 1 _ rfl, cell 2 _ rfl⟩

end Go.Proofs.Ytdjhcdgehmpikaa
