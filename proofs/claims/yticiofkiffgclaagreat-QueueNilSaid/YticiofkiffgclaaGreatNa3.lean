/-
  Rth, Rtl, Evl, SnA, SnC, Ta, Tb, Tc, Te, Spa, Spb, Spc, Spe, Sph, Spi, Ka, Kb, Kc, Kd, Kh, Bb, Dqa, Dqb, Dqc, Dqe in one text.
-/
import Derived.Test.YticiofkiffgclaaGreatNa2
import Derived.Test.YticiofkiffgclaaGreatNa1
import Derived.Test.YticiofkiffgclaaGreatRows
import Derived.Test.YticiofkiffgclaaGreatNa0
import Derived.Deep.Slices
import Derived.Deep.Fields
import Derived.Deep.Grids
import Derived.ChangeSame
import Derived.LoopTactic
import Derived.ProofKit
import Derived.OpenShut
import Derived.ChangeOld
import Derived.Below
import Derived.Laws.StructEq
import Derived.Deep.LoopGhost
import Derived.Deep.QuietTactic
import Derived.BigQuiet
import Derived.Laws.BitsAllLaws
import Derived.Maps.OwnSet
import Derived.Lib.SlKeysI
import Derived.RegionTactic
import Derived.Outline
import Derived.Test.YticiofkiffgclaaGreatShelf
import Derived.Deep.RegionHeld3
import Derived.Sort.LotA
import Derived.Test.YticiofkiffgclaaGreatProg
import Derived.Shelf.SlSortCmp.KitK
import Derived.Sort.WalkB2
import Derived.Sort.WalkB12
import Derived.Lib.Hide
import Derived.WalkArith
import Derived.Deep.DeepCutAuto
import Derived.Test.YticiofkiffgclaaGreatShelfS
import Derived.Test.YticiofkiffgclaaGreatShelf2
import Derived.Lib.SliceRun
import Derived.Shelf.Abstract
namespace Go.Proofs.YticiofkiffgclaaGreat
set_option linter.unusedVariables false
open Go.RowKit

variable {w w' : World} {B h : Nat} {V : Value} {l : List It}

set_option maxHeartbeats 1000000 in
theorem tdue_nil (now : Int) (w : World) : Calls Tryz.prog 158 #[.pointer none, .int .i64 now] w fun e w' => e = .returned (.slice none 0 0) ∧ w' = w := by
  go_enter Tryz.func158, Tryz.ntmps158
  go_wp2
  go_ret
  exact ⟨rfl, rfl⟩

set_option maxHeartbeats 1000000 in
theorem ttake_nil (now : Int) (w : World) : Calls Tryz.prog 102 #[.pointer none, .int .i64 now] w fun e w' => e = .returned (.slice none 0 0) ∧ w' = w := by
  go_enter Tryz.func102, Tryz.ntmps102
  go_wp2_with (go_at_call 158; refine (tdue_nil _ _).mono ?_; rintro e w2 ⟨rfl, rfl⟩)
  go_ret
  exact ⟨rfl, rfl⟩

end Go.Proofs.YticiofkiffgclaaGreat

namespace Go.Proofs.YticiofkiffgclaaGreat
set_option linter.unusedVariables false
open Go.RowKit

theorem putAll_keep {a w : World} (h : Kept a w []) {g : Nat} (hg : a.heap.size ≤ g) (us : List Value) : Kept a (putAll w g 0 us) [] := putAll_kept us w 0 h (.inr hg)
end Go.Proofs.YticiofkiffgclaaGreat

namespace Go.Proofs.YticiofkiffgclaaGreat
open Go.RowKit

def ecs : List Ev → List Value
  | [] => []
  | e :: t => e.cs.toList ++ ecs t

def OwnE (w : World) (base : Nat) (e : TypeId) (v : Value) (l : List Ev) : Prop := w.ownsRow base e 8 v l.length (ecs l)

theorem OwnE.nil (w : World) (base : Nat) (e : TypeId) : OwnE w base e (.slice none 0 0) [] := World.ownsRow_nil w base e 8

theorem OwnE.lt {w : World} {base : Nat} {e : TypeId} {v : Value} {l : List Ev} (h : OwnE w base e v l) : ∀ b, v.ownBlock = some b → base ≤ b ∧ b < w.heap.size := World.ownsRow.lt h

end Go.Proofs.YticiofkiffgclaaGreat

namespace Go.Proofs.YticiofkiffgclaaGreat
open Go.RowKit

def RdI (w : World) (v : Value) (l : List Int) : Prop :=
  ∃ a c, v = .slice a l.length c ∧ l.length ≤ c ∧ c ≤ maxLen ∧ (a = none → c = 0) ∧
    (l ≠ [] → ∃ b o, a = some ⟨b, o, none⟩ ∧ ∀ i, i < l.length → w.cell? ⟨b, o + i, none⟩ = some (.int .i64 (l.getD i 0)))

end Go.Proofs.YticiofkiffgclaaGreat

namespace Go.Proofs.YticiofkiffgclaaGreat
open Go.RowKit

def upB (M : Int) : Int → List Int → Bool
  | _, [] => true
  | b, x :: r => decide (b < x) && (decide (x < M) && upB M x r)

def rightB (M : Int) (l : List Int) : Bool := decide (1 ≤ M) && upB M 0 l

end Go.Proofs.YticiofkiffgclaaGreat

namespace Go.Proofs.YticiofkiffgclaaGreat
open Go.RowKit Go.Maps

def opensFrom : Nat → List Nat → List Int
  | _, [] => []
  | k, s :: r => if s = 1 then (k : Int) :: opensFrom (k + 1) r else opensFrom (k + 1) r
def opens (st : List Nat) : List Int := opensFrom 1 st

def Dm (l : List Int) : DataW Unit := .map (l.map fun x => (.int .i64 x, .lit (.bool true)))

end Go.Proofs.YticiofkiffgclaaGreat

namespace Go.Proofs.YticiofkiffgclaaGreat
open Go.RowKit Go.Maps

structure Fm (B : Nat) (ts : List TypeId) (w w' : World) : Prop where
  os : w'.os = w.os
  tape : w'.tape = w.tape
  output : w'.output = w.output
  size : w.heap.size ≤ w'.heap.size
  block : ∀ k, k < w.heap.size → w'.heap[k]? = w.heap[k]? ∨ (B ≤ k ∧ ((∃ cs cs' t fz, t ∈ ts ∧ w.heap[k]? = some (.cells cs t fz) ∧ w'.heap[k]? = some (.cells cs' t fz)) ∨ ∃ es c es' c', w.heap[k]? = some (.map es c) ∧ w'.heap[k]? = some (.map es' c')))

theorem Fm.ofFr {B : Nat} {ts : List TypeId} {a b : World} (h : Fr B ts a b) : Fm B ts a b :=
  ⟨h.os, h.tape, h.output, h.size, fun k hk => (h.block k hk).imp id fun ⟨hb, r⟩ => ⟨hb, .inl r⟩⟩

theorem Fm.heap {B : Nat} {ts : List TypeId} {w w' : World} (h : Fm B ts w w') {k : Nat} {cs : Array Value} {t : TypeId} {fz : Nat × Nat} (hk : w.heap[k]? = some (.cells cs t fz)) (ht : t ∉ ts) : w'.heap[k]? = some (.cells cs t fz) := by
  rcases h.block k (heap_lt hk) with h1 | ⟨_, ⟨ds, ds', t', fz', ht', h1, _⟩ | ⟨es, d, es', d', h1, _⟩⟩
  · exact h1.trans hk
  · rw [hk] at h1
    injection h1 with h1
    injection h1 with _ e1
    subst e1
    exact absurd ht' ht
  · rw [hk] at h1; cases h1

theorem ownsRow_fm {w w' : World} {base e size n B : Nat} {ts : List TypeId} {v : Value} {xs : List Value} (h : w.ownsRow base e size v n xs) (hf : Fm B ts w w') (he : e ∉ ts) : w'.ownsRow base e size v n xs := by
  refine ⟨h.1, ?_⟩
  rcases h.2 with h2 | ⟨g, cap, cur, rfl, hbg, hg, r⟩
  · exact .inl h2
  · exact .inr ⟨g, cap, cur, rfl, hbg, hf.heap hg he, r⟩

theorem ownsRow_fr {w w' : World} {base e size n B : Nat} {ts : List TypeId} {v : Value} {xs : List Value} (h : w.ownsRow base e size v n xs) (hf : Fr B ts w w') (he : e ∉ ts) : w'.ownsRow base e size v n xs := ownsRow_fm h (Fm.ofFr hf) he

theorem ownsMap_fr {H : Type} {P : Program} {k : TypeId} {R : Value → Option (DataW H × List MemPlace)} {w w' : World} {b n B : Nat} {ts : List TypeId} {D : DataW H} (h : w.ownsMap P k R b n D) (hf : Fr B ts w w') : w'.ownsMap P k R b n D := by
  obtain ⟨es, c, hb, r⟩ := h
  refine ⟨es, c, ?_, r⟩
  rcases hf.block b (heap_lt hb) with h1 | ⟨_, cs, cs', t, fz, _, h1, _⟩
  · exact h1.trans hb
  · rw [hb] at h1; cases h1

abbrev Mp (w : World) (b n : Nat) (l : List Int) : Prop := w.ownsMap Tryz.prog 2 (plainElem Tryz.prog 4) b n (Dm l)

end Go.Proofs.YticiofkiffgclaaGreat

namespace Go.Proofs.YticiofkiffgclaaGreat
open Go.RowKit Go.Maps Go.Sort Go.Shelf

def bls (l : List Bool) : List Value := l.map Value.bool
theorem bls_length (l : List Bool) : (bls l).length = l.length := by simp [bls]

def comm (st : List Nat) : List Bool := false :: st.map (fun s => s == 2)
structure Mg (w : World) (B p b : Nat) (v : Value) (st : List Nat) : Prop where
  hp : w.heap[p]? = some (.cells #[.map (some b), v] 120 (0, 0))
  hm : Mp w b st.length (opens st)
  hv : w.ownsRow B 4 1 v (st.length + 1) (bls (comm st))
  bp : B ≤ p
  bb : B ≤ b
  hl : st.length < 1048576
  hs : ∀ s ∈ st, 1 ≤ s ∧ s ≤ 3

def mts : List TypeId := [120, 4]

theorem Mg.frame {w w' : World} {B p b C : Nat} {v : Value} {st : List Nat} {ts : List TypeId} (h : Mg w B p b v st) (hf : Fr C ts w w') (h1 : 120 ∉ ts) (h2 : 4 ∉ ts) : Mg w' B p b v st :=
  { h with hp := hf.heap h.hp h1, hm := ownsMap_fr h.hm hf, hv := ownsRow_fr h.hv hf h2 }

theorem Mg.keep {w w' : World} {B p b : Nat} {v : Value} {st : List Nat} (h : Mg w B p b v st) (hk : Kept w w' []) : Mg w' B p b v st := h.frame (Fr.ofKept hk 0 []) (by simp) (by simp)

theorem Tryz.infoBool : (Tryz.prog.info? 4).map (fun i => (i.zero, i.size, i.bytes)) = some (some (.bool false), 1, 1) := by kernel_rfl

theorem made_bools (k : Nat) : madeCells (Value.bool false).cells (k * 1) = (bls (List.replicate k false)).toArray := by
  apply Array.ext'
  rw [Nat.mul_one, show (Value.bool false).cells = #[.bool false] from rfl, toList_madeCells_one]
  simp [bls]

theorem mk_bools (k : Nat) (hk : k ≤ 1048576) (w : World) : (Instr.makeSlice 118 (.int .i64 k) (.int .i64 k)).run Tryz.prog w = .ok (.slice (some ⟨w.heap.size, 0, none⟩) k k) (w.alloc (.cells (bls (List.replicate k false)).toArray 4)) := by
  obtain ⟨i0, hi, hz0, hz1, hz2⟩ := info_parts Tryz.infoBool
  have h := run_make (P := Tryz.prog) w 118 4 i0 _ Tryz.underlying118 hi hz0 .i64 .i64 k k (by omega) (by omega) (by rw [hz2]; omega) (by omega)
  rw [h, hz1, Int.toNat_natCast, made_bools]

theorem own_bools {w : World} {B g n : Nat} {l : List Bool} (hg : w.heap[g]? = some (.cells (bls l).toArray 4 (0, 0))) (hB : B ≤ g) (hn : l.length = n) (h63 : n ≤ maxLen) : w.ownsRow B 4 1 (.slice (some ⟨g, 0, none⟩) n n) n (bls l) := by
  subst hn
  refine ⟨by simp [bls_length], .inr ⟨g, l.length, _, rfl, hB, hg, Nat.le_refl _, h63, by simp [bls_length], ?_⟩⟩
  rw [List.toList_toArray, List.take_of_length_le (by simp [bls_length])]

theorem mnew_any (w : World) : Calls Tryz.prog 13 #[] w fun e w' => ∃ p b v, e = .returned (.pointer (some ⟨p, 0, none⟩)) ∧ Mg w' w.heap.size p b v [] ∧ Kept w w' [] := by
  have hmk : ∀ w : World, (Instr.makeSlice 118 (.int .i64 1) (.int .i64 1)).run Tryz.prog w = .ok (.slice (some ⟨w.heap.size, 0, none⟩) 1 1) (w.alloc (.cells (bls [false]).toArray 4)) := fun w => mk_bools 1 (by decide) w
  have hmm : ∀ w : World, (Instr.makeMap 117 none).run Tryz.prog w = .ok (.map (some w.heap.size)) (w.alloc (.map #[] 0)) := fun w => run_makeMap _ w
  go_enter Tryz.func13, Tryz.ntmps13
  go_wp2
  go_ret
  refine ⟨_, w.heap.size, .slice (some ⟨w.heap.size + 1, 0, none⟩) 1 1, rfl, ?_, ((((Kept.refl w []).alloc _).alloc _).alloc _)⟩
  have hz : ((w.alloc (.map #[] 0)).alloc (.cells (bls [false]).toArray 4)).heap.size = w.heap.size + 1 + 1 := by simp
  have m0 : Mp (w.alloc (.map #[] 0)) w.heap.size 0 (opens []) := World.ownsMap_made w _ _ _
  have b0 : ((w.alloc (.map #[] 0)).alloc (.cells (bls [false]).toArray 4)).heap[w.heap.size + 1]? = some (.cells (bls [false]).toArray 4 (0, 0)) := by
    have := heap_alloc_new (w.alloc (.map #[] 0)) (.cells (bls [false]).toArray 4)
    simpa using this
  refine { hp := ?_, hm := (m0.alloc _).alloc _, hv := ?_, bp := by omega, bb := Nat.le_refl _, hl := by decide, hs := by simp }
  · have := heap_alloc_new ((w.alloc (.map #[] 0)).alloc (.cells (bls [false]).toArray 4)) (.cells #[.map (some w.heap.size), .slice (some ⟨w.heap.size + 1, 0, none⟩) 1 1] 120)
    rw [hz] at this
    simpa using this
  · exact own_bools ((Below.heap_alloc _ _ _ (by rw [hz]; omega)).trans b0) (by omega) rfl (by decide)

end Go.Proofs.YticiofkiffgclaaGreat

namespace Go.Proofs.YticiofkiffgclaaGreat
open Go.RowKit Go.Maps Go.Sort Go.Shelf

theorem ownsRow_low {w : World} {base base' : Nat} {e : TypeId} {size n : Nat} {v : Value} {xs : List Value} (h : w.ownsRow base e size v n xs) (hb : base' ≤ base) : w.ownsRow base' e size v n xs := by
  refine ⟨h.1, ?_⟩
  rcases h.2 with h2 | ⟨g, cap, cur, rfl, hbg, r⟩
  · exact .inl h2
  · exact .inr ⟨g, cap, cur, rfl, by omega, r⟩

end Go.Proofs.YticiofkiffgclaaGreat

namespace Go.Proofs.YticiofkiffgclaaGreat
open Go.RowKit

structure Sp (T : TypeId) (w : World) (B h : Nat) (V : Nat → Value) (l : Nat → List Ev) (c : Nat) : Prop where
  hh : w.heap[h]? = some (.cells #[V 0, V 1, V 2, .int .i64 c] T (0, 0))
  bh : B ≤ h
  c3 : c < 3
  own : ∀ i, i < 3 → OwnE w B 50 (V i) (l i)

def sfoot (h : Nat) (V : Nat → Value) : Nat → Prop := fun k => k = h ∨ ∃ i, i < 3 ∧ (V i).ownBlock = some k

def Dst (V : Nat → Value) : Prop := ∀ i j k, i < 3 → j < 3 → i ≠ j → (V i).ownBlock = some k → (V j).ownBlock ≠ some k

variable {T : TypeId} {w w' : World} {B h c : Nat} {V : Nat → Value} {l : Nat → List Ev}

theorem Sp.lt (a : Sp T w B h V l c) : ∀ k, sfoot h V k → B ≤ k ∧ k < w.heap.size := by
  rintro k (rfl | ⟨i, hi, hk⟩)
  · exact ⟨a.bh, heap_lt a.hh⟩
  · exact (a.own i hi).lt k hk
theorem OwnE.fo {base : Nat} {e : TypeId} {v : Value} {m : List Ev} {O : Nat → Prop} (x : OwnE w base e v m) (hf : Fo O w w') (he : ∀ g, v.ownBlock = some g → ¬ O g) : OwnE w' base e v m := ownsRow_fo x hf he
theorem OwnE.tag {base : Nat} {e : TypeId} {v : Value} {m : List Ev} (x : OwnE w base e v m) {k : Nat} (hk : v.ownBlock = some k) : ∃ cur, w.heap[k]? = some (.cells cur e (0, 0)) := by
  rcases x.2 with ⟨rfl, _⟩ | ⟨g, cap, cur, rfl, _, hg, _⟩
  · simp [Value.ownBlock] at hk
  · simp only [Value.ownBlock, Option.some.injEq] at hk
    subst hk
    exact ⟨cur, hg⟩
theorem Sp.fo (a : Sp T w B h V l c) {O : Nat → Prop} (hf : Fo O w w') (hd : ∀ k, sfoot h V k → ¬ O k) : Sp T w' B h V l c :=
  ⟨hf.heap (hd h (.inl rfl)) a.hh, a.bh, a.c3, fun i hi => (a.own i hi).fo hf (fun g hg => hd g (.inr ⟨i, hi, hg⟩))⟩
end Go.Proofs.YticiofkiffgclaaGreat

namespace Go.Proofs.YticiofkiffgclaaGreat
set_option linter.unusedVariables false
open Go.RowKit

variable {w w' : World} {B h c : Nat} {V : Nat → Value} {l : Nat → List Ev}

abbrev spT : TypeId := 132

def nxt (c : Nat) : Nat := (c + 1) % 3
theorem nxt_lt (c : Nat) : nxt c < 3 := Nat.mod_lt _ (by omega)
set_option maxHeartbeats 1000000 in
theorem new_any (w : World) : Calls Tryz.prog 74 #[] w fun e w' => ∃ h, e = .returned (.pointer (some ⟨h, 0, none⟩)) ∧ Sp spT w' w.heap.size h (fun _ => .slice none 0 0) (fun _ => []) 0 ∧ Kept w w' [] := by
  go_enter Tryz.func74, Tryz.ntmps74
  go_wp2
  go_ret
  exact ⟨w.heap.size, rfl, ⟨heap_alloc_new w _, Nat.le_refl _, by omega, fun i _ => OwnE.nil _ _ _⟩, (Kept.refl w []).alloc _⟩

set_option maxHeartbeats 1000000 in
theorem len_nil (w : World) : Calls Tryz.prog 137 #[.pointer none] w fun e w' => e = .returned (.int .i64 0) ∧ w' = w := by
  go_enter Tryz.func137, Tryz.ntmps137
  go_wp2
  go_ret
  exact ⟨rfl, rfl⟩

def lenN (l : Nat → List Ev) : Nat := (l 0).length + (l 1).length + (l 2).length

set_option maxHeartbeats 1000000 in
theorem srotate_nil (free : Bool) (w : World) : Calls Tryz.prog 83 #[.pointer none, .bool free] w fun e w' => e = .returned (.tuple #[.int .u8 0, .int .i64 4]) ∧ w' = w := by
  go_enter Tryz.func83, Tryz.ntmps83
  go_wp2
  (try simp only [Exit.inBlock, Exit.then])
  refine bodyPost_ret (v := .tuple #[.int .u8 0, .int .i64 4]) (by simp [results, Tryz.results83, go_sem]) rfl ?_
  exact ⟨rfl, rfl⟩

end Go.Proofs.YticiofkiffgclaaGreat

namespace Go.Proofs.YticiofkiffgclaaGreat
set_option linter.unusedVariables false
open Go.RowKit

variable {w w' : World} {B h c : Nat} {V : Nat → Value} {l : Nat → List Ev}

theorem ev_cells {w : World} {z : Nat} {b0 b1 b3 b4 b5 b6 : Int} {b2 b7 : ByteArray} {T : TypeId} (hz : w.heap[z]? = some (.cells #[.int .i64 b0, .int .i64 b1, .string b2, .int .i64 b3, .int .i64 b4, .int .u8 b5, .int .i64 b6, .string b7] T (0, 0))) :
    w.cell? ⟨z, 0, none⟩ = some (.int .i64 b0) ∧ w.cell? ⟨z, 1, none⟩ = some (.int .i64 b1) ∧ w.cell? ⟨z, 2, none⟩ = some (.string b2) ∧ w.cell? ⟨z, 3, none⟩ = some (.int .i64 b3) ∧ w.cell? ⟨z, 4, none⟩ = some (.int .i64 b4) ∧ w.cell? ⟨z, 5, none⟩ = some (.int .u8 b5) ∧ w.cell? ⟨z, 6, none⟩ = some (.int .i64 b6) ∧ w.cell? ⟨z, 7, none⟩ = some (.string b7) := by
  refine ⟨?_, ?_, ?_, ?_, ?_, ?_, ?_, ?_⟩ <;> (rw [cell_of_row _ _ _ _ _ _ hz]; rfl)

end Go.Proofs.YticiofkiffgclaaGreat

namespace Go.Proofs.YticiofkiffgclaaGreat
set_option linter.unusedVariables false
open Go.RowKit

variable {w w' : World} {B h c : Nat} {V : Nat → Value} {l : Nat → List Ev}

def pre (l : Nat → List Ev) : Nat → List Ev
  | 0 => []
  | k + 1 => pre l k ++ l k

end Go.Proofs.YticiofkiffgclaaGreat

namespace Go.Proofs.YticiofkiffgclaaGreat
set_option linter.unusedVariables false
open Go.RowKit

variable {w w' : World} {B h c k : Nat} {x : Int} {V : Nat → Value} {l : Nat → List Ev}

set_option maxHeartbeats 1000000 in
theorem forget_nil (x : Int) (w : World) : Calls Tryz.prog 82 #[.pointer none, .int .i64 x] w fun e w' => e = .returned (.int .i64 0) ∧ Kept w w' [] := by
  go_enter Tryz.func82, Tryz.ntmps82
  go_wp2_with fail
  refine (len_nil _).mono ?_
  rintro e w' ⟨rfl, rfl⟩
  go_wp2
  go_ret
  exact ⟨rfl, (Kept.refl w []).alloc _⟩

end Go.Proofs.YticiofkiffgclaaGreat

namespace Go.Proofs.YticiofkiffgclaaGreat
set_option linter.unusedVariables false
open Go.RowKit

def noV : Nat → Value := fun _ => .slice none 0 0
theorem dst_no : Dst noV := by intro i j k _ _ _ h; simp [noV, Value.ownBlock] at h

end Go.Proofs.YticiofkiffgclaaGreat

namespace Go.Proofs.YticiofkiffgclaaGreat
open Go.RowKit

structure Pt where
  n : Int
  M : Int
  l : List Int
  t : Int

structure Tk where
  n : Int
  M : Int
  a : Option Addr
  c : Nat
  l : List Int
  t : Int

def Tk.op (x : Tk) : Value := .slice x.a x.l.length x.c
def Tk.cs (x : Tk) : Array Value := #[.int .i64 x.n, .int .i64 x.M, .slice x.a x.l.length x.c, .int .i64 x.t]
def Tk.pl (x : Tk) : Pt := ⟨x.n, x.M, x.l, x.t⟩
def RdT (w : World) (v : Value) (l : List Int) : Prop := RdI w v l ∧ ∀ b, v.ownBlock = some b → ∃ cs, w.heap[b]? = some (.cells cs 2 (0, 0))

def NoI (w : World) (O : Nat → Prop) : Prop := ∀ k, O k → ∀ cs fz, w.heap[k]? ≠ some (.cells cs 2 fz)

theorem NoI.none (w : World) : NoI w (fun _ => False) := fun _ h => h.elim

theorem RdI.fo {w w' : World} {v : Value} {l : List Int} {O : Nat → Prop} (h : RdI w v l) (hf : Fo O w w') (hO : ∀ b, v.ownBlock = some b → ¬ O b) : RdI w' v l := by
  obtain ⟨a, c, rfl, hc, hm, ha, hl⟩ := h
  refine ⟨a, c, rfl, hc, hm, ha, fun hne => ?_⟩
  obtain ⟨b, o, rfl, hcell⟩ := hl hne
  refine ⟨b, o, rfl, fun i hi => ?_⟩
  have h1 := hcell i hi
  have same : w'.heap[b]? = w.heap[b]? := hf.block b (World.block_lt_of_cell? w _ h1) (hO b rfl)
  rw [World.cell?_of_block (w := w) same]
  exact h1

theorem RdT.fo {w w' : World} {v : Value} {l : List Int} {O : Nat → Prop} (h : RdT w v l) (hf : Fo O w w') (hO : NoI w O) : RdT w' v l := by
  have hn : ∀ b, v.ownBlock = some b → ¬ O b := fun b hb ho => by
    obtain ⟨cs, hg⟩ := h.2 b hb
    exact hO b ho cs _ hg
  refine ⟨h.1.fo hf hn, fun b hb => ?_⟩
  obtain ⟨cs, hg⟩ := h.2 b hb
  exact ⟨cs, hf.heap (hn b hb) hg⟩

theorem Tk.cs_size (e : Tk) : e.cs.size = 4 := rfl

def tcs : List Tk → List Value
  | [] => []
  | e :: t => e.cs.toList ++ tcs t

theorem tcs_length (l : List Tk) : (tcs l).length = l.length * 4 := by
  induction l with
  | nil => rfl
  | cons e t ih =>
    rw [tcs, List.length_append, ih, List.length_cons, Array.length_toList, Tk.cs_size]
    omega

theorem tcs_get (l : List Tk) : ∀ (i j : Nat) (h : i < l.length), j < 4 → (tcs l)[i * 4 + j]? = (l[i]).cs[j]? := by
  induction l with
  | nil => intro i j h; simp at h
  | cons e t ih =>
    intro i j h hj
    rw [tcs]
    cases i with
    | zero =>
      rw [Nat.zero_mul, Nat.zero_add, List.getElem?_append_left (by rw [Array.length_toList, Tk.cs_size]; exact hj), Array.getElem?_toList]
      rfl
    | succ i =>
      rw [List.getElem?_append_right (by rw [Array.length_toList, Tk.cs_size]; omega), Array.length_toList, Tk.cs_size, show (i + 1) * 4 + j - 4 = i * 4 + j by omega]
      exact ih i j (by simpa using h) hj

theorem tcs_some (l : List Tk) (k : Nat) (h : k < l.length * 4) : ∃ u, (tcs l)[k]? = some u := ⟨_, List.getElem?_eq_getElem (by rw [tcs_length]; exact h)⟩

def OwnT (w : World) (base : Nat) (e : TypeId) (v : Value) (l : List Tk) : Prop := w.ownsRow base e 4 v l.length (tcs l)

theorem OwnT.nil (w : World) (base : Nat) (e : TypeId) : OwnT w base e (.slice none 0 0) [] := World.ownsRow_nil w base e 4

theorem OwnT.lt {w : World} {base : Nat} {e : TypeId} {v : Value} {l : List Tk} (h : OwnT w base e v l) : ∀ b, v.ownBlock = some b → base ≤ b ∧ b < w.heap.size := World.ownsRow.lt h

theorem OwnT.shape {w : World} {base : Nat} {e : TypeId} {v : Value} {l : List Tk} (h : OwnT w base e v l) : ∃ a c, v = .slice a l.length c := by
  rcases h.2 with ⟨rfl, hn⟩ | ⟨g, cap, cur, rfl, _⟩
  · exact ⟨none, 0, by rw [hn]⟩
  · exact ⟨_, _, rfl⟩

theorem OwnT.at {w : World} {base : Nat} {e : TypeId} {a : Option Addr} {n c : Nat} {l : List Tk} (h : OwnT w base e (.slice a n c) l) (i : Nat) (hi : i < l.length) :
    ∃ g, a = some ⟨g, 0, none⟩ ∧ ∀ j, j < 4 → w.cell? ⟨g, i * 4 + j, none⟩ = (l[i]).cs[j]? ∧ w.frozen? ⟨g, i * 4 + j, none⟩ = false := by
  rcases h.2 with ⟨h1, hn⟩ | ⟨g, cap, cur, hv, hb, hg, hnc, hcm, hcs, ht⟩
  · simp at hn; subst hn; simp at hi
  · simp only [Value.slice.injEq] at hv
    obtain ⟨rfl, _, _⟩ := hv
    refine ⟨g, rfl, fun j hj => ⟨?_, frozen_of_row _ _ _ _ _ hg⟩⟩
    obtain ⟨u, hu⟩ := tcs_some l (i * 4 + j) (by omega)
    have := World.ownsRow.cells h (g := g) rfl _ u hu
    rw [Addr.add_lit, Nat.zero_add] at this
    rw [this, ← hu, tcs_get l i j hi hj]

theorem OwnT.fo {w w' : World} {base : Nat} {e : TypeId} {v : Value} {m : List Tk} {O : Nat → Prop} (x : OwnT w base e v m) (hf : Fo O w w') (he : ∀ g, v.ownBlock = some g → ¬ O g) : OwnT w' base e v m := ownsRow_fo x hf he
theorem OwnT.tag {w : World} {base : Nat} {e : TypeId} {v : Value} {m : List Tk} (x : OwnT w base e v m) {k : Nat} (hk : v.ownBlock = some k) : ∃ cur, w.heap[k]? = some (.cells cur e (0, 0)) := by
  rcases x.2 with ⟨rfl, _⟩ | ⟨g, cap, cur, rfl, _, hg, _⟩
  · simp [Value.ownBlock] at hk
  · simp only [Value.ownBlock, Option.some.injEq] at hk
    subst hk
    exact ⟨cur, hg⟩

end Go.Proofs.YticiofkiffgclaaGreat

namespace Go.Proofs.YticiofkiffgclaaGreat
open Go.RowKit

structure Tc (T : TypeId) (r : List Value) (w : World) (B h : Nat) (V : Value) (xs : List Tk) : Prop where
  hh : w.heap[h]? = some (.cells (V :: r).toArray T (0, 0))
  bh : B ≤ h
  hT : T ≠ 38 ∧ T ≠ 2
  own : OwnT w B 38 V xs
  rd : ∀ x ∈ xs, RdT w x.op x.l

def tfoot (h : Nat) (V : Value) : Nat → Prop := fun k => k = h ∨ V.ownBlock = some k

variable {T : TypeId} {r : List Value} {w w' : World} {B h : Nat} {V : Value} {xs : List Tk}

theorem Tc.cell (a : Tc T r w B h V xs) : w.cell? ⟨h, 0, none⟩ = some V ∧ w.frozen? ⟨h, 0, none⟩ = false :=
  ⟨by rw [cell_of_row _ _ _ _ _ _ a.hh]; rfl, frozen_of_row _ _ _ _ _ a.hh⟩
theorem Tc.lt (a : Tc T r w B h V xs) : ∀ k, tfoot h V k → B ≤ k ∧ k < w.heap.size := by
  rintro k (rfl | hk)
  · exact ⟨a.bh, heap_lt a.hh⟩
  · exact a.own.lt k hk
theorem Tc.shape (a : Tc T r w B h V xs) : ∃ u c, V = .slice u xs.length c := a.own.shape

theorem Tc.fo (a : Tc T r w B h V xs) {O : Nat → Prop} (hf : Fo O w w') (hd : ∀ k, tfoot h V k → ¬ O k) (hn : NoI w O) : Tc T r w' B h V xs :=
  ⟨hf.heap (hd h (.inl rfl)) a.hh, a.bh, a.hT, a.own.fo hf (fun g hg => hd g (.inr hg)), fun x hx => (a.rd x hx).fo hf hn⟩
theorem Tc.keep (a : Tc T r w B h V xs) (hk : Kept w w' []) : Tc T r w' B h V xs := a.fo (Fo.ofKept hk (fun _ => False)) (fun _ _ h => h) (NoI.none w)

def lastN (ps : List Pt) : Int := match ps.getLast? with | some p => p.n | none => 0

structure Okp (ps : List Pt) : Prop where
  right : ∀ p ∈ ps, rightB p.M p.l = true
  wide : ∀ p ∈ ps, p.M ≤ 9223372036854775807
  len : ∀ p ∈ ps, p.l.length ≤ 1000
  up : ∀ p ∈ ps, p.n ≤ lastN ps
  size : ps.length ≤ 64
  n0 : 0 ≤ lastN ps

theorem Okp.nil : Okp [] := ⟨by simp, by simp, by simp, by simp, by simp, by simp [lastN]⟩

theorem lastN_snoc (ps : List Pt) (p : Pt) : lastN (ps ++ [p]) = p.n := by simp [lastN]

end Go.Proofs.YticiofkiffgclaaGreat

namespace Go.Proofs.YticiofkiffgclaaGreat
set_option linter.unusedVariables false
open Go.RowKit

abbrev tkT : TypeId := 154

theorem tk_cells {w : World} {z : Nat} {b0 b1 b3 : Int} {b2 : Value} {T : TypeId} (hz : w.heap[z]? = some (.cells #[.int .i64 b0, .int .i64 b1, b2, .int .i64 b3] T (0, 0))) :
    w.cell? ⟨z, 0, none⟩ = some (.int .i64 b0) ∧ w.cell? ⟨z, 1, none⟩ = some (.int .i64 b1) ∧ w.cell? ⟨z, 2, none⟩ = some b2 ∧ w.cell? ⟨z, 3, none⟩ = some (.int .i64 b3) :=
  ⟨by rw [cell_of_row _ _ _ _ _ _ hz]; rfl, by rw [cell_of_row _ _ _ _ _ _ hz]; rfl, by rw [cell_of_row _ _ _ _ _ _ hz]; rfl, by rw [cell_of_row _ _ _ _ _ _ hz]; rfl⟩

theorem tk_frozen {w : World} {z : Nat} {cs : Array Value} {T : TypeId} (hz : w.heap[z]? = some (.cells cs T (0, 0))) :
    w.frozen? ⟨z, 0, none⟩ = false ∧ w.frozen? ⟨z, 1, none⟩ = false ∧ w.frozen? ⟨z, 2, none⟩ = false ∧ w.frozen? ⟨z, 3, none⟩ = false :=
  ⟨frozen_of_row _ _ _ _ _ hz, frozen_of_row _ _ _ _ _ hz, frozen_of_row _ _ _ _ _ hz, frozen_of_row _ _ _ _ _ hz⟩

variable {w w' : World} {B h : Nat} {V : Value} {xs : List Tk}

set_option maxHeartbeats 1000000 in
theorem tknew_any (w : World) : Calls Tryz.prog 75 #[] w fun e w' => e = .returned (.pointer (some ⟨w.heap.size, 0, none⟩)) ∧ Tc tkT [] w' w.heap.size w.heap.size (.slice none 0 0) [] ∧ Kept w w' [] := by
  go_enter Tryz.func75, Tryz.ntmps75
  go_wp2
  go_ret
  exact ⟨rfl, ⟨heap_alloc_new w _, Nat.le_refl _, by decide, OwnT.nil _ _ _, fun x hx => by simp at hx⟩, (Kept.refl w []).alloc _⟩

set_option maxHeartbeats 1000000 in
theorem tklen_nil (w : World) : Calls Tryz.prog 73 #[.pointer none] w fun e w' => e = .returned (.int .i64 0) ∧ w' = w := by
  go_enter Tryz.func73, Tryz.ntmps73
  go_wp2
  go_ret
  exact ⟨rfl, rfl⟩

set_option maxHeartbeats 1000000 in
theorem tklen_any (a : Tc tkT [] w B h V xs) : Calls Tryz.prog 73 #[.pointer (some ⟨h, 0, none⟩)] w fun e w' => e = .returned (.int .i64 xs.length) ∧ w' = w := by
  have c0 := a.cell.1
  obtain ⟨u, c, e⟩ := a.shape
  rw [e] at c0
  clear a e
  go_enter Tryz.func73, Tryz.ntmps73
  go_wp2
  go_ret
  exact ⟨rfl, rfl⟩

set_option maxHeartbeats 1000000 in
theorem tklast_nil (w : World) : Calls Tryz.prog 41 #[.pointer none] w fun e w' => e = .returned (.int .i64 0) ∧ w' = w := by
  go_enter Tryz.func41, Tryz.ntmps41
  go_wp2_with (go_at_call 73; refine (tklen_nil _).mono ?_; rintro e w' ⟨rfl, rfl⟩)
  go_ret
  exact ⟨rfl, rfl⟩

theorem lastN_snocT (ys : List Tk) (y : Tk) : lastN ((ys ++ [y]).map Tk.pl) = y.n := by rw [List.map_append]; exact lastN_snoc _ _

theorem Tc.last {T : TypeId} {r : List Value} {ys : List Tk} {y : Tk} (a : Tc T r w B h V (ys ++ [y])) : ∃ g c, V = .slice (some ⟨g, 0, none⟩) (ys.length + 1) c ∧
    w.cell? ⟨g, ys.length * 4, none⟩ = some (.int .i64 y.n) ∧ w.cell? ⟨g, ys.length * 4 + 1, none⟩ = some (.int .i64 y.M) ∧ w.cell? ⟨g, ys.length * 4 + 2, none⟩ = some y.op ∧ w.cell? ⟨g, ys.length * 4 + 3, none⟩ = some (.int .i64 y.t) ∧ RdT w y.op y.l := by
  obtain ⟨u, c, e⟩ := a.shape
  have o := a.own
  rw [e] at o
  obtain ⟨g, rfl, hc⟩ := o.at ys.length (by simp)
  have hy : (ys ++ [y])[ys.length]'(by simp) = y := by simp
  rw [hy] at hc
  refine ⟨g, c, by rw [e]; simp, (hc 0 (by omega)).1, (hc 1 (by omega)).1, (hc 2 (by omega)).1, (hc 3 (by omega)).1, a.rd y (by simp)⟩

set_option maxHeartbeats 1000000 in
theorem tklastq_any (a : Tc tkT [] w B h V xs) (hl : xs.length ≤ 1000) : Calls Tryz.prog 41 #[.pointer (some ⟨h, 0, none⟩)] w fun e w' => e = .returned (.int .i64 (lastN (xs.map Tk.pl))) ∧ ∃ m, w' = w.drewN m := by
  have HL := Lib.hid (tklen_any a)
  have HQ := Lib.hid (fun q => tklen_any (a.keep ((Kept.refl w []).drewN q)))
  have c0 := a.cell.1
  rcases List.eq_nil_or_concat xs with rfl | ⟨ys, y, e⟩
  · clear c0 a
    go_enter Tryz.func41, Tryz.ntmps41
    go_wp2_with (go_at_call 73; refine HL.out.mono ?_; rintro e w' ⟨rfl, rfl⟩)
    go_ret
    exact ⟨rfl, 0, rfl⟩
  · rw [List.concat_eq_append] at e
    subst e
    rw [lastN_snocT]
    obtain ⟨g, c, e, c1, _, _, _, _⟩ := a.last
    rw [e] at c0
    rw [List.length_append, List.length_singleton] at HL HQ
    have hl2 : ys.length < 1000 := by simp at hl; omega
    clear a e hl
    have x0 : (((ys.length : Nat) : Int) + 1 == 0) = false := by rw [beq_eq_false_iff_ne]; omega
    go_enter Tryz.func41, Tryz.ntmps41
    go_wp2_with (go_at_call 73; refine HL.out.mono ?_; rintro e w' ⟨rfl, rfl⟩)
    go_quiet ((go_at_call 73; exact Calls.quiet_of_same (HQ.out _)))
    go_wp2
    go_ret
    exact ⟨rfl, _, rfl⟩

theorem tklast_any (a : Tc tkT [] w B h V xs) (hl : xs.length ≤ 1000) : Calls Tryz.prog 41 #[.pointer (some ⟨h, 0, none⟩)] w fun e w' => e = .returned (.int .i64 (lastN (xs.map Tk.pl))) ∧ Kept w w' [] :=
  (tklastq_any a hl).mono (fun e w' ⟨h1, m, h2⟩ => ⟨h1, h2 ▸ (Kept.refl w []).drewN m⟩)

end Go.Proofs.YticiofkiffgclaaGreat

namespace Go.Proofs.YticiofkiffgclaaGreat
set_option linter.unusedVariables false
open Go.RowKit

abbrev zT4 : Obj := .cells #[.int .i64 0, .int .i64 0, .slice none 0 0, .int .i64 0] 38

variable {w w' : World} {B h : Nat} {V : Value} {xs : List Tk}

end Go.Proofs.YticiofkiffgclaaGreat

namespace Go.Proofs.YticiofkiffgclaaGreat
set_option linter.unusedVariables false
open Go.RowKit

variable {w w' : World} {base : Nat} {l : List Tk}

variable {g cap i j : Nat} {P : Tk → Bool} {wr : World} {r : Tk}

set_option maxHeartbeats 1000000 in
theorem tktrim_nil (n : Int) (w : World) : Calls Tryz.prog 91 #[.pointer none, .int .i64 n] w fun e w' => e = .returned (.int .i64 0) ∧ Kept w w' [] := by
  go_enter Tryz.func91, Tryz.ntmps91
  go_wp2_with (go_at_call 73; refine (tklen_nil _).mono ?_; rintro e w' ⟨rfl, rfl⟩)
  go_ret
  exact ⟨rfl, (Kept.refl w []).alloc _⟩

variable {B h : Nat} {V : Value} {xs : List Tk}

end Go.Proofs.YticiofkiffgclaaGreat

namespace Go.Proofs.YticiofkiffgclaaGreat
set_option linter.unusedVariables false
open Go.RowKit

variable {w w' : World} {base : Nat} {l : List Ev}

theorem ev_frozen {w : World} {g : Nat} {cs : Array Value} {T : TypeId} (h : w.heap[g]? = some (.cells cs T (0, 0))) : w.frozen? ⟨g, 0, none⟩ = false ∧ w.frozen? ⟨g, 1, none⟩ = false ∧ w.frozen? ⟨g, 2, none⟩ = false ∧ w.frozen? ⟨g, 3, none⟩ = false ∧ w.frozen? ⟨g, 4, none⟩ = false ∧ w.frozen? ⟨g, 5, none⟩ = false ∧ w.frozen? ⟨g, 6, none⟩ = false ∧ w.frozen? ⟨g, 7, none⟩ = false :=
  ⟨frozen_of_row _ _ _ _ _ h, frozen_of_row _ _ _ _ _ h, frozen_of_row _ _ _ _ _ h, frozen_of_row _ _ _ _ _ h, frozen_of_row _ _ _ _ _ h, frozen_of_row _ _ _ _ _ h, frozen_of_row _ _ _ _ _ h, frozen_of_row _ _ _ _ _ h⟩

end Go.Proofs.YticiofkiffgclaaGreat

namespace Go.Proofs.YticiofkiffgclaaGreat
set_option linter.unusedVariables false
open Go.RowKit

structure Dv where
  mp : Value
  V : Nat → Value
  c : Nat
  VT : Value
  u : Value
  VC : Value
  VR : Value
  nx : Value
variable {T : TypeId} {w w' : World} {B h : Nat} {d : Dv} {l : Nat → List Ev} {xs : List Tk} {cs : List Cu} {rs : List It}

theorem tag_one {w : World} {k : Nat} {c1 c2 : Array Value} {t1 t2 : TypeId} {f1 f2 : Nat × Nat} (x : w.heap[k]? = some (.cells c1 t1 f1)) (y : w.heap[k]? = some (.cells c2 t2 f2)) : t1 = t2 := by
  rw [x] at y
  simp only [Option.some.injEq, Obj.cells.injEq] at y
  exact y.2.1

end Go.Proofs.YticiofkiffgclaaGreat

namespace Go.Proofs.YticiofkiffgclaaGreat
set_option linter.unusedVariables false
open Go.RowKit

structure Qs where
  l : Nat → List Ev
  c : Nat
  ps : List Pt
  cs : List Cu
  rs : List It
  nx : Int
def Qs.new : Qs := ⟨fun _ => [], 0, [], [], [], 1⟩

def rgsE (q : Qs) (n : ByteArray) : Int := if lastN q.ps = 0 then 9 else regE q.cs n (lastN q.ps)
def rgsQ (q : Qs) (n : ByteArray) : Qs := if lastN q.ps = 0 then q else { q with cs := regL q.cs n (lastN q.ps) }
end Go.Proofs.YticiofkiffgclaaGreat

namespace Go.Proofs.YticiofkiffgclaaGreat
set_option linter.unusedVariables false
open Go.RowKit Go.Maps

def RiseN (ps : List Pt) : Prop := ps.Pairwise fun a b => a.n < b.n

structure OkQ (q : Qs) : Prop where
  c3 : q.c < 3
  okp : Okp q.ps
  okc : OkC q.cs
  rise : RiseN q.ps
  pos : ∀ p ∈ q.ps, 1 ≤ p.n
  la : ∀ x ∈ q.cs, ∃ p ∈ q.ps, p.n = x.la
  op : ∀ x ∈ q.cs, x.op ≠ 0 → x.la < x.op ∧ ∃ p ∈ q.ps, p.n = x.op

theorem OkQ.new : OkQ Qs.new := ⟨by decide, Okp.nil, OkC.nil, List.Pairwise.nil, by simp [Qs.new], by simp [Qs.new], by simp [Qs.new]⟩
end Go.Proofs.YticiofkiffgclaaGreat

namespace Go.Proofs.YticiofkiffgclaaGreat
set_option linter.unusedVariables false
open Go.RowKit Go.Maps

structure EvW (e : Ev) : Prop where
  tx : -100 ≤ e.tx ∧ e.tx ≤ 100000
  tr : 0 ≤ e.tr ∧ e.tr ≤ 2147483647
  id : -100000 ≤ e.id ∧ e.id ≤ 100000
structure SzQ (k : Nat) (q : Qs) : Prop where
  ok : OkQ q
  oki : OkI q.rs
  len : lenN q.l ≤ 16 * k
  nx : 1 ≤ q.nx ∧ q.nx ≤ (k : Int) + 1
  ev : ∀ e ∈ pre q.l 3, EvW e
  it : ∀ x ∈ q.rs, EvW x.e
  last : lastN q.ps ≤ k

theorem SzQ.new : SzQ 0 Qs.new := ⟨OkQ.new, OkI.nil, by simp [lenN, Qs.new], by simp [Qs.new], by simp [Qs.new, pre], by simp [Qs.new], by simp [Qs.new, lastN]⟩
end Go.Proofs.YticiofkiffgclaaGreat
