/-
 Spa, Spb, Spc, Spd in one text.
-/
import Derived.Test.YticiofkiffgclaaGreatQu16
import Derived.Test.YticiofkiffgclaaGreatQu0
import Derived.Deep.QuietTactic
import Derived.BigQuiet
import Derived.RegionTactic
import Derived.Deep.RegionHeld3
set_option linter.unusedVariables false
set_option maxHeartbeats 16000000
set_option maxRecDepth 100000
namespace Go.Proofs.YticiofkiffgclaaGreat
open Go.RowKit
def upd {α : Type} (f : Nat -> α) (i : Nat) (x : α) : Nat -> α := fun j => if j = i then x else f j
theorem xqL {α : Type} (f : Nat -> α) (i : Nat) (x : α) : upd f i x i = x := if_pos rfl
theorem yqb {α : Type} (f : Nat -> α) {i j : Nat} (x : α) (h : j ≠ i) : upd f i x j = f j := if_neg h
structure Sp (T : TypeId) (w : World) (B h : Nat) (V : Nat -> Value) (l : Nat -> List Ev) (c : Nat) : Prop where
 hh : w.heap[h]? = some (.cells #[V 0, V 1, V 2, .int .i64 c] T (0, 0))
 bh : B <= h
 c3 : c < 3
 own : ∀ i, i < 3 -> OwnE w B 50 (V i) (l i)
def xqy (h : Nat) (V : Nat -> Value) : Nat -> Prop := fun k => k = h ∨ ∃ i, i < 3 /\ (V i).ownBlock = some k
def Dst (V : Nat -> Value) : Prop := ∀ i j k, i < 3 -> j < 3 -> i ≠ j -> (V i).ownBlock = some k -> (V j).ownBlock ≠ some k
variable {T : TypeId} {w w' : World} {B h c : Nat} {V : Nat -> Value} {l : Nat -> List Ev}
theorem Sp.cell (a : Sp T w B h V l c) (i : Nat) (hi : i < 3) : w.cell? ⟨h, i, none⟩ = some (V i) /\ w.frozen? ⟨h, i, none⟩ = false := by
 refine ⟨?_, frozen_of_row _ _ _ _ _ a.hh⟩
 rw [cell_of_row _ _ _ _ _ _ a.hh]
 match i, hi with
 | 0, _ => rfl
 | 1, _ => rfl
 | 2, _ => rfl
theorem Sp.cur (a : Sp T w B h V l c) : w.cell? ⟨h, 3, none⟩ = some (.int .i64 c) /\ w.frozen? ⟨h, 3, none⟩ = false :=
 ⟨by rw [cell_of_row _ _ _ _ _ _ a.hh]; rfl, frozen_of_row _ _ _ _ _ a.hh⟩
theorem Sp.lt (a : Sp T w B h V l c) : ∀ k, xqy h V k -> B <= k /\ k < w.heap.size := by
 rintro k (rfl | ⟨i, hi, hk⟩)
 ·exact ⟨a.bh, xqh a.hh⟩
 exact (a.own i hi).lt k hk
theorem Sp.size (a : Sp T w B h V l c) : B <= w.heap.size := by have := xqh a.hh; have := a.bh; omega
theorem OwnE.fo {base : Nat} {e : TypeId} {v : Value} {m : List Ev} {O : Nat -> Prop} (x : OwnE w base e v m) (hf : Fo O w w') (he : ∀ g, v.ownBlock = some g -> ¬ O g) : OwnE w' base e v m := yqB x hf he
theorem OwnE.tag {base : Nat} {e : TypeId} {v : Value} {m : List Ev} (x : OwnE w base e v m) {k : Nat} (hk : v.ownBlock = some k) : ∃ cur, w.heap[k]? = some (.cells cur e (0, 0)) := by
 rcases x.2 with ⟨rfl, _⟩ | ⟨g, cap, cur, rfl, _, hg, _⟩
 ·simp [Value.ownBlock] at hk
 simp only [Value.ownBlock, Option.some.injEq] at hk
 subst hk
 exact ⟨cur, hg⟩
theorem OwnE.apart {base : Nat} {e t : TypeId} {v : Value} {m : List Ev} (x : OwnE w base e v m) {k : Nat} {cs : Array Value} {fz : Nat × Nat} (hk : w.heap[k]? = some (.cells cs t fz)) (ht : t ≠ e) : v.ownBlock ≠ some k := by
 intro hv
 obtain ⟨cur, hc⟩ := x.tag hv
 rw [hc] at hk
 simp only [Option.some.injEq, Obj.cells.injEq] at hk
 exact ht hk.2.1.symm
theorem Sp.fo (a : Sp T w B h V l c) {O : Nat -> Prop} (hf : Fo O w w') (hd : ∀ k, xqy h V k -> ¬ O k) : Sp T w' B h V l c :=
 ⟨hf.heap (hd h (.inl rfl)) a.hh, a.bh, a.c3, fun i hi => (a.own i hi).fo hf (fun g hg => hd g (.inr ⟨i, hi, hg⟩))⟩
theorem Sp.keep (a : Sp T w B h V l c) (hk : Kept w w' []) : Sp T w' B h V l c := a.fo (Fo.ofKept hk (fun _ => False)) (fun _ _ h => h)
theorem Sp.put (hT : T ≠ 50) (hh : w.heap[h]? = some (.cells #[V 0, V 1, V 2, .int .i64 c] T (0, 0))) (bh : B <= h) (c3 : c < 3) {i : Nat} (hi : i < 3) (own : ∀ j, j < 3 -> j ≠ i -> OwnE w B 50 (V j) (l j)) {v : Value} {m : List Ev} (x : OwnE w B 50 v m) :
 Sp T (w.setCell ⟨h, i, none⟩ v) B h (upd V i v) (upd l i m) c := by
 have f : Fo (fun k => k = h) w (w.setCell ⟨h, i, none⟩ v) := Fo.setCell (O := fun k => k = h) (Fo.refl _ w) (p := ⟨h, i, none⟩) (.inl rfl) v
 refine ⟨?_, bh, c3, fun j hj => ?_⟩
 ·rw [xqb hh]
  match i, hi with
  | 0, _ => rfl
  | 1, _ => rfl
  | 2, _ => rfl
 ·by_cases e : j = i
  ·subst e
   rw [xqL, xqL]
   exact x.fo f (fun g hg e => by subst e; exact x.apart hh hT hg)
  rw [yqb _ _ e, yqb _ _ e]
  have y := own j hj e
  exact y.fo f (fun g hg e => by subst e; exact y.apart hh hT hg)
theorem Sp.turn (hT : T ≠ 50) (a : Sp T w B h V l c) {d : Nat} (hd : d < 3) : Sp T (w.setCell ⟨h, 3, none⟩ (.int .i64 d)) B h V l d := by
 have f : Fo (fun k => k = h) w (w.setCell ⟨h, 3, none⟩ (.int .i64 d)) := Fo.setCell (O := fun k => k = h) (Fo.refl _ w) (p := ⟨h, 3, none⟩) (.inl rfl) _
 refine ⟨?_, a.bh, hd, fun j hj => (a.own j hj).fo f (fun g hg e => by subst e; exact (a.own j hj).apart a.hh hT hg)⟩
 rw [xqb a.hh]
 rfl
theorem Dst.upd {i : Nat} {v : Value} (d : Dst V) (hv : ∀ k, v.ownBlock = some k -> (V i).ownBlock = some k ∨ ∀ j, j < 3 -> (V j).ownBlock ≠ some k) : Dst (upd V i v) := by
 intro p q k hp hq hpq h1 h2
 by_cases e1 : p = i
 ·subst e1
  rw [xqL] at h1
  rw [yqb _ _ (Ne.symm hpq)] at h2
  rcases hv k h1 with h | h
  ·exact d p q k hp hq hpq h h2
  exact h q hq h2
 rw [yqb _ _ e1] at h1
 by_cases e2 : q = i
 ·subst e2
  rw [xqL] at h2
  rcases hv k h2 with h | h
  ·exact d p q k hp hq hpq h1 h
  exact h p hp h1
 rw [yqb _ _ e2] at h2
 exact d p q k hp hq hpq h1 h2
theorem sfoot_upd {i : Nat} {v : Value} (hi : i < 3) {P : Nat -> Prop} (hv : ∀ k, v.ownBlock = some k -> (V i).ownBlock = some k ∨ P k) : ∀ k, xqy h (upd V i v) k -> xqy h V k ∨ P k := by
 rintro k (rfl | ⟨j, hj, hk⟩)
 ·exact .inl (.inl rfl)
 by_cases e : j = i
 ·subst e
  rw [xqL] at hk
  exact (hv k hk).imp (fun h => .inr ⟨j, hj, h⟩) id
 rw [yqb _ _ e] at hk
 exact .inl (.inr ⟨j, hj, hk⟩)
theorem Sp.lay (hT : T ≠ 50) (a : Sp T w B h V l c) (d : Dst V) {w1 : World} {i : Nat} (hi : i < 3) (f : Fo (fun k => (V i).ownBlock = some k) w w1) {v : Value} {m : List Ev} (x : OwnE w1 B 50 v m)
 (hv : ∀ k, v.ownBlock = some k -> (V i).ownBlock = some k ∨ w.heap.size <= k) :
 (w1.cell? ⟨h, i, none⟩ = some (V i) /\ w1.frozen? ⟨h, i, none⟩ = false) /\ Sp T (w1.setCell ⟨h, i, none⟩ v) B h (upd V i v) (upd l i m) c /\ Dst (upd V i v) /\ Stp (xqy h V) (xqy h (upd V i v)) w (w1.setCell ⟨h, i, none⟩ v) /\ Fo (xqy h V) w w1 := by
 have hh : w1.heap[h]? = _ := f.heap (fun e => (a.own i hi).apart a.hh hT e) a.hh
 have f2 : Fo (xqy h V) w w1 := f.mono (fun k hk => .inr ⟨i, hi, hk⟩)
 refine ⟨⟨?_, frozen_of_row _ _ _ _ _ hh⟩, Sp.put hT hh a.bh a.c3 hi (fun j hj e => (a.own j hj).fo f (fun g hg => d j i g hj hi e hg)) x, d.upd (fun k hk => (hv k hk).imp id (fun h1 j hj h2 => by have := ((a.own j hj).lt k h2).2; omega)), ⟨f2.setCell (.inl (.inl rfl)) v, sfoot_upd hi hv⟩, f2⟩
 rw [cell_of_row _ _ _ _ _ _ hh]
 match i, hi with
 | 0, _ => rfl
 | 1, _ => rfl
 | 2, _ => rfl
variable {w w' : World} {B h c : Nat} {V : Nat -> Value} {l : Nat -> List Ev}
abbrev spT : TypeId := 132
theorem Sp.shape {T : TypeId} (a : Sp T w B h V l c) (i : Nat) (hi : i < 3) : ∃ u n, V i = .slice u (l i).length n := (a.own i hi).shape
def nxt (c : Nat) : Nat := (c + 1) % 3
theorem xq1 (c : Nat) : nxt c < 3 := Nat.mod_lt _ (by omega)
theorem nxt_int (c : Nat) : ((c : Int) + 1).tmod 3 = ((nxt c : Nat) : Int) := by unfold nxt; rw [Int.tmod_eq_emod_of_nonneg (by omega)]; omega
theorem new_any (w : World) : Calls Tryz.prog 74 #[] w fun e w' => ∃ h, e = .returned (.pointer (some ⟨h, 0, none⟩)) /\ Sp spT w' w.heap.size h (fun _ => .slice none 0 0) (fun _ => []) 0 /\ Kept w w' [] := by
 go_enter Tryz.func74, Tryz.ntmps74
 go_wp2
 go_ret
 exact ⟨w.heap.size, rfl, ⟨heap_alloc_new w _, Nat.le_refl _, by omega, fun i _ => OwnE.nil _ _ _⟩, (Kept.refl w []).alloc _⟩
theorem cur_any (a : Sp spT w B h V l c) : Calls Tryz.prog 72 #[.pointer (some ⟨h, 0, none⟩)] w fun e w' => e = .returned (.int .i64 c) /\ w' = w := by
 have c3 := a.cur.1
 clear a
 go_enter Tryz.func72, Tryz.ntmps72
 go_wp2
 go_ret
 exact ⟨rfl, rfl⟩
def isT (i : Int) : Bool := decide (0 <= i /\ i < 3)
theorem has_any_g6 (h : Nat) (i : Int) (w : World) : Calls Tryz.prog 181 #[.pointer (some ⟨h, 0, none⟩), .int .i64 i] w fun e w' => e = .returned (.bool (isT i)) /\ w' = w := by
 unfold isT
 by_cases h0 : 0 <= i
 ·by_cases h3 : i < 3
  ·rw [decide_eq_true ⟨h0, h3⟩]
   go_enter Tryz.func181, Tryz.ntmps181
   go_wp2
   go_ret
   exact ⟨rfl, rfl⟩
  rw [decide_eq_false (fun h => h3 h.2)]
  go_enter Tryz.func181, Tryz.ntmps181
  go_wp2
  go_ret
  exact ⟨rfl, rfl⟩
 rw [decide_eq_false (fun h => h0 h.1)]
 go_enter Tryz.func181, Tryz.ntmps181
 go_wp2
 go_ret
 exact ⟨rfl, rfl⟩
theorem next_any (a : Sp spT w B h V l c) : Calls Tryz.prog 140 #[.pointer (some ⟨h, 0, none⟩)] w fun e w' => e = .returned (.int .i64 (nxt c : Nat)) /\ w' = w := by
 have HC := iH (cur_any a)
 have hn := nxt_int c
 have hc := a.c3
 generalize nxt c = d at hn ⊢
 clear a
 go_enter Tryz.func140, Tryz.ntmps140
 go_wp2_with (go_at_call 72; refine HC.out.mono ?_; rintro e w' ⟨rfl, rfl⟩)
 go_ret
 exact ⟨rfl, rfl⟩
def lenN (l : Nat -> List Ev) : Nat := (l 0).length + (l 1).length + (l 2).length
theorem len_any (a : Sp spT w B h V l c) (hl : ∀ i, i < 3 -> (l i).length < 1099511627776) : Calls Tryz.prog 137 #[.pointer (some ⟨h, 0, none⟩)] w fun e w' => e = .returned (.int .i64 (lenN l : Nat)) /\ w' = w := by
 have c0 := (a.cell 0 (by omega)).1
 have c1 := (a.cell 1 (by omega)).1
 have c2 := (a.cell 2 (by omega)).1
 obtain ⟨u0, n0, e0⟩ := a.shape 0 (by omega)
 obtain ⟨u1, n1, e1⟩ := a.shape 1 (by omega)
 obtain ⟨u2, n2, e2⟩ := a.shape 2 (by omega)
 rw [e0] at c0
 rw [e1] at c1
 rw [e2] at c2
 have h0 := hl 0 (by omega); have h1 := hl 1 (by omega); have h2 := hl 2 (by omega)
 unfold lenN
 clear a hl e0 e1 e2
 generalize (l 0).length = m0 at *
 generalize (l 1).length = m1 at *
 generalize (l 2).length = m2 at *
 have i0 : ∀ w, (Instr.index 73 (.agg #[.slice u0 m0 n0, .slice u1 m1 n1, .slice u2 m2 n2]) (.int .i64 0)).run Tryz.prog w = .ok (.slice u0 m0 n0) w := fun _ => by kernel_rfl
 have i1 : ∀ w, (Instr.index 73 (.agg #[.slice u0 m0 n0, .slice u1 m1 n1, .slice u2 m2 n2]) (.int .i64 1)).run Tryz.prog w = .ok (.slice u1 m1 n1) w := fun _ => by kernel_rfl
 have i2 : ∀ w, (Instr.index 73 (.agg #[.slice u0 m0 n0, .slice u1 m1 n1, .slice u2 m2 n2]) (.int .i64 2)).run Tryz.prog w = .ok (.slice u2 m2 n2) w := fun _ => by kernel_rfl
 go_enter Tryz.func137, Tryz.ntmps137
 go_wp2
 go_loopg [12, 3, 5] 3 (fun kx s12 s3 _ wr => ∃ k n : Nat, s12 = .int .i64 k /\ s3 = .int .i64 n /\ 3 - k <= kx /\ wr = w /\ (k = 0 /\ n = 0 ∨ k = 1 /\ n = m0 ∨ k = 2 /\ n = m0 + m1 ∨ k = 3 /\ n = m0 + m1 + m2))
 case atStart => exact ⟨0, 0, rfl, rfl, by omega, rfl, by omega⟩
 case round =>
 obtain ⟨k, n, rfl, rfl, hk, rfl, ⟨rfl, rfl⟩ | ⟨rfl, rfl⟩ | ⟨rfl, rfl⟩ | ⟨rfl, rfl⟩⟩ := hrel
 ·go_wp2
  go_roundg 2
  case measure => omega
  case rel => exact ⟨1, m0, by go_num, by go_num, by omega, rfl, by omega⟩
 ·go_wp2
  go_roundg 1
  case measure => omega
  case rel => exact ⟨2, n + m1, by go_num, by go_num, by omega, rfl, by omega⟩
 ·go_wp2
  go_roundg 0
  case measure => omega
  case rel => exact ⟨3, m0 + m1 + m2, by go_num, by go_num, by omega, rfl, by omega⟩
 go_wp2
 go_ret
 exact ⟨by go_num, rfl⟩
def rotS (l : Nat -> List Ev) (c : Nat) (free : Bool) : Nat × Int × (Nat -> List Ev) × Nat :=
 if l (nxt c) = [] then (2, 0, l, nxt c) else if free = true then (1, 0, upd l (nxt c) [], c) else (0, 9, l, c)
theorem srotate_any (a : Sp spT w B h V l c) (d : Dst V) (free : Bool) :
 Calls Tryz.prog 83 #[.pointer (some ⟨h, 0, none⟩), .bool free] w fun e w' => e = .returned (.tuple #[.int .u8 (rotS l c free).1, .int .i64 (rotS l c free).2.1]) /\
  ∃ V', Sp spT w' B h V' (rotS l c free).2.2.1 (rotS l c free).2.2.2 /\ Dst V' /\ Stp (xqy h V) (xqy h V') w w' := by
 have HN := iH (next_any a)
 obtain ⟨u, n, e⟩ := a.shape (nxt c) (xq1 c)
 have ci := (a.cell (nxt c) (xq1 c)).1
 have ff := (a.cell (nxt c) (xq1 c)).2
 rw [e] at ci
 have hk := xq1 c
 have c3 := a.cur
 obtain ⟨c3, f3⟩ := c3
 have A := iH a; have D := iH d
 clear a d e
 by_cases h0 : l (nxt c) = []
 ·have HR : RowKit.Hid (rotS l c free = (2, 0, l, nxt c)) := iH (by unfold rotS; rw [if_pos h0])
  rw [HR.out]
  rw [h0] at ci
  generalize nxt c = k at *
  clear h0 ff
  go_enter Tryz.func83, Tryz.ntmps83
  go_wp2_with (go_at_call 140; refine HN.out.mono ?_; rintro e w' ⟨rfl, rfl⟩)
  (try simp only [Exit.inBlock, Exit.then])
  refine bodyPost_ret (v := .tuple #[.int .u8 2, .int .i64 0]) (by simp [results, Tryz.results83, go_sem]) rfl ?_
  exact ⟨rfl, V, A.out.turn (by decide) hk, D.out, (Fo.refl _ _).setCell (.inl (.inl rfl)) _, fun k h => .inl h⟩
 ·have hl : ((l (nxt c)).length == 0) = false := by rw [beq_eq_false_iff_ne]; intro h; exact h0 (List.eq_nil_of_length_eq_zero h)
  have hlz : (((l (nxt c)).length : Int) == 0) = false := by rw [beq_eq_false_iff_ne] at hl ⊢; omega
  cases free with
  | true =>
  have HR : RowKit.Hid (rotS l c true = (1, 0, upd l (nxt c) [], c)) := iH (by unfold rotS; rw [if_neg h0, if_pos rfl])
  rw [HR.out]
  have HF := iH (A.out.lay (by decide) D.out hk (Fo.refl _ w) (OwnE.nil w B _) (by intro k hk; simp [Value.ownBlock] at hk))
  clear h0
  generalize (l (nxt c)).length = m at *
  generalize nxt c = k at *
  go_enter Tryz.func83, Tryz.ntmps83
  go_wp2_with (go_at_call 140; refine HN.out.mono ?_; rintro e w' ⟨rfl, rfl⟩)
  (try simp only [Exit.inBlock, Exit.then])
  refine bodyPost_ret (v := .tuple #[.int .u8 1, .int .i64 0]) (by simp [results, Tryz.results83, go_sem]) rfl ?_
  obtain ⟨_, h1, h2, h3, _⟩ := HF.out
  exact ⟨rfl, _, h1, h2, h3⟩
  | false =>
  have HR : RowKit.Hid (rotS l c false = (0, 9, l, c)) := iH (by unfold rotS; rw [if_neg h0, if_neg (by simp)])
  rw [HR.out]
  clear h0
  generalize (l (nxt c)).length = m at *
  generalize nxt c = k at *
  go_enter Tryz.func83, Tryz.ntmps83
  go_wp2_with (go_at_call 140; refine HN.out.mono ?_; rintro e w' ⟨rfl, rfl⟩)
  (try simp only [Exit.inBlock, Exit.then])
  refine bodyPost_ret (v := .tuple #[.int .u8 0, .int .i64 9]) (by simp [results, Tryz.results83, go_sem]) rfl ?_
  exact ⟨rfl, V, A.out, D.out, Stp.refl _ _⟩
theorem Tryz.infoEv_g6 : (Tryz.prog.info? 50).map (fun i => (i.zero, i.size, i.bytes)) = some (some (.agg #[.int .i64 0, .int .i64 0, .string ByteArray.empty, .int .i64 0, .int .i64 0, .int .u8 0, .int .i64 0, .string ByteArray.empty]), 8, 80) := by kernel_rfl
variable {w w' : World} {B h c : Nat} {V : Nat -> Value} {l : Nat -> List Ev}
theorem xqm {w : World} {z : Nat} {b0 b1 b3 b4 b5 b6 : Int} {b2 b7 : ByteArray} {T : TypeId} (hz : w.heap[z]? = some (.cells #[.int .i64 b0, .int .i64 b1, .string b2, .int .i64 b3, .int .i64 b4, .int .u8 b5, .int .i64 b6, .string b7] T (0, 0))) :
 w.cell? ⟨z, 0, none⟩ = some (.int .i64 b0) /\ w.cell? ⟨z, 1, none⟩ = some (.int .i64 b1) /\ w.cell? ⟨z, 2, none⟩ = some (.string b2) /\ w.cell? ⟨z, 3, none⟩ = some (.int .i64 b3) /\ w.cell? ⟨z, 4, none⟩ = some (.int .i64 b4) /\ w.cell? ⟨z, 5, none⟩ = some (.int .u8 b5) /\ w.cell? ⟨z, 6, none⟩ = some (.int .i64 b6) /\ w.cell? ⟨z, 7, none⟩ = some (.string b7) := by
 refine ⟨?_, ?_, ?_, ?_, ?_, ?_, ?_, ?_⟩ <;> (rw [cell_of_row _ _ _ _ _ _ hz]; rfl)
theorem yqw (l : List Ev) (e : Ev) : ecs l ++ e.cs.toList = ecs (l ++ [e]) := by rw [xqB]; simp [ecs]
structure AddIn (T : TypeId) (w wr wB : World) (B h z i : Nat) (V : Nat -> Value) (l : Nat -> List Ev) (c : Nat) (u : Option Addr) (n cp : Nat) (e : Ev) : Prop where
 s1 : wr.drew.heap[z]? = some (.cells e.cs 50 (0, 0))
 s2 : wB.heap[z]? = some (.cells e.cs 50 (0, 0))
 cl : wr.drew.cell? ⟨h, i, none⟩ = some (.slice u n cp)
 cb : wB.cell? ⟨h, i, none⟩ = some (.slice u n cp)
 xb : wB.ownsRow B 50 8 (.slice u n cp) n (ecs (l i))
 sb : Src Tryz.prog 8 57 (.slice (some ⟨wr.heap.size, 0, none⟩) 1 1) 1 e.cs.toList wB
 bb : B <= wB.heap.size
 ar : ∀ v9 w9, w9.ownsRow B 50 8 v9 (n + 1) (ecs (l i) ++ e.cs.toList) -> wB.grownBy w9 (Value.slice u n cp).ownBlock -> (v9.ownBlock = (Value.slice u n cp).ownBlock ∨ ∃ g, v9.ownBlock = some g /\ wB.heap.size <= g) ->
  w9.cell? ⟨h, i, none⟩ = some (.slice u n cp) /\ w9.frozen? ⟨h, i, none⟩ = false /\ Sp T (w9.setCell ⟨h, i, none⟩ v9) B h (upd V i v9) (upd l i (l i ++ [e])) c /\ Dst (upd V i v9) /\ Stp (xqy h V) (xqy h (upd V i v9)) w (w9.setCell ⟨h, i, none⟩ v9) /\
   w9.heap[z]? = some (.cells e.cs 50 (0, 0)) /\ (w9.setCell ⟨h, i, none⟩ v9).heap[z]? = some (.cells e.cs 50 (0, 0))
theorem addIn {T : TypeId} (hT : T ≠ 50) (a : Sp T w B h V l c) (d : Dst V) {wr wB : World} {z i : Nat} (hi : i < 3) {u : Option Addr} {n cp : Nat} (hV : V i = .slice u n cp) (hn : n = (l i).length) (e : Ev) (kr : Kept w wr []) (hz : w.heap.size <= z) (gz : wr.heap[z]? = some (.cells e.cs 50 (0, 0)))
 (hB : wB = wr.drew.alloc (.cells e.cs 50)) : AddIn T w wr wB B h z i V l c u n cp e := by
 have kd : Kept wr wr.drew [] := (Kept.refl wr []).drew
 have kB : Kept wr wB [] := by rw [hB]; exact kd.alloc _
 have kwB : Kept w wB [] := kr.trans kB (by simp)
 have hb : wB.heap[wr.heap.size]? = some (.cells e.cs 50 (0, 0)) := by rw [hB]; exact heap_alloc_new wr.drew _
 refine ⟨kd.heap (by simp) gz, kB.heap (by simp) gz, ?_, ?_, ?_, ?_, Nat.le_trans a.size kwB.size, ?_⟩
 ·rw [((a.keep kr).keep kd).cell i hi |>.1, hV]
 ·rw [(a.keep kwB).cell i hi |>.1, hV]
 ·have := (a.keep kwB).own i hi
  rw [hV] at this
  unfold OwnE at this
  rw [hn] at this ⊢
  exact this
 ·refine Src.ofSlice wB Tryz.underlying57 ⟨wr.heap.size, 0, none⟩ 1 1 _ rfl (fun j x hx => ?_) (encE_one e)
  rw [Addr.add_lit, cell_of_row wB _ _ _ _ _ hb, Nat.zero_add]
  simpa using hx
 ·intro v9 w9 h1 h2 h3
  rw [<- hV] at h2 h3
  have f : Fo (fun k => (V i).ownBlock = some k) w w9 := (Fo.ofKept kwB _).grown h2 (fun k hk => .inl hk)
  have x9 : OwnE w9 B 50 v9 (l i ++ [e]) := by unfold OwnE; rw [<- yqw, List.length_append, <- hn]; exact h1
  obtain ⟨⟨r1, r2⟩, r3, r4, r5, r6⟩ := a.lay hT d hi f x9 (fun k hk => by
   rcases h3 with h3 | ⟨g, h3, h4⟩
   ·exact .inl (by rw [<- h3]; exact hk)
   ·rw [h3] at hk
    simp only [Option.some.injEq] at hk
    subst hk
    exact .inr (Nat.le_trans kwB.size h4))
  have nf : (V i).ownBlock ≠ some z := fun h => by have := ((a.own i hi).lt z h).2; omega
  have g9 : w9.heap[z]? = some (.cells e.cs 50 (0, 0)) := by
   have gB := kB.heap (by simp) gz
   have k : Fo (fun k => (V i).ownBlock = some k) wB w9 := (Fo.refl _ wB).grown h2 (fun k hk => .inl hk)
   exact k.heap nf gB
  have hne : z ≠ h := fun h => by have := xqh a.hh; omega
  refine ⟨by rw [r1, hV], r2, r3, r4, r5, g9, ?_⟩
  have k2 : Fo (fun k => k = h) w9 (w9.setCell ⟨h, i, none⟩ v9) := Fo.setCell (O := fun k => k = h) (Fo.refl _ w9) (p := ⟨h, i, none⟩) (.inl rfl) v9
  exact k2.heap hne g9
theorem addto_any (a : Sp spT w B h V l c) (d : Dst V) (i : Nat) (hi : i < 3) (hl : (l i).length < 1000000) (e : Ev) :
 Calls Tryz.prog 136 #[.pointer (some ⟨h, 0, none⟩), .int .i64 i, .agg e.cs] w fun r w' => r = .returned (.int .i64 0) /\ ∃ V', Sp spT w' B h V' (upd l i (l i ++ [e])) c /\ Dst V' /\ Stp (xqy h V) (xqy h V') w w' := by
 obtain ⟨u, cp, hV⟩ := a.shape i hi
 obtain ⟨n, hn⟩ : ∃ n, n = (l i).length := ⟨_, rfl⟩
 rw [<- hn] at hV hl
 obtain ⟨z, hz⟩ : ∃ z, z = w.heap.size := ⟨_, rfl⟩
 obtain ⟨W1, hW1⟩ : ∃ W1, W1 = w.alloc (.cells e.cs 50) := ⟨_, rfl⟩
 have k1 : Kept w W1 [] := by rw [hW1]; exact (Kept.refl w []).alloc _
 have g1 : W1.heap[z]? = some (.cells e.cs 50 (0, 0)) := by rw [hW1, hz]; exact heap_alloc_new w _
 obtain ⟨wB, hwB⟩ : ∃ wB, wB = W1.drew.alloc (.cells e.cs 50) := ⟨_, rfl⟩
 have AI := addIn (by decide) a d hi hV hn e k1 (by omega) g1 hwB
 obtain ⟨i0, hi0, hz0, hz1, hzb⟩ := info_parts Tryz.infoEv_g6
 have I := iH (And.intro hi0 (And.intro hz0 (And.intro hz1 hzb)))
 have hh : isT (i : Int) = true := by unfold isT; rw [decide_eq_true]; omega
 have HH := iH (has_any_g6 h i W1)
 rw [hh] at HH
 rcases e with ⟨b0, b1, b2, b3, b4, b5, b6, b7⟩
 have hi3 : ¬ (3 : Int) <= (i : Int) := by omega
 have S1 := iH AI.s1; have S2 := iH AI.s2; have CL := iH AI.cl; have CB := iH AI.cb; have XB := iH AI.xb; have SB := iH AI.sb; have BB := iH AI.bb; have AR := iH AI.ar; have HwB := iH hwB; have HW1 := iH hW1; have HZ := iH hz
 clear hi0 hz0 hz1 hzb AI hwB hn hh a d k1 g1 hV
 simp only [Ev.cs] at *
 go_enter Tryz.func136, Tryz.ntmps136
 go_wp2_with fail
 rw [<- HW1.out, <- HZ.out]
 clear hW1 hz
 refine HH.out.mono ?_
 rintro e w' ⟨rfl, rfl⟩
 go_wp2_with fail
 refine wp_region_held_drew (S := fun V => V.heap[z]? = some (.cells #[.int .i64 b0, .int .i64 b1, .string b2, .int .i64 b3, .int .i64 b4, .int .u8 b5, .int .i64 b6, .string b7] 50 (0, 0))) (by kernel_rfl) S1.out (fun hJ => ?_)
 refine wx 0 13 (.pointer (some ⟨h, 0, none⟩)) rfl hJ ?_
 refine wx 1 14 (.int .i64 i) rfl hJ ?_
 refine wx 2 15 (.pointer (some ⟨h, 0, none⟩)) rfl hJ ?_
 refine wx 3 16 (.int .i64 i) rfl hJ ?_
 refine wx 4 17 (.pointer (some ⟨h, 0, none⟩)) rfl hJ ?_
 refine wx 5 18 (.pointer (some ⟨h, 0, none⟩)) rfl hJ ?_
 refine wx 6 19 (.pointer (some ⟨h, i, none⟩)) rfl hJ ?_
 refine wx 8 21 (.agg #[.int .i64 b0, .int .i64 b1, .string b2, .int .i64 b3, .int .i64 b4, .int .u8 b5, .int .i64 b6, .string b7]) rfl hJ ?_ (hy := fun V hV => by (obtain ⟨q0, q1, q2, q3, q4, q5, q6, q7⟩ := xqm hV; clear hV; go_simp))
 refine wx 11 24 (.pointer (some ⟨h, 0, none⟩)) rfl hJ ?_
 refine wx 12 25 (.pointer (some ⟨h, 0, none⟩)) rfl hJ ?_
 refine wpAnyH_ready (rs := [7, 9]) (by kernel_rfl) (by simp) ?_
 refine AllReadyH.cons (o := _) rfl (fun K hK => ?wayA) (AllReadyH.cons (o := _) rfl (fun K hK => ?wayB) AllReadyH.nil)
 case wayA =>
  have l1 : w'.drew.cell? ⟨h, i, none⟩ = some (.slice u n cp) := CL.out
  go_simp
  clear l1
  refine hK.out _ _ S1.out (fun hJ => ?_)
  clear hK K
  refine wr1 9 rfl (fun K hK => ?_)
  refine xqt _ rfl 57 (.tmp 21) rfl 50 i0 _ 8 Tryz.underlying57 I.out.1 I.out.2.1 I.out.2.2.1 (by decide) (by decide) [.int .i64 b0, .int .i64 b1, .string b2, .int .i64 b3, .int .i64 b4, .int .u8 b5, .int .i64 b6, .string b7] rfl rfl ?_
  rw [<- HwB.out]
  refine hK.out _ _ S2.out (fun hJ => ?_)
  clear hK K
  refine wr1 10 rfl (fun K hK => ?_)
  refine xqC _ rfl (.tmp 20) (.tmp 22) 57 57 rfl B 50 i0 _ 8 80 Tryz.underlying57 I.out.1 I.out.2.1 I.out.2.2.1 I.out.2.2.2 rfl (.slice u n cp) n (ecs (l i)) rfl XB.out _ 1 [.int .i64 b0, .int .i64 b1, .string b2, .int .i64 b3, .int .i64 b4, .int .u8 b5, .int .i64 b6, .string b7] rfl SB.out (by unfold maxLen; omega) (by omega) BB.out ?_
  intro v9 w9 ho9 hf9 hg9 hl9
  obtain ⟨c9, f9, r9, d9, p9, s9, t9⟩ := AR.out v9 w9 ho9 hg9 hl9
  have R9 := iH r9; have D9 := iH d9; have P9 := iH p9; have S3 := iH s9; have S4 := iH t9
  obtain ⟨a9, q9, hs9⟩ := xqw ho9
  clear r9 d9 p9 s9 t9 ho9 hf9 hg9 hl9
  subst hs9
  refine hK.out _ _ S3.out (fun hJ => ?_)
  clear hK K
  refine wpAnyH_take (i := 13) (oi := _) (v := .pointer (some ⟨h, i, none⟩)) rfl (by kernel_rfl) (by kernel_rfl) (by kernel_rfl) (fun _ _ _ h => h) (Or.inl ⟨by rfl, fun V hV => by go_simp⟩) hJ ?_
  refine wr1 14 rfl (fun K hK => ?_)
  go_simp
  refine hK.out _ _ S4.out (fun hJ => ?_)
  clear hK K
  refine wd ?_
  clear c9 f9
  go_wp2
  go_ret
  exact ⟨rfl, _, R9.out, D9.out, P9.out⟩
 case wayB =>
  refine xqt _ rfl 57 (.tmp 21) rfl 50 i0 _ 8 Tryz.underlying57 I.out.1 I.out.2.1 I.out.2.2.1 (by decide) (by decide) [.int .i64 b0, .int .i64 b1, .string b2, .int .i64 b3, .int .i64 b4, .int .u8 b5, .int .i64 b6, .string b7] rfl rfl ?_
  rw [<- HwB.out]
  refine hK.out _ _ S2.out (fun hJ => ?_)
  clear hK K
  refine wr1 7 rfl (fun K hK => ?_)
  have l1 : wB.cell? ⟨h, i, none⟩ = some (.slice u n cp) := CB.out
  go_simp
  clear l1
  refine hK.out _ _ S2.out (fun hJ => ?_)
  clear hK K
  refine wr1 10 rfl (fun K hK => ?_)
  refine xqC _ rfl (.tmp 20) (.tmp 22) 57 57 rfl B 50 i0 _ 8 80 Tryz.underlying57 I.out.1 I.out.2.1 I.out.2.2.1 I.out.2.2.2 rfl (.slice u n cp) n (ecs (l i)) rfl XB.out _ 1 [.int .i64 b0, .int .i64 b1, .string b2, .int .i64 b3, .int .i64 b4, .int .u8 b5, .int .i64 b6, .string b7] rfl SB.out (by unfold maxLen; omega) (by omega) BB.out ?_
  intro v9 w9 ho9 hf9 hg9 hl9
  obtain ⟨c9, f9, r9, d9, p9, s9, t9⟩ := AR.out v9 w9 ho9 hg9 hl9
  have R9 := iH r9; have D9 := iH d9; have P9 := iH p9; have S3 := iH s9; have S4 := iH t9
  obtain ⟨a9, q9, hs9⟩ := xqw ho9
  clear r9 d9 p9 s9 t9 ho9 hf9 hg9 hl9
  subst hs9
  refine hK.out _ _ S3.out (fun hJ => ?_)
  clear hK K
  refine wpAnyH_take (i := 13) (oi := _) (v := .pointer (some ⟨h, i, none⟩)) rfl (by kernel_rfl) (by kernel_rfl) (by kernel_rfl) (fun _ _ _ h => h) (Or.inl ⟨by rfl, fun V hV => by go_simp⟩) hJ ?_
  refine wr1 14 rfl (fun K hK => ?_)
  go_simp
  refine hK.out _ _ S4.out (fun hJ => ?_)
  clear hK K
  refine wd ?_
  clear c9 f9
  go_wp2
  go_ret
  exact ⟨rfl, _, R9.out, D9.out, P9.out⟩
variable {w w' : World} {B h c : Nat} {V : Nat -> Value} {l : Nat -> List Ev}
theorem Stp.ofKept {O : Nat -> Prop} {a b : World} (h : Kept a b []) : Stp O O a b := ⟨Fo.ofKept h O, fun _ h => .inl h⟩
theorem Stp.after {O O1 : Nat -> Prop} {a b c : World} (h : Kept a b []) (k : Stp O O1 b c) : Stp O O1 a c := (Stp.ofKept h).trans k
theorem Stp.then {O O1 : Nat -> Prop} {a b c : World} (h : Stp O O1 a b) (k : Kept b c []) : Stp O O1 a c := h.trans (Stp.ofKept k)
theorem add_any (a : Sp spT w B h V l c) (d : Dst V) (hl : (l c).length < 1000000) (e : Ev) :
 Calls Tryz.prog 80 #[.pointer (some ⟨h, 0, none⟩), .agg e.cs] w fun r w' => r = .returned (.tuple #[]) /\ ∃ V', Sp spT w' B h V' (upd l c (l c ++ [e])) c /\ Dst V' /\ Stp (xqy h V) (xqy h V') w w' := by
 obtain ⟨z, hz⟩ : ∃ z, z = w.heap.size := ⟨_, rfl⟩
 obtain ⟨W1, hW1⟩ : ∃ W1, W1 = w.alloc (.cells e.cs 50) := ⟨_, rfl⟩
 have k1 : Kept w W1 [] := by rw [hW1]; exact (Kept.refl w []).alloc _
 have g1 : W1.heap[z]? = some (.cells e.cs 50 (0, 0)) := by rw [hW1, hz]; exact heap_alloc_new w _
 have S1 := iH (((Kept.refl W1 []).drew).heap (by simp) g1)
 have CU := iH (cur_any (a.keep k1.drew))
 have CA := iH (addto_any (a.keep k1.drew) d c a.c3 hl e)
 have ZF := iH (show ¬ xqy h V z from fun hk => by have := (a.lt z hk).2; omega)
 have K1 := iH k1.drew; have HW1 := iH hW1; have HZ := iH hz
 rcases e with ⟨b0, b1, b2, b3, b4, b5, b6, b7⟩
 have G1 := iH g1
 clear a d k1 g1 hl
 simp only [Ev.cs] at *
 go_enter Tryz.func80, Tryz.ntmps80
 go_wp2_with fail
 rw [<- HW1.out, <- HZ.out]
 clear hW1 hz
 refine wp_region_held_drew (S := fun V => V.heap[z]? = some (.cells #[.int .i64 b0, .int .i64 b1, .string b2, .int .i64 b3, .int .i64 b4, .int .u8 b5, .int .i64 b6, .string b7] 50 (0, 0))) (by kernel_rfl) S1.out (fun hJ => ?_)
 refine wx 0 4 (.pointer (some ⟨h, 0, none⟩)) rfl hJ ?_
 refine wx 1 5 (.pointer (some ⟨h, 0, none⟩)) rfl hJ ?_
 refine wx 3 7 (.agg #[.int .i64 b0, .int .i64 b1, .string b2, .int .i64 b3, .int .i64 b4, .int .u8 b5, .int .i64 b6, .string b7]) rfl hJ ?_ (hy := fun V hV => by (obtain ⟨q0, q1, q2, q3, q4, q5, q6, q7⟩ := xqm hV; clear hV; go_simp))
 refine wr1 2 rfl (fun K hK => ?_)
 go_simp
 go_at_call 72
 refine CU.out.mono ?_
 rintro e w2 ⟨rfl, rfl⟩
 go_wp2_with fail
 refine hK.out _ _ S1.out (fun hJ => ?_)
 clear hK K
 refine wr1 4 rfl (fun K hK => ?_)
 go_simp
 go_at_call 136
 refine CA.out.mono ?_
 rintro e w2 ⟨rfl, V2, r9, d9, p9⟩
 have R9 := iH r9; have D9 := iH d9; have P9 := iH p9
 clear r9 d9 p9
 go_wp2_with fail
 refine hK.out _ _ ?_ (fun hJ => ?_)
 ·exact P9.out.1.heap ZF.out S1.out
 ·clear hK K
  refine wd ?_
  go_wp2
  exact bodyPost_end (results_none rfl _ _ _) rfl ⟨rfl, V2, R9.out, D9.out, P9.out.after K1.out⟩
theorem eclone_any (v : Value) (m : List Ev) (w : World) (h : RdE w v m) (hl : m.length <= 10000000) :
 Calls Tryz.prog 197 #[v] w fun e w' => ∃ v', e = .returned v' /\ OwnE w' w.heap.size 50 v' m /\ Kept w w' [] := by
 obtain ⟨i0, hi, hz0, hz1, hz2⟩ := info_parts Tryz.infoEv_g6
 obtain ⟨a, c, rfl, hc, ha, hcell⟩ := id h
 have H := iH h; clear h hcell
 have q22 : ∀ (w : World) (a : Option Addr) (n c n' c' : Nat), (binOp .eql 57 (.slice a n c) (.slice none n' c')).run Tryz.prog w = .ok (.bool a.isNone) w := fun w a n c n' c' => Lib.run_eql_slice_nil w _ _ a n c n' c' Tryz.underlying57
 cases a with
 | none =>
 obtain rfl := ha rfl
 obtain rfl : m = [] := List.eq_nil_of_length_eq_zero (by omega)
 clear ha
 go_enter Tryz.func197, Tryz.ntmps197
 go_wp2
 go_ret
 exact ⟨_, rfl, OwnE.nil _ _ _, Kept.refl _ _⟩
 | some x =>
  clear ha
  go_enter Tryz.func197, Tryz.ntmps197
  go_wp2_with (at_builtin; refine xqe _ rfl (.tmp 5) (.tmp 6) 57 57 rfl w.heap.size 50 i0 _ 8 80 Tryz.underlying57 hi hz0 hz1 hz2 rfl (.slice (some ⟨w.heap.size, 0, none⟩) 0 0) 0 [] rfl ?hown (.slice (some x) m.length c) m.length (ecs m) rfl ?src ?b1 ?b2 ?base ?next)
  case hown => exact World.ownsRow_made w #[] 0 (Nat.le_refl _) (Nat.zero_le _) (by simp)
  case src => exact (H.out.kept ((Kept.refl w []).alloc _) (by simp)).src Tryz.underlying57
  case b1 => unfold maxLen; omega
  case b2 => omega
  case base => simp
  case next =>
  intro v2 w2 hown hgrow _ _
  have ho : OwnE w2 w.heap.size 50 v2 m := by unfold OwnE; simpa using hown
  have hk : Kept w w2 [] := ((Kept.refl w []).alloc _).grown hgrow (fun k hk => .inr (by simp [Value.ownBlock] at hk; omega))
  have Ho := iH ho; have Hk := iH hk
  clear ho hk hown hgrow
  go_wp2
  go_ret
  exact ⟨_, rfl, Ho.out, Hk.out⟩
theorem list_any (a : Sp spT w B h V l c) (i : Nat) (hi : i < 3) (hl : (l i).length <= 10000000) :
 Calls Tryz.prog 167 #[.pointer (some ⟨h, 0, none⟩), .int .i64 i] w fun e w' => ∃ v', e = .returned v' /\ OwnE w' w.heap.size 50 v' (l i) /\ Kept w w' [] := by
 obtain ⟨u, n, e⟩ := a.shape i hi
 have ci := (a.cell i hi).1
 have HC := iH (eclone_any (V i) (l i) w (a.own i hi).rd hl)
 rw [e] at ci HC
 have hh : isT (i : Int) = true := by unfold isT; rw [decide_eq_true]; omega
 have HH := iH (has_any_g6 h i w)
 rw [hh] at HH
 clear a e hh
 go_enter Tryz.func167, Tryz.ntmps167
 go_wp2_with fail
 refine HH.out.mono ?_
 rintro e w' ⟨rfl, rfl⟩
 go_wp2_with fail
 refine HC.out.mono ?_
 rintro e w2 ⟨v', rfl, ho, hk⟩
 have Ho := iH ho; have Hk := iH hk
 clear ho hk
 go_wp2
 go_ret
 exact ⟨_, rfl, Ho.out, Hk.out⟩
theorem nextl_any (a : Sp spT w B h V l c) (hl : (l (nxt c)).length <= 10000000) :
 Calls Tryz.prog 109 #[.pointer (some ⟨h, 0, none⟩)] w fun e w' => ∃ v', e = .returned v' /\ OwnE w' w.heap.size 50 v' (l (nxt c)) /\ Kept w w' [] := by
 have HN := iH (next_any a)
 have HL := iH (list_any a (nxt c) (xq1 c) hl)
 clear a hl
 generalize nxt c = d at *
 go_enter Tryz.func109, Tryz.ntmps109
 go_wp2_with fail
 refine HN.out.mono ?_
 rintro e w' ⟨rfl, rfl⟩
 go_wp2_with fail
 refine HL.out.mono ?_
 rintro e w2 ⟨v', rfl, ho, hk⟩
 have Ho := iH ho; have Hk := iH hk
 clear ho hk
 go_wp2
 go_ret
 exact ⟨_, rfl, Ho.out, Hk.out⟩
end Go.Proofs.YticiofkiffgclaaGreat
