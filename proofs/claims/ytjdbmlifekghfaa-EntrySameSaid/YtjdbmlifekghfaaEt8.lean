/-
  Fr, Fow, Gka, SnA, SnB, SnC, SnE, SnG in one text.
-/
import Derived.Test.YtjdbmlifekghfaaEt0
import Derived.Deep.MidRow
import Derived.Laws.CopyOwn
import Derived.Laws.MakeOwn
import Derived.Test.YtjdbmlifekghfaaRows
import Derived.Deep.QuietTactic
import Derived.BigQuiet
import Derived.Laws.BitsAllLaws
import Derived.WalkArith
import Derived.Deep.RegionHeld3
set_option linter.unusedVariables false
set_option maxHeartbeats 16000000
set_option maxRecDepth 100000
namespace Go.Proofs.Ytjdbmlifekghfaa
open Go.RowKit
structure Fr (B : Nat) (ts : List TypeId) (w w' : World) : Prop where
 os : w'.os = w.os
 tape : w'.tape = w.tape
 output : w'.output = w.output
 size : w.heap.size <= w'.heap.size
 block : ∀ k, k < w.heap.size -> w'.heap[k]? = w.heap[k]? ∨ (B <= k /\ ∃ cs cs' t fz, t ∈ ts /\ w.heap[k]? = some (.cells cs t fz) /\ w'.heap[k]? = some (.cells cs' t fz))
theorem Fr.refl (B : Nat) (ts : List TypeId) (w : World) : Fr B ts w w := ⟨rfl, rfl, rfl, Nat.le_refl _, fun _ _ => .inl rfl⟩
theorem Fr.trans {B : Nat} {ts : List TypeId} {a b c : World} (h : Fr B ts a b) (k : Fr B ts b c) : Fr B ts a c := by
 refine ⟨k.os.trans h.os, k.tape.trans h.tape, k.output.trans h.output, Nat.le_trans h.size k.size, fun i hi => ?_⟩
 rcases h.block i hi with h1 | ⟨hB, cs, cs', t, fz, ht, h1, h2⟩
 ·rcases k.block i (Nat.lt_of_lt_of_le hi h.size) with k1 | ⟨hB, cs, cs', t, fz, ht, k1, k2⟩
  ·exact .inl (k1.trans h1)
  exact .inr ⟨hB, cs, cs', t, fz, ht, h1 ▸ k1, k2⟩
 rcases k.block i (Nat.lt_of_lt_of_le hi h.size) with k1 | ⟨_, ds, ds', t', fz', ht', k1, k2⟩
 ·exact .inr ⟨hB, cs, cs', t, fz, ht, h1, k1.trans h2⟩
 rw [h2] at k1
 injection k1 with k1
 injection k1 with _ e1 e2
 subst e1; subst e2
 exact .inr ⟨hB, cs, ds', t, fz, ht, h1, k2⟩
theorem Fr.mono {B B' : Nat} {ts ts' : List TypeId} {a b : World} (h : Fr B ts a b) (hB : B' <= B) (hs : ∀ t, t ∈ ts -> t ∈ ts') : Fr B' ts' a b :=
 ⟨h.os, h.tape, h.output, h.size, fun k hk => (h.block k hk).imp id fun ⟨hb, cs, cs', t, fz, ht, r⟩ => ⟨by omega, cs, cs', t, fz, hs t ht, r⟩⟩
theorem Fr.later {B B' : Nat} {ts ts' : List TypeId} {a b c : World} (h : Fr B ts a b) (k : Fr B' ts' b c) (hB : a.heap.size <= B') : Fr B ts a c := by
 refine ⟨k.os.trans h.os, k.tape.trans h.tape, k.output.trans h.output, Nat.le_trans h.size k.size, fun i hi => ?_⟩
 rcases k.block i (Nat.lt_of_lt_of_le hi h.size) with k1 | ⟨hb, _⟩
 ·exact (h.block i hi).imp (fun h1 => k1.trans h1) fun ⟨hb, cs, cs', t, fz, ht, h1, h2⟩ => ⟨hb, cs, cs', t, fz, ht, h1, k1.trans h2⟩
 omega
theorem Fr.ofKept {w w' : World} (h : Kept w w' []) (B : Nat) (ts : List TypeId) : Fr B ts w w' := ⟨h.os, h.tape, h.output, h.size, fun k hk => .inl (h.block k hk (by simp))⟩
theorem Fr.kept {B : Nat} {w w' : World} (h : Fr B [] w w') : Kept w w' [] := ⟨h.os, h.tape, h.output, h.size, fun k hk _ => (h.block k hk).resolve_right (fun ⟨_, _, _, _, _, ht, _⟩ => by simp at ht)⟩
theorem Fr.drew {B : Nat} {ts : List TypeId} {a w : World} (h : Fr B ts a w) : Fr B ts a w.drew := ⟨h.os, h.tape, h.output, h.size, h.block⟩
theorem Fr.alloc {B : Nat} {ts : List TypeId} {a w : World} (h : Fr B ts a w) (o : Obj) : Fr B ts a (w.alloc o) := h.trans (Fr.ofKept ((Kept.refl w []).alloc o) B ts)
theorem heap_lt {w : World} {k : Nat} {o : Obj} (h : w.heap[k]? = some o) : k < w.heap.size := (Array.getElem?_eq_some_iff.1 h).1
theorem Fr.heap {B : Nat} {ts : List TypeId} {w w' : World} (h : Fr B ts w w') {k : Nat} {cs : Array Value} {t : TypeId} {fz : Nat × Nat} (hk : w.heap[k]? = some (.cells cs t fz)) (ht : t ∉ ts) : w'.heap[k]? = some (.cells cs t fz) := by
 rcases h.block k (heap_lt hk) with h1 | ⟨_, ds, ds', t', fz', ht', h1, _⟩
 ·exact h1.trans hk
 rw [hk] at h1
 injection h1 with h1
 injection h1 with _ e1
 subst e1
 exact absurd ht' ht
theorem Fr.heapLt {B : Nat} {ts : List TypeId} {w w' : World} (h : Fr B ts w w') {k : Nat} {o : Obj} (hk : w.heap[k]? = some o) (hB : k < B) : w'.heap[k]? = some o := by
 rcases h.block k (heap_lt hk) with h1 | ⟨hb, _⟩
 ·exact h1.trans hk
 omega
theorem Fr.setRow {B : Nat} {ts : List TypeId} {a w : World} (h : Fr B ts a w) {g : Nat} {cur : Array Value} {t : TypeId} {fz : Nat × Nat} (hg : w.heap[g]? = some (.cells cur t fz)) (hB : a.heap.size <= g ∨ (B <= g /\ t ∈ ts)) (cs : Array Value) : Fr B ts a (w.setRow g cs) := by
 have hs : ∀ k, k ≠ g -> (w.setRow g cs).heap[k]? = w.heap[k]? := fun k hk => setRow_other w g k cs hk
 refine ⟨h.os, h.tape, h.output, by simpa [World.setRow] using h.size, fun k hk => ?_⟩
 by_cases e : k = g
 ·subst e
  rcases hB with hB | ⟨hB, ht⟩
  ·omega
  have h2 := setRow_heap w k cur cs t fz hg
  rcases h.block k hk with h1 | ⟨hb, cs1, cs2, t', fz', ht', h1, h3⟩
  ·exact .inr ⟨hB, cur, cs, t, fz, ht, h1 ▸ hg, h2⟩
  rw [hg] at h3
  injection h3 with h3
  injection h3 with _ e1 e2
  subst e1; subst e2
  exact .inr ⟨hB, cs1, cs, t, fz, ht, h1, h2⟩
 rw [hs k e]; exact h.block k hk
theorem heap_setCell_row {w : World} {p : Nat} {cs : Array Value} {t : TypeId} {fz : Nat × Nat} (h : w.heap[p]? = some (.cells cs t fz)) (j : Nat) (u : Value) : w.setCell ⟨p, j, none⟩ u = w.setRow p (cs.setIfInBounds j u) := by
 simp only [World.setCell, World.setRow]
 congr 1
 apply Array.ext_getElem?
 intro i
 simp only [Array.getElem?_modify]
 by_cases hi : p = i
 ·subst hi
  simp [h]
 simp [hi]
theorem Fr.setCell {B : Nat} {ts : List TypeId} {a w : World} (h : Fr B ts a w) {g : Nat} {cur : Array Value} {t : TypeId} {fz : Nat × Nat} (hg : w.heap[g]? = some (.cells cur t fz)) (hB : a.heap.size <= g ∨ (B <= g /\ t ∈ ts)) (j : Nat) (u : Value) : Fr B ts a (w.setCell ⟨g, j, none⟩ u) := by
 rw [heap_setCell_row hg]
 exact h.setRow hg hB _
theorem run_append_fr {P : Program} (w : World) (base : Nat) (t tx ty e : TypeId) (i : TypeInfo) (z : Value) (size bytes : Nat) (ht : P.underlying t = some (.slice e)) (hi : P.info? e = some i) (hz : i.zero = some z)
  (hsize : i.size = size) (hby : i.bytes = bytes) (hzs : z.cells.size = size)
  (v : Value) (n : Nat) (xs : List Value) (hown : w.ownsRow base e size v n xs)
  (x : Value) (m : Nat) (news : List Value) (hsrc : Src P size tx x m news w)
  (h63 : n + m <= maxLen) (hbytes : (n + m) * bytes <= 140737488355328) (hbase : base <= w.heap.size) :
  ∃ v' w', (Builtin.append_ #[t, tx] ty #[v, x]).run P w = .ok v' w' /\ w'.ownsRow base e size v' (n + m) (xs ++ news) /\ Fr base [e] w w' /\ w.grownBy w' v.ownBlock := by
 subst hsize
 subst hby
 have hsmall : n + m <= 9223372036854775807 := by simp only [maxLen] at h63; omega
 have hlen : (xs ++ news).length = (n + m) * i.size := by rw [List.length_append, hown.1, hsrc.newsLen, Nat.add_mul]
 have grown : ∀ (old : Nat), old < n + m ->
   (w.drew.alloc (.cells ((xs ++ news).toArray ++ Builtin.zeroCells z.cells (grownCap w (n + m) old e - (n + m))) e)).ownsRow base e i.size
    (.slice (some ⟨w.heap.size, 0, none⟩) (n + m) (grownCap w (n + m) old e)) (n + m) (xs ++ news) /\
   Fr base [e] w (w.drew.alloc (.cells ((xs ++ news).toArray ++ Builtin.zeroCells z.cells (grownCap w (n + m) old e - (n + m))) e)) /\
   ∀ row, w.grownBy (w.drew.alloc (.cells ((xs ++ news).toArray ++ Builtin.zeroCells z.cells (grownCap w (n + m) old e - (n + m))) e)) row := by
  intro old ho
  have hge := grownCap_ge w (n + m) old e
  have hcm : grownCap w (n + m) old e <= maxLen := grownCap_le_maxLen w (n + m) old e h63
  refine ⟨⟨hlen, .inr ⟨w.heap.size, _, _, rfl, hbase, heap_alloc_new w.drew _, hge, hcm, ?_, ?_⟩⟩, (Fr.refl _ _ _).drew.alloc _, fun row => ⟨rfl, rfl, rfl, by simp, fun k hk _ => Below.heap_alloc w.drew _ k hk⟩⟩
  ·simp only [Array.size_append, List.size_toArray, size_zeroCells, hzs, hlen, <- Nat.add_mul]
   congr 1
   omega
  ·simp only [Array.toList_append, <- hlen]
   exact List.take_left
 rcases hown.2 with ⟨rfl, rfl⟩ | ⟨g, cap, cur, rfl, hbg, hg, hnc, hcm, hcs, htake⟩
 ·have hx : xs = [] := List.eq_nil_of_length_eq_zero (by simpa using hown.1)
  subst hx
  by_cases hm : m = 0
  ·subst hm
   have hn : news = [] := List.eq_nil_of_length_eq_zero (by simpa using hsrc.newsLen)
   subst hn
   refine ⟨.slice none 0 0, w, ?_, World.ownsRow_nil w base e i.size, Fr.refl _ _ _, World.grownBy.refl w _⟩
   have hf1 := hsrc.cells
   rcases hsrc.kind with ⟨e', hk⟩ | hk <;>
    simp [Builtin.append_, run_underlying ht, run_underlying hk, sizeOf, typeInfo, hi, hsrc.len, hf1]
  have hr := run_append_grow_src (P := P) w t tx ty e i z ht hi hz none 0 0 [] (run_firstCells_none w.drew i.size 0 0 0) x m news hsrc (by omega) (by omega) (growslice_fits (by omega) hbytes)
  have hgr := grown 0 (by omega)
  exact ⟨_, _, hr, hgr.1, hgr.2.1, hgr.2.2 _⟩
 ·by_cases hroom : n + m <= cap
  ·have hnl := hsrc.newsLen
   have hfit : n * i.size + news.length <= cur.size := by rw [hnl, hcs, <- Nat.add_mul]; exact Nat.mul_le_mul_right _ hroom
   have hst := run_storeCells_at P g (n * i.size) e news 0 cur w hg (by simpa using hfit) hsrc.one
   simp only [Nat.add_zero] at hst
   have hr : (Builtin.append_ #[t, tx] ty #[.slice (some ⟨g, 0, none⟩) n cap, x]).run P w =
     .ok (.slice (some ⟨g, 0, none⟩) (n + m) cap) (w.setRow g (cur.toList.take (n * i.size) ++ news ++ cur.toList.drop (n * i.size + news.length)).toArray) := by
    rcases hsrc.kind with ⟨e', hk⟩ | hk <;>
     simp [Builtin.append_, run_underlying ht, run_underlying hk, sizeOf, typeInfo, hi, hsrc.len, hroom, hsrc.cells, Addr.add_lit, hst]
   refine ⟨_, _, hr, ⟨hlen, .inr ⟨g, cap, _, rfl, hbg, setRow_heap w g cur _ e _ hg, hroom, hcm, ?_, ?_⟩⟩, (Fr.refl _ _ w).setRow hg (.inr ⟨hbg, by simp⟩) _, ⟨rfl, rfl, rfl, by simp, fun k _ hk => setRow_other w g k _ (fun e => hk (by simp [Value.ownBlock, e]))⟩⟩
   ·simp only [List.size_toArray, List.length_append, List.length_take, List.length_drop, Array.length_toList]
    omega
   rw [htake, <- hlen]
   exact List.take_left
  have holds : ∀ j u, xs[j]? = some u -> w.drew.cell? ((⟨g, 0, none⟩ : Addr).add j) = some u := World.ownsRow.cells (w := w) hown (g := g) rfl
  have hr := run_append_grow_src (P := P) w t tx ty e i z ht hi hz (some ⟨g, 0, none⟩) n cap xs (run_firstCells_some w.drew i.size n _ n cap xs hown.1 holds) x m news hsrc (by omega) (by omega) (growslice_fits (by omega) hbytes)
  have hgr := grown cap (by omega)
  exact ⟨_, _, hr, hgr.1, hgr.2.1, hgr.2.2 _⟩
theorem wp_append_fr {P : Program} (w : World) {o : Oper} {a : Act} {K : Act -> World -> Prop} {Q : Exit -> Act -> World -> Prop} (s x : Operand) (t tx : TypeId)
  (ho : o.op = .call { callee := .builtin .append, args := #[s, x], argTypes := #[t, tx] })
  (base : Nat) (e : TypeId) (i : TypeInfo) (z : Value) (size bytes : Nat) (ht : P.underlying t = some (.slice e)) (hi : P.info? e = some i) (hz : i.zero = some z)
  (hsize : i.size = size) (hby : i.bytes = bytes) (hzs : z.cells.size = size)
  (v : Value) (n : Nat) (xs : List Value) (hs : a.eval s = v) (hown : w.ownsRow base e size v n xs)
  (xv : Value) (m : Nat) (news : List Value) (hx : a.eval x = xv) (hsrc : Src P size tx xv m news w)
  (h63 : n + m <= maxLen) (hbytes : (n + m) * bytes <= 140737488355328) (hbase : base <= w.heap.size)
  (h : ∀ v' w', w'.ownsRow base e size v' (n + m) (xs ++ news) -> Fr base [e] w w' -> w.grownBy w' v.ownBlock -> K (a.put o.dst v') w') : o.wp P a w K Q := by
 obtain ⟨v', w', hr, h2, h3, h4⟩ := run_append_fr (P := P) w base t tx o.type e i z size bytes ht hi hz hsize hby hzs v n xs hown xv m news hsrc h63 hbytes hbase
 unfold Oper.wp execOp
 simp only [ho, resolve, invoke, builtin, Sem.run_bind, Sem.run_pure, Result.andThen_ok, List.map_toArray, List.map_cons, List.map_nil, hs, hx, hr]
 exact h v' w' h2 h3 h4
theorem wpList_append_fr {P : Program} (w : World) {ops : Array Oper} {rest : List Oper} {o : Oper} {a : Act} {Q : Exit -> Act -> World -> Prop} (hgd : o.guard = none) (s x : Operand) (t tx : TypeId)
  (ho : o.op = .call { callee := .builtin .append, args := #[s, x], argTypes := #[t, tx] })
  (base : Nat) (e : TypeId) (i : TypeInfo) (z : Value) (size bytes : Nat) (ht : P.underlying t = some (.slice e)) (hi : P.info? e = some i) (hz : i.zero = some z)
  (hsize : i.size = size) (hby : i.bytes = bytes) (hzs : z.cells.size = size)
  (v : Value) (n : Nat) (xs : List Value) (hs : a.eval s = v) (hown : w.ownsRow base e size v n xs)
  (xv : Value) (m : Nat) (news : List Value) (hx : a.eval x = xv) (hsrc : Src P size tx xv m news w)
  (h63 : n + m <= maxLen) (hbytes : (n + m) * bytes <= 140737488355328) (hbase : base <= w.heap.size)
  (h : ∀ v' w', w'.ownsRow base e size v' (n + m) (xs ++ news) -> Fr base [e] w w' -> w.grownBy w' v.ownBlock -> wpList P ops Q rest (a.put o.dst v') w') : wpList P ops Q (o :: rest) a w :=
 wpList_plain hgd fun _ hK => wp_append_fr w s x t tx ho base e i z size bytes ht hi hz hsize hby hzs v n xs hs hown xv m news hx hsrc h63 hbytes hbase fun v' w' h2 h3 h4 => hK _ _ (h v' w' h2 h3 h4)
theorem step_append_fr {P : Program} (w : World) {ops : Array Oper} {o : Oper} {a : Act} {K : Act -> World -> Prop} {Q : Exit -> Act -> World -> Prop} {E : Prop} (hgd : o.guard = none) (s x : Operand) (t tx : TypeId)
  (ho : o.op = .call { callee := .builtin .append, args := #[s, x], argTypes := #[t, tx] })
  (base : Nat) (e : TypeId) (i : TypeInfo) (z : Value) (size bytes : Nat) (ht : P.underlying t = some (.slice e)) (hi : P.info? e = some i) (hz : i.zero = some z)
  (hsize : i.size = size) (hby : i.bytes = bytes) (hzs : z.cells.size = size)
  (v : Value) (n : Nat) (xs : List Value) (hs : a.eval s = v) (hown : w.ownsRow base e size v n xs)
  (xv : Value) (m : Nat) (news : List Value) (hx : a.eval x = xv) (hsrc : Src P size tx xv m news w)
  (h63 : n + m <= maxLen) (hbytes : (n + m) * bytes <= 140737488355328) (hbase : base <= w.heap.size)
  (h : ∀ v' w', w'.ownsRow base e size v' (n + m) (xs ++ news) -> Fr base [e] w w' -> w.grownBy w' v.ownBlock -> K (a.put o.dst v') w') :
  if Region.wanted o (yielded ops a.tmps) = true then Oper.wp P o a w K Q else E := by
 have hw : Region.wanted o (yielded ops a.tmps) = true := by simp [Region.wanted, hgd]
 rw [if_pos hw]
 exact wp_append_fr w s x t tx ho base e i z size bytes ht hi hz hsize hby hzs v n xs hs hown xv m news hx hsrc h63 hbytes hbase h
theorem foldl_fill (cells : List Value) : ∀ (k : Nat) (Z : Array Value), k + cells.length = Z.size ->
  ((cells.zipIdx k).foldl (fun cs x => cs.setIfInBounds x.2 x.1) Z).toList = Z.toList.take k ++ cells := by
 induction cells with
 | nil => intro k Z h; simp at h; subst h; simp only [List.zipIdx_nil, List.foldl_nil, List.append_nil]; exact (List.take_of_length_le (by simp)).symm
 | cons c r ih =>
  intro k Z h
  simp only [List.length_cons] at h
  rw [List.zipIdx_cons, List.foldl_cons, ih (k + 1) _ (by simp; omega)]
  rw [Array.toList_setIfInBounds, List.take_set, List.take_add_one]
  have hk : k < Z.toList.length := by simp; omega
  rw [List.getElem?_eq_getElem hk]
  simp only [Option.toList_some]
  have e : (List.take k Z.toList).length = k := by simp; omega
  rw [List.set_append_right _ _ (by omega), e, Nat.sub_self]
  simp
theorem run_buildSlice_one {P : Program} (w : World) (t e : TypeId) (i : TypeInfo) (z : Value) (size : Nat) (ht : P.underlying t = some (.slice e)) (hi : P.info? e = some i) (hz : i.zero = some z) (hs : i.size = size) (h0 : 0 < size) (hb : size <= 16777216)
  (cells : List Value) (hl : cells.length = size) :
  (Instr.buildSlice t 1 #[(0, .agg cells.toArray)]).run P w = .ok (.slice (some ⟨w.heap.size, 0, none⟩) 1 1) (w.alloc (.cells cells.toArray e)) := by
 subst hs
 have n1 : ¬ (16777216 < i.size) := by omega
 have n2 : ¬ (i.size = 0) := by omega
 have hf : ∀ Z : Array Value, Z.size = i.size -> Instr.fill (fun k => some (k * i.size, i.size)) Z [(0, Value.agg cells.toArray)] = some cells.toArray := by
  intro Z hZ
  have hc : (Value.agg cells.toArray).cells = cells.toArray := rfl
  simp only [Instr.fill, hc, List.size_toArray, hl, ne_eq, not_true_eq_false, Nat.zero_mul, Nat.zero_add, hZ, decide_false, Bool.false_or, gt_iff_lt, Nat.lt_irrefl]
  rw [if_neg (by decide)]
  congr 1
  apply Array.ext'
  have := foldl_fill cells 0 Z (by omega)
  simpa [<- Array.foldl_toList] using this
 simp [Instr.buildSlice, run_underlying ht, sizeOf, typeInfo, zeroValue, hi, hz, n1, n2, hf, newRow]
theorem xqo {P : Program} (w : World) {ops : Array Oper} {o : Oper} {a : Act} {K : Act -> World -> Prop} {Q : Exit -> Act -> World -> Prop} {E : Prop} (hgd : o.guard = none) (t : TypeId) (x : Operand) (ho : o.op = .buildSlice t 1 #[(0, x)])
  (e : TypeId) (i : TypeInfo) (z : Value) (size : Nat) (ht : P.underlying t = some (.slice e)) (hi : P.info? e = some i) (hz : i.zero = some z) (hs : i.size = size) (h0 : 0 < size) (hb : size <= 16777216)
  (cells : List Value) (hx : a.eval x = .agg cells.toArray) (hl : cells.length = size)
  (h : K (a.put o.dst (.slice (some ⟨w.heap.size, 0, none⟩) 1 1)) (w.alloc (.cells cells.toArray e))) :
  if Region.wanted o (yielded ops a.tmps) = true then Oper.wp P o a w K Q else E := by
 have hw : Region.wanted o (yielded ops a.tmps) = true := by simp [Region.wanted, hgd]
 rw [if_pos hw]
 have hr := run_buildSlice_one (P := P) w t e i z size ht hi hz hs h0 hb cells hl
 unfold Oper.wp execOp
 simp only [ho, List.map_toArray, List.map_cons, List.map_nil, hx, hr, Sem.run_bind, Sem.run_pure, Result.andThen_ok]
 exact h
structure Fo (O : Nat -> Prop) (w w' : World) : Prop where
 os : w'.os = w.os
 tape : w'.tape = w.tape
 output : w'.output = w.output
 size : w.heap.size <= w'.heap.size
 block : ∀ k, k < w.heap.size -> ¬ O k -> w'.heap[k]? = w.heap[k]?
theorem Fo.refl (O : Nat -> Prop) (w : World) : Fo O w w := ⟨rfl, rfl, rfl, Nat.le_refl _, fun _ _ _ => rfl⟩
theorem Fo.setCell {O : Nat -> Prop} {a w : World} (h : Fo O a w) {p : Addr} (hp : O p.block ∨ a.heap.size <= p.block) (u : Value) : Fo O a (w.setCell p u) :=
 ⟨h.os, h.tape, h.output, by have := h.size; simp [World.setCell]; omega, fun k hk hn => (Below.heap_setCell w p u k (by rintro rfl; rcases hp with h1 | h1; exact hn h1; omega)).trans (h.block k hk hn)⟩
theorem Fo.heap {O : Nat -> Prop} {w w' : World} (h : Fo O w w') {k : Nat} (hk : ¬ O k) {o : Obj} (ho : w.heap[k]? = some o) : w'.heap[k]? = some o := (h.block k (heap_lt ho) hk).trans ho
theorem run_append_all {P : Program} (w : World) (base : Nat) (t tx ty e : TypeId) (i : TypeInfo) (z : Value) (size bytes : Nat) (ht : P.underlying t = some (.slice e)) (hi : P.info? e = some i) (hz : i.zero = some z)
  (hsize : i.size = size) (hby : i.bytes = bytes) (hzs : z.cells.size = size)
  (v : Value) (n : Nat) (xs : List Value) (hown : w.ownsRow base e size v n xs)
  (x : Value) (m : Nat) (news : List Value) (hsrc : Src P size tx x m news w)
  (h63 : n + m <= maxLen) (hbytes : (n + m) * bytes <= 140737488355328) (hbase : base <= w.heap.size) :
  ∃ v' w', (Builtin.append_ #[t, tx] ty #[v, x]).run P w = .ok v' w' /\ w'.ownsRow base e size v' (n + m) (xs ++ news) /\ Fr base [e] w w' /\ w.grownBy w' v.ownBlock /\
   (v'.ownBlock = v.ownBlock ∨ ∃ g, v'.ownBlock = some g /\ w.heap.size <= g) := by
 obtain ⟨v1, w1, hr1, ho, hf, hg⟩ := run_append_fr (P := P) w base t tx ty e i z size bytes ht hi hz hsize hby hzs v n xs hown x m news hsrc h63 hbytes hbase
 obtain ⟨v2, w2, hr2, _, _, hl, _⟩ := run_append_src (P := P) w base t tx ty e i z size bytes ht hi hz hsize hby hzs v n xs hown x m news hsrc h63 hbytes hbase
 rw [hr1] at hr2
 simp only [Result.ok.injEq] at hr2
 obtain ⟨rfl, rfl⟩ := hr2
 exact ⟨v1, w1, hr1, ho, hf, hg, hl⟩
theorem xqp {P : Program} (w : World) {ops : Array Oper} {rest : List Oper} {o : Oper} {a : Act} {Q : Exit -> Act -> World -> Prop} (hgd : o.guard = none) (s x : Operand) (t tx : TypeId)
  (ho : o.op = .call { callee := .builtin .append, args := #[s, x], argTypes := #[t, tx] })
  (base : Nat) (e : TypeId) (i : TypeInfo) (z : Value) (size bytes : Nat) (ht : P.underlying t = some (.slice e)) (hi : P.info? e = some i) (hz : i.zero = some z)
  (hsize : i.size = size) (hby : i.bytes = bytes) (hzs : z.cells.size = size)
  (v : Value) (n : Nat) (xs : List Value) (hs : a.eval s = v) (hown : w.ownsRow base e size v n xs)
  (xv : Value) (m : Nat) (news : List Value) (hx : a.eval x = xv) (hsrc : Src P size tx xv m news w)
  (h63 : n + m <= maxLen) (hbytes : (n + m) * bytes <= 140737488355328) (hbase : base <= w.heap.size)
  (h : ∀ v' w', w'.ownsRow base e size v' (n + m) (xs ++ news) -> Fr base [e] w w' -> w.grownBy w' v.ownBlock -> (v'.ownBlock = v.ownBlock ∨ ∃ g, v'.ownBlock = some g /\ w.heap.size <= g) -> wpList P ops Q rest (a.put o.dst v') w') :
  wpList P ops Q (o :: rest) a w := by
 refine wpList_plain hgd fun K hK => ?_
 obtain ⟨v', w', hr, h2, h3, h4, h5⟩ := run_append_all (P := P) w base t tx o.type e i z size bytes ht hi hz hsize hby hzs v n xs hown xv m news hsrc h63 hbytes hbase
 unfold Oper.wp
 simp [execOp, ho, resolve, invoke, builtin, hs, hx, hr, Result.andThen]
 exact hK _ _ (h v' w' h2 h3 h4 h5)
theorem xqn {P : Program} (w : World) {ops : Array Oper} {o : Oper} {a : Act} {K : Act -> World -> Prop} {Q : Exit -> Act -> World -> Prop} {E : Prop} (hgd : o.guard = none) (s x : Operand) (t tx : TypeId)
  (ho : o.op = .call { callee := .builtin .append, args := #[s, x], argTypes := #[t, tx] })
  (base : Nat) (e : TypeId) (i : TypeInfo) (z : Value) (size bytes : Nat) (ht : P.underlying t = some (.slice e)) (hi : P.info? e = some i) (hz : i.zero = some z)
  (hsize : i.size = size) (hby : i.bytes = bytes) (hzs : z.cells.size = size)
  (v : Value) (n : Nat) (xs : List Value) (hs : a.eval s = v) (hown : w.ownsRow base e size v n xs)
  (xv : Value) (m : Nat) (news : List Value) (hx : a.eval x = xv) (hsrc : Src P size tx xv m news w)
  (h63 : n + m <= maxLen) (hbytes : (n + m) * bytes <= 140737488355328) (hbase : base <= w.heap.size)
  (h : ∀ v' w', w'.ownsRow base e size v' (n + m) (xs ++ news) -> Fr base [e] w w' -> w.grownBy w' v.ownBlock -> (v'.ownBlock = v.ownBlock ∨ ∃ g, v'.ownBlock = some g /\ w.heap.size <= g) -> K (a.put o.dst v') w') :
  if Region.wanted o (yielded ops a.tmps) = true then Oper.wp P o a w K Q else E := by
 have hw : Region.wanted o (yielded ops a.tmps) = true := by simp [Region.wanted, hgd]
 rw [if_pos hw]
 obtain ⟨v', w', hr, h2, h3, h4, h5⟩ := run_append_all (P := P) w base t tx o.type e i z size bytes ht hi hz hsize hby hzs v n xs hown xv m news hsrc h63 hbytes hbase
 unfold Oper.wp
 simp [execOp, ho, resolve, invoke, builtin, hs, hx, hr, Result.andThen]
 exact h v' w' h2 h3 h4 h5
structure Enc (α : Type) where
 k : Nat
 cs : α -> Array Value
 size : ∀ x, (cs x).size = k
 one : ∀ x, ∀ u ∈ (cs x).toList, u.oneCell' = true
 pos : 0 < k
variable {α : Type} (E : Enc α)
def kcs : List α -> List Value
 | [] => []
 | x :: t => (E.cs x).toList ++ kcs t
theorem kcs_length (l : List α) : (kcs E l).length = l.length * E.k := by
 induction l with
 | nil => simp [kcs]
 | cons x t ih => rw [kcs, List.length_append, ih, List.length_cons, Array.length_toList, E.size, Nat.succ_mul, Nat.add_comm]
theorem xqv (l m : List α) : kcs E (l ++ m) = kcs E l ++ kcs E m := by
 induction l with
 | nil => rfl
 | cons x t ih => rw [List.cons_append, kcs, kcs, ih, List.append_assoc]
theorem xqu (x : α) : kcs E [x] = (E.cs x).toList := by simp [kcs]
theorem kcs_get (l : List α) : ∀ (i j : Nat) (h : i < l.length), j < E.k -> (kcs E l)[i * E.k + j]? = (E.cs l[i])[j]? := by
 induction l with
 | nil => intro i j h; simp at h
 | cons x t ih =>
 intro i j h hj
 rw [kcs]
 cases i with
 | zero =>
 rw [Nat.zero_mul, Nat.zero_add, List.getElem?_append_left (by rw [Array.length_toList, E.size]; exact hj), Array.getElem?_toList]
 rfl
 | succ i =>
 have e : (i + 1) * E.k + j - E.k = i * E.k + j := by rw [Nat.succ_mul]; omega
 rw [List.getElem?_append_right (by rw [Array.length_toList, E.size, Nat.succ_mul]; omega), Array.length_toList, E.size, e]
 exact ih i j (by simpa using h) hj
theorem kcs_some (l : List α) (j : Nat) (h : j < l.length * E.k) : ∃ u, (kcs E l)[j]? = some u := ⟨_, List.getElem?_eq_getElem (by rw [kcs_length]; exact h)⟩
theorem at_lt {n i j k : Nat} (hi : i < n) (hj : j < k) : i * k + j < n * k := by
 have : (i + 1) * k <= n * k := Nat.mul_le_mul_right k hi
 rw [Nat.succ_mul] at this
 omega
def RdK (w : World) (v : Value) (l : List α) : Prop :=
 ∃ a c, v = .slice a l.length c /\ l.length <= c /\ (a = none -> c = 0) /\
  (l ≠ [] -> ∃ b o, a = some ⟨b, o, none⟩ /\ ∀ j, j < l.length * E.k -> w.cell? ⟨b, o + j, none⟩ = (kcs E l)[j]?)
variable {E}
theorem RdK.nil (w : World) : RdK E w (.slice none 0 0) [] := ⟨none, 0, rfl, Nat.le_refl _, fun _ => rfl, fun h => absurd rfl h⟩
theorem RdK.kept {w w' : World} {v : Value} {l : List α} {bs : List Nat} (h : RdK E w v l) (hk : Kept w w' bs) (hb : ∀ b, v.ownBlock = some b -> b ∉ bs) : RdK E w' v l := by
 obtain ⟨a, c, rfl, hc, ha, hl⟩ := h
 refine ⟨a, c, rfl, hc, ha, fun hne => ?_⟩
 obtain ⟨b, o, rfl, hcell⟩ := hl hne
 refine ⟨b, o, rfl, fun j hj => ?_⟩
 obtain ⟨u, hu⟩ := kcs_some E l j hj
 have h1 := hcell j hj
 rw [hu] at h1 ⊢
 exact hk.cell (p := ⟨b, o + j, none⟩) (hb b rfl) h1
theorem RdK.keep {w w' : World} {v : Value} {l : List α} (h : RdK E w v l) (hk : Kept w w' []) : RdK E w' v l := h.kept hk (by simp)
theorem RdK.shape {w : World} {v : Value} {l : List α} (h : RdK E w v l) : ∃ a c, v = .slice a l.length c := by
 obtain ⟨a, c, h, _⟩ := h
 exact ⟨a, c, h⟩
theorem RdK.at {w : World} {a : Option Addr} {n c : Nat} {l : List α} (h : RdK E w (.slice a n c) l) {i : Nat} {x : α} (hx : l[i]? = some x) : ∃ b o, a = some ⟨b, o, none⟩ /\ ∀ j, j < E.k -> w.cell? ⟨b, o + i * E.k + j, none⟩ = (E.cs x)[j]? := by
 obtain ⟨hi, rfl⟩ := List.getElem?_eq_some_iff.1 hx
 obtain ⟨a', c', hv, _, _, hl⟩ := h
 simp only [Value.slice.injEq] at hv
 obtain ⟨rfl, _, _⟩ := hv
 obtain ⟨b, o, rfl, hcell⟩ := hl (by rintro rfl; simp at hi)
 refine ⟨b, o, rfl, fun j hj => ?_⟩
 rw [<- kcs_get E l i j hi hj, Nat.add_assoc]
 exact hcell _ (at_lt hi hj)
theorem RdK.here {w : World} {b o n c : Nat} {l : List α} (h : RdK E w (.slice (some ⟨b, o, none⟩) n c) l) {i : Nat} {x : α} (hx : l[i]? = some x) (j : Nat) (hj : j < E.k) : w.cell? ⟨b, o + i * E.k + j, none⟩ = (E.cs x)[j]? := by
 obtain ⟨b', o', e, f⟩ := h.at hx
 simp only [Option.some.injEq, Addr.mk.injEq] at e
 obtain ⟨rfl, rfl, _⟩ := e
 exact f j hj
theorem xqI {P : Program} (w : World) (x : α) {tx e' t : TypeId} (hk : P.underlying tx = some (.slice e')) : Src P E.k tx (.slice (some ⟨w.heap.size, 0, none⟩) 1 1) 1 (E.cs x).toList (w.alloc (.cells (E.cs x) t)) := by
 refine Src.ofSlice _ hk ⟨w.heap.size, 0, none⟩ 1 1 _ (by rw [Array.length_toList, E.size, Nat.one_mul]) (fun j u hu => ?_) (E.one x)
 rw [Addr.add_lit, cell_of_row _ _ _ _ _ _ (heap_alloc_new w (.cells (E.cs x) t)), Nat.zero_add]
 simpa using hu
variable (E) in
def OwnK (w : World) (base : Nat) (e : TypeId) (v : Value) (l : List α) : Prop := w.ownsRow base e E.k v l.length (kcs E l)
theorem OwnK.nil (w : World) (base : Nat) (e : TypeId) : OwnK E w base e (.slice none 0 0) [] := World.ownsRow_nil w base e E.k
theorem OwnK.rd {w : World} {base : Nat} {e : TypeId} {v : Value} {l : List α} (h : OwnK E w base e v l) : RdK E w v l := by
 rcases h.2 with ⟨rfl, hn⟩ | ⟨g, cap, cur, rfl, hb, hg, hnc, hcm, hcs, ht⟩
 ·have : l = [] := List.eq_nil_of_length_eq_zero hn
  subst this
  exact RdK.nil w
 refine ⟨some ⟨g, 0, none⟩, cap, rfl, hnc, by simp, fun _ => ⟨g, 0, rfl, fun j hj => ?_⟩⟩
 obtain ⟨u, hu⟩ := kcs_some E l j hj
 have := World.ownsRow.cells h (g := g) rfl j u hu
 rw [hu]
 simpa [Addr.add_lit] using this
theorem OwnK.kept {w w' : World} {base : Nat} {e : TypeId} {v : Value} {l : List α} {bs : List Nat} (h : OwnK E w base e v l) (hk : Kept w w' bs) (hb : ∀ b, v.ownBlock = some b -> b ∉ bs) : OwnK E w' base e v l := by
 refine ⟨h.1, ?_⟩
 rcases h.2 with h2 | ⟨g, cap, cur, rfl, hbg, hg, rest⟩
 ·exact .inl h2
 exact .inr ⟨g, cap, cur, rfl, hbg, hk.heap (hb g rfl) hg, rest⟩
theorem OwnK.keep {w w' : World} {base : Nat} {e : TypeId} {v : Value} {l : List α} (h : OwnK E w base e v l) (hk : Kept w w' []) : OwnK E w' base e v l := h.kept hk (by simp)
theorem OwnK.mono {w : World} {base base' : Nat} {e : TypeId} {v : Value} {l : List α} (h : OwnK E w base e v l) (hb : base' <= base) : OwnK E w base' e v l := by
 refine ⟨h.1, ?_⟩
 rcases h.2 with h2 | ⟨g, cap, cur, rfl, hbg, r⟩
 ·exact .inl h2
 exact .inr ⟨g, cap, cur, rfl, by omega, r⟩
theorem OwnK.lt {w : World} {base : Nat} {e : TypeId} {v : Value} {l : List α} (h : OwnK E w base e v l) : ∀ b, v.ownBlock = some b -> base <= b /\ b < w.heap.size := World.ownsRow.lt h
theorem OwnK.shape {w : World} {base : Nat} {e : TypeId} {v : Value} {l : List α} (h : OwnK E w base e v l) : ∃ a c, v = .slice a l.length c := h.rd.shape
theorem OwnK.tag {w : World} {base : Nat} {e : TypeId} {v : Value} {m : List α} (x : OwnK E w base e v m) {g : Nat} (hk : v.ownBlock = some g) : ∃ cur, w.heap[g]? = some (.cells cur e (0, 0)) := by
 rcases x.2 with ⟨rfl, _⟩ | ⟨g, cap, cur, rfl, _, hg, _⟩
 ·simp [Value.ownBlock] at hk
 simp only [Value.ownBlock, Option.some.injEq] at hk
 subst hk
 exact ⟨cur, hg⟩
def putAll (w : World) (g : Nat) : Nat -> List Value -> World
 | _, [] => w
 | o, u :: r => putAll (w.setCell ⟨g, o, none⟩ u) g (o + 1) r
theorem heap_putAll {g : Nat} {t : TypeId} {fz : Nat × Nat} (us : List Value) : ∀ (w : World) (o : Nat) (cs : Array Value), w.heap[g]? = some (.cells cs t fz) -> o + us.length <= cs.size ->
  ∃ cs', (putAll w g o us).heap[g]? = some (.cells cs' t fz) /\ cs'.size = cs.size /\ cs'.toList = cs.toList.take o ++ us ++ cs.toList.drop (o + us.length) := by
 induction us with
 | nil => intro w o cs h _; exact ⟨cs, h, rfl, by simp⟩
 | cons u r ih =>
  intro w o cs h hl
  simp only [List.length_cons] at hl
  have h1 := xqa h o u
  obtain ⟨cs', h2, h3, h4⟩ := ih (w.setCell ⟨g, o, none⟩ u) (o + 1) _ h1 (by simpa using (by omega : o + 1 + r.length <= cs.size))
  refine ⟨cs', h2, by rw [h3]; simp, ?_⟩
  have hlt : o < cs.toList.length := by rw [Array.length_toList]; omega
  rw [h4, Array.toList_setIfInBounds, List.length_cons]
  have e1 : (cs.toList.set o u).take (o + 1) = cs.toList.take o ++ [u] := by
   rw [List.set_eq_take_append_cons_drop, if_pos hlt, List.take_append, List.length_take, Nat.min_eq_left (by omega), show o + 1 - o = 1 by omega, List.take_of_length_le (by rw [List.length_take]; omega)]
   simp
  have e2 : (cs.toList.set o u).drop (o + 1 + r.length) = cs.toList.drop (o + (r.length + 1)) := by
   rw [List.drop_set, if_pos (by omega), show o + 1 + r.length = o + (r.length + 1) by omega]
  rw [e1, e2]
  simp
theorem putAll_kept {bs : List Nat} {a : World} {g : Nat} (us : List Value) : ∀ (w : World) (o : Nat), Kept a w bs -> (g ∈ bs ∨ a.heap.size <= g) -> Kept a (putAll w g o us) bs := by
 induction us with
 | nil => intro w o h _; exact h
 | cons u r ih => intro w o h hg; exact ih _ _ (h.setCell (p := ⟨g, o, none⟩) hg u) hg
def RdI (w : World) (v : Value) (l : List Int) : Prop :=
 ∃ a c, v = .slice a l.length c /\ l.length <= c /\ c <= maxLen /\ (a = none -> c = 0) /\
  (l ≠ [] -> ∃ b o, a = some ⟨b, o, none⟩ /\ ∀ i, i < l.length -> w.cell? ⟨b, o + i, none⟩ = some (.int .i64 (l.getD i 0)))
theorem RdI.kept {w w' : World} {v : Value} {l : List Int} {bs : List Nat} (h : RdI w v l) (hk : Kept w w' bs) (hb : ∀ b, v.ownBlock = some b -> b ∉ bs) : RdI w' v l := by
 obtain ⟨a, c, rfl, hc, hm, ha, hl⟩ := h
 refine ⟨a, c, rfl, hc, hm, ha, fun hne => ?_⟩
 obtain ⟨b, o, rfl, hcell⟩ := hl hne
 exact ⟨b, o, rfl, fun i hi => hk.cell (p := ⟨b, o + i, none⟩) (hb b rfl) (hcell i hi)⟩
theorem RdI.keep {w w' : World} {v : Value} {l : List Int} (h : RdI w v l) (hk : Kept w w' []) : RdI w' v l := h.kept hk (by simp)
theorem RdI.nil (w : World) : RdI w (.slice none 0 0) [] := ⟨none, 0, rfl, Nat.le_refl _, by unfold maxLen; omega, fun _ => rfl, fun h => absurd rfl h⟩
theorem RdI.len {w : World} {v : Value} {l : List Int} (h : RdI w v l) : l.length <= 9223372036854775807 := by
 obtain ⟨a, c, _, h1, h2, _⟩ := h
 unfold maxLen at h2; omega
theorem mem_take_succ {l : List Int} {k : Nat} {x : Int} (hk : k < l.length) (h1 : x ∉ l.take k) (h2 : l[k] ≠ x) : x ∉ l.take (k + 1) := by
 rw [List.take_succ_eq_append_getElem hk, List.mem_append]
 rintro (h | h)
 ·exact h1 h
 exact h2 (List.mem_singleton.1 h).symm
theorem mem_whole {l : List Int} {k : Nat} {x : Int} (hk : l.length <= k) (h : x ∉ l.take k) : x ∉ l := by
 rwa [List.take_of_length_le hk] at h
theorem retb {a b : Bool} (h : a = b) : Ending.returned (.bool a) = .returned (.bool b) := by rw [h]
theorem has_any (v : Value) (l : List Int) (x : Int) (w : World) (h : RdI w v l) :
  Calls Try.prog 48 #[v, .int .i64 x] w fun e w' => e = .returned (.bool (decide (x ∈ l))) /\ w = w' := by
 have hlen := h.len
 obtain ⟨a, c, rfl, hc, hm, _, hl⟩ := h
 by_cases hne : l = []
 ·subst hne
  clear hl
  go_enter Try.func48, Try.ntmps48
  go_wp2
  go_loop [5] (fun t => t = .int .i64 0) (fun _ => 0)
  case atStart => rfl
  case round =>
  subst hrel
  go_wp2
  go_ret
  exact ⟨retb (by simp), rfl⟩
 ·obtain ⟨b, o, rfl, hcell⟩ := hl hne
  have C := iH hcell
  clear hcell hl
  go_enter Try.func48, Try.ntmps48
  go_wp2
  go_loop [5] (fun t => ∃ k : Nat, t = .int .i64 k /\ k <= l.length /\ x ∉ l.take k) (fun t => l.length - (intOf t).toNat)
  case atStart => exact ⟨0, rfl, Nat.zero_le _, by simp⟩
  case round =>
  obtain ⟨k, rfl, hk, hx⟩ := hrel
  have Hx := iH hx; clear hx
  by_cases hlt : k < l.length
  ·have c1 := C.out k hlt
   have x1 : (k : Int) < (l.length : Int) := by omega
   by_cases he : l[k] = x
   ·have x2 : (l[k] == x) = true := by simpa using he
    have Hm := iH (show x ∈ l by rw [<- he]; exact List.getElem_mem hlt)
    clear he
    go_wp2
    go_ret
    exact ⟨retb (by simp [Hm.out]), rfl⟩
   have x2 : (l[k] == x) = false := by simpa using he
   have He := iH he; clear he
   go_wp2
   go_round
   case rel => exact ⟨k + 1, by go_num, by omega, mem_take_succ hlt Hx.out He.out⟩
   case measure => simp [intOf]; omega
  have x1 : ¬ (k : Int) < (l.length : Int) := by omega
  have Hm := iH (mem_whole (by omega) Hx.out)
  go_wp2
  go_ret
  exact ⟨retb (by simp [Hm.out]), rfl⟩
theorem ints_no {l m : List Int} {k : Nat} (h1 : k < l.length) (h2 : k < m.length) (h : (l[k] != m[k]) = true) : (l == m) = false := by
 rw [beq_eq_false_iff_ne]
 rintro rfl
 simp at h
theorem ints_step {l m : List Int} {k : Nat} (ht : l.take k = m.take k) (h1 : k < l.length) (h2 : k < m.length) (h : (l[k] != m[k]) = false) : l.take (k + 1) = m.take (k + 1) := by
 rw [List.take_succ_eq_append_getElem h1, List.take_succ_eq_append_getElem h2, ht]
 have : l[k] = m[k] := by simpa using h
 rw [this]
theorem ints_whole {l m : List Int} {k : Nat} (h1 : l.length <= k) (h2 : l.length = m.length) (h : l.take k = m.take k) : (l == m) = true := by
 rw [List.take_of_length_le h1, List.take_of_length_le (by omega)] at h
 simpa using h
theorem ints_any (va vb : Value) (l m : List Int) (w : World) (ha : RdI w va l) (hb : RdI w vb m) :
  Calls Try.prog 70 #[va, vb] w fun e w' => e = .returned (.bool (l == m)) /\ Kept w w' [] := by
 have hlen1 := ha.len; have hlen2 := hb.len
 obtain ⟨a, c, rfl, hc, _, _, hla⟩ := ha
 obtain ⟨b, d, rfl, hd, _, _, hlb⟩ := hb
 by_cases hlen : l.length = m.length
 ·by_cases hne : l = []
  ·subst hne
   obtain rfl : m = [] := List.eq_nil_of_length_eq_zero (by simpa using hlen.symm)
   clear hla hlb hlen
   go_enter Try.func70, Try.ntmps70
   go_wp2
   go_loop [5] (fun t => t = .int .i64 0) (fun _ => 0)
   case atStart => rfl
   case round =>
   subst hrel
   go_wp2
   go_ret
   exact ⟨retb (by simp), Kept.refl _ _⟩
  obtain ⟨ab, ao, rfl, hca⟩ := hla hne
  obtain ⟨bb, bo, rfl, hcb⟩ := hlb (by rintro rfl; exact hne (List.eq_nil_of_length_eq_zero (by simpa using hlen)))
  have Hl := iH hlen
  have h1 : ((l.length : Int) != (m.length : Int)) = false := by simp; omega
  have h2 : m.length <= l.length := by omega
  have h3 : l.length <= m.length := by omega
  have Ca := iH hca; have Cb := iH hcb
  clear hca hcb hla hlb hlen
  go_enter Try.func70, Try.ntmps70
  go_wp2
  go_loopw [5] (fun t wr => ∃ k : Nat, k <= l.length /\ t = .int .i64 k /\ l.take k = m.take k /\ ∃ q, wr = w.drewN q) (fun t _ => l.length - (intOf t).toNat)
  case atStart => exact ⟨0, Nat.zero_le _, rfl, rfl, 0, rfl⟩
  case round =>
  obtain ⟨k, hk, rfl, heq, q, rfl⟩ := hrel
  have He := iH heq; clear heq
  by_cases hlt : k < l.length
  ·have c1 := Ca.out k hlt
   have c2 := Cb.out k (by omega)
   have hltm : k < m.length := by omega
   have x1 : (k : Int) < (l.length : Int) := by omega
   have x2 : (k : Int) < (m.length : Int) := by omega
   go_wp2
   go_quiet (fail)
   go_wp2
   ·go_ret
    exact ⟨retb (ints_no hlt hltm (by assumption)).symm, ((Kept.refl w []).drewN _).drewN _⟩
   go_roundw
   case rel => exact ⟨k + 1, by omega, by go_num, ints_step He.out hlt hltm (by assumption), q + nq, rfl⟩
   case measure => simp [intOf]; omega
  have x1 : ¬ (k : Int) < (l.length : Int) := by omega
  have Hf := iH (ints_whole (by omega) Hl.out He.out)
  go_wp2
  go_ret
  exact ⟨retb Hf.out.symm, (Kept.refl w []).drewN _⟩
 ·have h0 : (l == m) = false := by rw [beq_eq_false_iff_ne]; rintro rfl; exact hlen rfl
  have h1 : ((l.length : Int) != (m.length : Int)) = true := by rw [bne_iff_ne]; omega
  have H0 := iH h0; clear h0 hla hlb
  go_enter Try.func70, Try.ntmps70
  go_wp2
  go_ret
  exact ⟨retb (by rw [H0.out]), Kept.refl _ _⟩
theorem equal_any (va vb : Value) (l m : List Int) (w : World) (ha : RdI w va l) (hb : RdI w vb m) :
  Calls Try.prog 69 #[va, vb] w fun e w' => e = .returned (.bool (l == m)) /\ Kept w w' [] := by
 have hlen1 := ha.len; have hlen2 := hb.len
 obtain ⟨a, c, rfl, hc, _, _, hla⟩ := ha
 obtain ⟨b, d, rfl, hd, _, _, hlb⟩ := hb
 by_cases hlen : l.length = m.length
 ·by_cases hne : l = []
  ·subst hne
   obtain rfl : m = [] := List.eq_nil_of_length_eq_zero (by simpa using hlen.symm)
   clear hla hlb hlen
   go_enter Try.func69, Try.ntmps69
   go_wp2
   go_loop [13] (fun t => t = .int .i64 0) (fun _ => 0)
   case atStart => rfl
   case round =>
   subst hrel
   go_wp2
   go_ret
   exact ⟨retb (by simp), Kept.refl _ _⟩
  obtain ⟨ab, ao, rfl, hca⟩ := hla hne
  obtain ⟨bb, bo, rfl, hcb⟩ := hlb (by rintro rfl; exact hne (List.eq_nil_of_length_eq_zero (by simpa using hlen)))
  have Hl := iH hlen
  have h1 : ((l.length : Int) != (m.length : Int)) = false := by simp; omega
  have h2 : m.length <= l.length := by omega
  have h3 : l.length <= m.length := by omega
  have Ca := iH hca; have Cb := iH hcb
  clear hca hcb hla hlb hlen
  go_enter Try.func69, Try.ntmps69
  go_wp2
  go_loopw [13] (fun t wr => ∃ k : Nat, k <= l.length /\ t = .int .i64 k /\ l.take k = m.take k /\ ∃ q, wr = w.drewN q) (fun t _ => l.length - (intOf t).toNat)
  case atStart => exact ⟨0, Nat.zero_le _, rfl, rfl, 0, rfl⟩
  case round =>
  obtain ⟨k, hk, rfl, heq, q, rfl⟩ := hrel
  have He := iH heq; clear heq
  by_cases hlt : k < l.length
  ·have c1 := Ca.out k hlt
   have c2 := Cb.out k (by omega)
   have hltm : k < m.length := by omega
   have x1 : (k : Int) < (l.length : Int) := by omega
   have x2 : (k : Int) < (m.length : Int) := by omega
   go_wp2
   go_quiet (fail)
   go_wp2
   ·go_ret
    exact ⟨retb (ints_no hlt hltm (by assumption)).symm, ((Kept.refl w []).drewN _).drewN _⟩
   go_roundw
   case rel => exact ⟨k + 1, by omega, by go_num, ints_step He.out hlt hltm (by assumption), q + nq, rfl⟩
   case measure => simp [intOf]; omega
  have x1 : ¬ (k : Int) < (l.length : Int) := by omega
  have Hf := iH (ints_whole (by omega) Hl.out He.out)
  go_wp2
  go_ret
  exact ⟨retb Hf.out.symm, (Kept.refl w []).drewN _⟩
 ·have h0 : (l == m) = false := by rw [beq_eq_false_iff_ne]; rintro rfl; exact hlen rfl
  have h1 : ((l.length : Int) != (m.length : Int)) = true := by rw [bne_iff_ne]; omega
  have H0 := iH h0; clear h0 hla hlb
  go_enter Try.func69, Try.ntmps69
  go_wp2
  go_ret
  exact ⟨retb (by rw [H0.out]), Kept.refl _ _⟩
def sameB (M N : Int) (l m : List Int) : Bool := (M == N) && (l == m)
theorem xqJ (M N : Int) (va vb : Value) (l m : List Int) (w : World) (ha : RdI w va l) (hb : RdI w vb m) :
  Calls Try.prog 46 #[.agg #[.int .i64 M, va], .agg #[.int .i64 N, vb]] w fun e w' => e = .returned (.bool (sameB M N l m)) /\ Kept w w' [] := by
 have Ha := iH ha; have Hb := iH hb
 obtain ⟨a, c, rfl, _⟩ := ha
 obtain ⟨b, d, rfl, _⟩ := hb
 by_cases h1 : (M == N) = true
 ·have r1 : sameB M N l m = (l == m) := by simp [sameB, h1]
  have R1 := iH r1; clear r1
  go_enter Try.func46, Try.ntmps46
  go_wp2_with fail
  refine (equal_any _ _ l m _ (Ha.out.keep (((Kept.refl w []).alloc _).alloc _)) (Hb.out.keep (((Kept.refl w []).alloc _).alloc _))).mono ?_
  rintro e w1 ⟨rfl, hk⟩
  have Hk := iH ((((Kept.refl w []).alloc _).alloc _).trans hk (by simp)); clear hk
  go_wp2
  go_ret
  exact ⟨retb R1.out.symm, Hk.out⟩
 ·have h2 : (M == N) = false := by simpa using h1
  have r1 : sameB M N l m = false := by simp [sameB, h2]
  have R1 := iH r1; clear r1 h1
  go_enter Try.func46, Try.ntmps46
  go_wp2
  go_ret
  exact ⟨retb R1.out.symm, ((Kept.refl w []).alloc _).alloc _⟩
def upB (M : Int) : Int -> List Int -> Bool
 | _, [] => true
 | b, x :: r => decide (b < x) && (decide (x < M) && upB M x r)
def rightB (M : Int) (l : List Int) : Bool := decide (1 <= M) && upB M 0 l
theorem upB_len {M : Int} : ∀ {l : List Int} {b : Int}, upB M b l = true -> b < M -> (l.length : Int) <= M - 1 - b := by
 intro l
 induction l with
 | nil => intro b _ _; simp; omega
 | cons y r ih =>
 intro b h hb
 simp only [upB, Bool.and_eq_true, decide_eq_true_eq] at h
 have := ih h.2.2 h.2.1
 simp only [List.length_cons]
 omega
def hid (A : Int) (m : List Int) : Nat := m.countP (fun y => decide (A <= y))
end Go.Proofs.Ytjdbmlifekghfaa
