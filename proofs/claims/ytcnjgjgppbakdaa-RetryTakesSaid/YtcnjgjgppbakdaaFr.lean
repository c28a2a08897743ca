/-
  Own small laws, of no program: the frame 'Fr B ts' (of what was there only blocks from B on of a type of ts may have turned, and they keep their type), bytes that can be read ('Rb'), append and copy under that frame.
-/
import Derived.Test.YtcnjgjgppbakdaaKit
import Derived.Deep.MidRow
import Derived.Laws.CopyOwn
import Derived.Laws.MakeOwn
namespace Go.Proofs.Ytcnjgjgppbakdaa
open Go.RowKit

/-- Of the blocks that were there only such have turned as lie from B on and bear a type of ts; their type stays. -/
structure Fr (B : Nat) (ts : List TypeId) (w w' : World) : Prop where
  os : w'.os = w.os
  tape : w'.tape = w.tape
  output : w'.output = w.output
  size : w.heap.size ≤ w'.heap.size
  block : ∀ k, k < w.heap.size → w'.heap[k]? = w.heap[k]? ∨ (B ≤ k ∧ ∃ cs cs' t fz, t ∈ ts ∧ w.heap[k]? = some (.cells cs t fz) ∧ w'.heap[k]? = some (.cells cs' t fz))

theorem Fr.refl (B : Nat) (ts : List TypeId) (w : World) : Fr B ts w w := ⟨rfl, rfl, rfl, Nat.le_refl _, fun _ _ => .inl rfl⟩

theorem Fr.trans {B : Nat} {ts : List TypeId} {a b c : World} (h : Fr B ts a b) (k : Fr B ts b c) : Fr B ts a c := by
  refine ⟨k.os.trans h.os, k.tape.trans h.tape, k.output.trans h.output, Nat.le_trans h.size k.size, fun i hi => ?_⟩
  rcases h.block i hi with h1 | ⟨hB, cs, cs', t, fz, ht, h1, h2⟩
  · rcases k.block i (Nat.lt_of_lt_of_le hi h.size) with k1 | ⟨hB, cs, cs', t, fz, ht, k1, k2⟩
    · exact .inl (k1.trans h1)
    · exact .inr ⟨hB, cs, cs', t, fz, ht, h1 ▸ k1, k2⟩
  · rcases k.block i (Nat.lt_of_lt_of_le hi h.size) with k1 | ⟨_, ds, ds', t', fz', ht', k1, k2⟩
    · exact .inr ⟨hB, cs, cs', t, fz, ht, h1, k1.trans h2⟩
    · rw [h2] at k1
      injection k1 with k1
      injection k1 with _ e1 e2
      subst e1; subst e2
      exact .inr ⟨hB, cs, ds', t, fz, ht, h1, k2⟩

theorem Fr.mono {B B' : Nat} {ts ts' : List TypeId} {a b : World} (h : Fr B ts a b) (hB : B' ≤ B) (hs : ∀ t, t ∈ ts → t ∈ ts') : Fr B' ts' a b :=
  ⟨h.os, h.tape, h.output, h.size, fun k hk => (h.block k hk).imp id fun ⟨hb, cs, cs', t, fz, ht, r⟩ => ⟨by omega, cs, cs', t, fz, hs t ht, r⟩⟩

/-- Blocks that came later than a's do not count. -/
theorem Fr.later {B B' : Nat} {ts ts' : List TypeId} {a b c : World} (h : Fr B ts a b) (k : Fr B' ts' b c) (hB : a.heap.size ≤ B') : Fr B ts a c := by
  refine ⟨k.os.trans h.os, k.tape.trans h.tape, k.output.trans h.output, Nat.le_trans h.size k.size, fun i hi => ?_⟩
  rcases k.block i (Nat.lt_of_lt_of_le hi h.size) with k1 | ⟨hb, _⟩
  · exact (h.block i hi).imp (fun h1 => k1.trans h1) fun ⟨hb, cs, cs', t, fz, ht, h1, h2⟩ => ⟨hb, cs, cs', t, fz, ht, h1, k1.trans h2⟩
  · omega

theorem Fr.below {B : Nat} {ts : List TypeId} {w w' : World} (h : Fr B ts w w') {C : Nat} (hC : C ≤ w.heap.size) (hB : C ≤ B) : Below C w w' :=
  ⟨h.os, h.tape, h.output, h.size, fun k hk => (h.block k (by omega)).resolve_right (fun ⟨hb, _⟩ => by omega)⟩

theorem Fr.ofKept {w w' : World} (h : Kept w w' []) (B : Nat) (ts : List TypeId) : Fr B ts w w' := ⟨h.os, h.tape, h.output, h.size, fun k hk => .inl (h.block k hk (by simp))⟩

theorem Fr.kept {B : Nat} {w w' : World} (h : Fr B [] w w') : Kept w w' [] := ⟨h.os, h.tape, h.output, h.size, fun k hk _ => (h.block k hk).resolve_right (fun ⟨_, _, _, _, _, ht, _⟩ => by simp at ht)⟩

theorem Fr.drewN {B : Nat} {ts : List TypeId} {a w : World} (h : Fr B ts a w) (n : Nat) : Fr B ts a (w.drewN n) := ⟨h.os, h.tape, h.output, h.size, h.block⟩
theorem Fr.drew {B : Nat} {ts : List TypeId} {a w : World} (h : Fr B ts a w) : Fr B ts a w.drew := ⟨h.os, h.tape, h.output, h.size, h.block⟩
theorem Fr.alloc {B : Nat} {ts : List TypeId} {a w : World} (h : Fr B ts a w) (o : Obj) : Fr B ts a (w.alloc o) := h.trans (Fr.ofKept ((Kept.refl w []).alloc o) B ts)

theorem heap_lt {w : World} {k : Nat} {o : Obj} (h : w.heap[k]? = some o) : k < w.heap.size := (Array.getElem?_eq_some_iff.1 h).1

/-- A block of another type stands. -/
theorem Fr.heap {B : Nat} {ts : List TypeId} {w w' : World} (h : Fr B ts w w') {k : Nat} {cs : Array Value} {t : TypeId} {fz : Nat × Nat} (hk : w.heap[k]? = some (.cells cs t fz)) (ht : t ∉ ts) : w'.heap[k]? = some (.cells cs t fz) := by
  rcases h.block k (heap_lt hk) with h1 | ⟨_, ds, ds', t', fz', ht', h1, _⟩
  · exact h1.trans hk
  · rw [hk] at h1
    injection h1 with h1
    injection h1 with _ e1
    subst e1
    exact absurd ht' ht

/-- A block below B stands. -/
theorem Fr.heapLt {B : Nat} {ts : List TypeId} {w w' : World} (h : Fr B ts w w') {k : Nat} {o : Obj} (hk : w.heap[k]? = some o) (hB : k < B) : w'.heap[k]? = some o := by
  rcases h.block k (heap_lt hk) with h1 | ⟨hb, _⟩
  · exact h1.trans hk
  · omega

theorem Fr.setRow {B : Nat} {ts : List TypeId} {a w : World} (h : Fr B ts a w) {g : Nat} {cur : Array Value} {t : TypeId} {fz : Nat × Nat} (hg : w.heap[g]? = some (.cells cur t fz)) (hB : a.heap.size ≤ g ∨ (B ≤ g ∧ t ∈ ts)) (cs : Array Value) : Fr B ts a (w.setRow g cs) := by
  have hs : ∀ k, k ≠ g → (w.setRow g cs).heap[k]? = w.heap[k]? := fun k hk => setRow_other w g k cs hk
  refine ⟨h.os, h.tape, h.output, by simpa [World.setRow] using h.size, fun k hk => ?_⟩
  by_cases e : k = g
  · subst e
    rcases hB with hB | ⟨hB, ht⟩
    · omega
    · have h2 := setRow_heap w k cur cs t fz hg
      rcases h.block k hk with h1 | ⟨hb, cs1, cs2, t', fz', ht', h1, h3⟩
      · exact .inr ⟨hB, cur, cs, t, fz, ht, h1 ▸ hg, h2⟩
      · rw [hg] at h3
        injection h3 with h3
        injection h3 with _ e1 e2
        subst e1; subst e2
        exact .inr ⟨hB, cs1, cs, t, fz, ht, h1, h2⟩
  · rw [hs k e]; exact h.block k hk

theorem kept_setRow (w : World) (g : Nat) (cs : Array Value) : Kept w (w.setRow g cs) [g] := ⟨rfl, rfl, rfl, by simp [World.setRow], fun k _ hk => setRow_other w g k cs (by simpa using hk)⟩

theorem heap_setCell_row {w : World} {p : Nat} {cs : Array Value} {t : TypeId} {fz : Nat × Nat} (h : w.heap[p]? = some (.cells cs t fz)) (j : Nat) (u : Value) : w.setCell ⟨p, j, none⟩ u = w.setRow p (cs.setIfInBounds j u) := by
  simp only [World.setCell, World.setRow]
  congr 1
  apply Array.ext_getElem?
  intro i
  simp only [Array.getElem?_modify]
  by_cases hi : p = i
  · subst hi
    simp [h]
  · simp [hi]

theorem Fr.setCell {B : Nat} {ts : List TypeId} {a w : World} (h : Fr B ts a w) {g : Nat} {cur : Array Value} {t : TypeId} {fz : Nat × Nat} (hg : w.heap[g]? = some (.cells cur t fz)) (hB : a.heap.size ≤ g ∨ (B ≤ g ∧ t ∈ ts)) (j : Nat) (u : Value) : Fr B ts a (w.setCell ⟨g, j, none⟩ u) := by
  rw [heap_setCell_row hg]
  exact h.setRow hg hB _

/-- Many cells stored into a block that is known whole. -/
theorem setCells_row (g : Nat) (t : TypeId) (fz : Nat × Nat) : ∀ (vs : List Value) (o : Nat) (w : World) (L : List Value), w.heap[g]? = some (.cells L.toArray t fz) → o + vs.length ≤ L.length → (w.setCells g o vs) = w.setRow g (splice L o vs).toArray
  | [], o, w, L, hg, _ => by
    have e : (splice L o []).toArray = L.toArray := by simp [splice]
    rw [e]
    exact (setRow_self w g L.toArray t fz hg).symm
  | v :: r, o, w, L, hg, hl => by
    simp only [List.length_cons] at hl
    rw [World.setCells]
    have h1 : (w.setCell ⟨g, o, none⟩ v).heap[g]? = some (.cells (L.set o v).toArray t fz) := by
      have := heap_setCell_at hg o v
      simpa using this
    rw [setCells_row g t fz r (o + 1) _ (L.set o v) h1 (by simp; omega), heap_setCell_row hg]
    have e : splice (L.set o v) (o + 1) r = splice L o (v :: r) := by
      have := list_seg_step L o v r (by omega)
      simp only [splice, List.length_cons]
      rw [← List.append_assoc, this, List.append_assoc]
    rw [e]
    simp only [World.setRow]
    congr 1
    apply Array.ext_getElem?
    intro i
    simp only [Array.getElem?_modify]
    by_cases hi : g = i
    · subst hi
      simp [hg]
    · simp [hi]

theorem splice_all {α : Type} (L cs : List α) (h : cs.length = L.length) : splice L 0 cs = cs := by
  simp [splice, h]

theorem setRow_alloc (w : World) (c c' : Array Value) (t : TypeId) : (w.alloc (.cells c t)).setRow w.heap.size c' = w.alloc (.cells c' t) := by
  simp only [World.setRow, World.alloc]
  congr 1
  apply Array.ext_getElem?
  intro i
  rw [Array.getElem?_modify]
  by_cases h : w.heap.size = i
  · subst h
    simp
  · have h' : ¬ i = w.heap.size := fun e => h e.symm
    simp [h, h', Array.getElem?_push]

/-- A block that was made and is filled at once. -/
theorem setCells_new (w : World) (t : TypeId) (zs vs : List Value) (h : vs.length = zs.length) : (w.alloc (.cells zs.toArray t)).setCells w.heap.size 0 vs = w.alloc (.cells vs.toArray t) := by
  rw [setCells_row w.heap.size t (0, 0) vs 0 _ zs (heap_alloc_new w _) (by omega), splice_all _ _ h, setRow_alloc]

/-- 'append' onto a slice that the call owns, from any source: its run, and that only blocks of the element's type have turned. -/
theorem run_append_fr {P : Program} (w : World) (base : Nat) (t tx ty e : TypeId) (i : TypeInfo) (z : Value) (size bytes : Nat) (ht : P.underlying t = some (.slice e)) (hi : P.info? e = some i) (hz : i.zero = some z)
    (hsize : i.size = size) (hby : i.bytes = bytes) (hzs : z.cells.size = size)
    (v : Value) (n : Nat) (xs : List Value) (hown : w.ownsRow base e size v n xs)
    (x : Value) (m : Nat) (news : List Value) (hsrc : Src P size tx x m news w)
    (h63 : n + m ≤ maxLen) (hbytes : (n + m) * bytes ≤ 140737488355328) (hbase : base ≤ w.heap.size) :
    ∃ v' w', (Builtin.append_ #[t, tx] ty #[v, x]).run P w = .ok v' w' ∧ w'.ownsRow base e size v' (n + m) (xs ++ news) ∧ Fr base [e] w w' ∧ w.grownBy w' v.ownBlock := by
  subst hsize
  subst hby
  have hsmall : n + m ≤ 9223372036854775807 := by simp only [maxLen] at h63; omega
  have hlen : (xs ++ news).length = (n + m) * i.size := by rw [List.length_append, hown.1, hsrc.newsLen, Nat.add_mul]
  have grown : ∀ (old : Nat), old < n + m →
      (w.drew.alloc (.cells ((xs ++ news).toArray ++ Builtin.zeroCells z.cells (grownCap w (n + m) old e - (n + m))) e)).ownsRow base e i.size
        (.slice (some ⟨w.heap.size, 0, none⟩) (n + m) (grownCap w (n + m) old e)) (n + m) (xs ++ news) ∧
      Fr base [e] w (w.drew.alloc (.cells ((xs ++ news).toArray ++ Builtin.zeroCells z.cells (grownCap w (n + m) old e - (n + m))) e)) ∧
      ∀ row, w.grownBy (w.drew.alloc (.cells ((xs ++ news).toArray ++ Builtin.zeroCells z.cells (grownCap w (n + m) old e - (n + m))) e)) row := by
    intro old ho
    have hge := grownCap_ge w (n + m) old e
    have hcm : grownCap w (n + m) old e ≤ maxLen := grownCap_le_maxLen w (n + m) old e h63
    refine ⟨⟨hlen, .inr ⟨w.heap.size, _, _, rfl, hbase, heap_alloc_new w.drew _, hge, hcm, ?_, ?_⟩⟩, (Fr.refl _ _ _).drew.alloc _, fun row => ⟨rfl, rfl, rfl, by simp, fun k hk _ => Below.heap_alloc w.drew _ k hk⟩⟩
    · simp only [Array.size_append, List.size_toArray, size_zeroCells, hzs, hlen, ← Nat.add_mul]
      congr 1
      omega
    · simp only [Array.toList_append, ← hlen]
      exact List.take_left
  rcases hown.2 with ⟨rfl, rfl⟩ | ⟨g, cap, cur, rfl, hbg, hg, hnc, hcm, hcs, htake⟩
  · have hx : xs = [] := List.eq_nil_of_length_eq_zero (by simpa using hown.1)
    subst hx
    by_cases hm : m = 0
    · subst hm
      have hn : news = [] := List.eq_nil_of_length_eq_zero (by simpa using hsrc.newsLen)
      subst hn
      refine ⟨.slice none 0 0, w, ?_, World.ownsRow_nil w base e i.size, Fr.refl _ _ _, World.grownBy.refl w _⟩
      have hf1 := hsrc.cells
      rcases hsrc.kind with ⟨e', hk⟩ | hk <;>
        simp [Builtin.append_, run_underlying ht, run_underlying hk, sizeOf, typeInfo, hi, hsrc.len, hf1]
    · have hr := run_append_grow_src (P := P) w t tx ty e i z ht hi hz none 0 0 [] (run_firstCells_none w.drew i.size 0 0 0) x m news hsrc (by omega) (by omega) (growslice_fits (by omega) hbytes)
      have hgr := grown 0 (by omega)
      exact ⟨_, _, hr, hgr.1, hgr.2.1, hgr.2.2 _⟩
  · by_cases hroom : n + m ≤ cap
    · have hnl := hsrc.newsLen
      have hfit : n * i.size + news.length ≤ cur.size := by rw [hnl, hcs, ← Nat.add_mul]; exact Nat.mul_le_mul_right _ hroom
      have hst := run_storeCells_at P g (n * i.size) e news 0 cur w hg (by simpa using hfit) hsrc.one
      simp only [Nat.add_zero] at hst
      have hr : (Builtin.append_ #[t, tx] ty #[.slice (some ⟨g, 0, none⟩) n cap, x]).run P w =
          .ok (.slice (some ⟨g, 0, none⟩) (n + m) cap) (w.setRow g (cur.toList.take (n * i.size) ++ news ++ cur.toList.drop (n * i.size + news.length)).toArray) := by
        rcases hsrc.kind with ⟨e', hk⟩ | hk <;>
          simp [Builtin.append_, run_underlying ht, run_underlying hk, sizeOf, typeInfo, hi, hsrc.len, hroom, hsrc.cells, Addr.add_lit, hst]
      refine ⟨_, _, hr, ⟨hlen, .inr ⟨g, cap, _, rfl, hbg, setRow_heap w g cur _ e _ hg, hroom, hcm, ?_, ?_⟩⟩, (Fr.refl _ _ w).setRow hg (.inr ⟨hbg, by simp⟩) _, ⟨rfl, rfl, rfl, by simp, fun k _ hk => setRow_other w g k _ (fun e => hk (by simp [Value.ownBlock, e]))⟩⟩
      · simp only [List.size_toArray, List.length_append, List.length_take, List.length_drop, Array.length_toList]
        omega
      · rw [htake, ← hlen]
        exact List.take_left
    · have holds : ∀ j u, xs[j]? = some u → w.drew.cell? ((⟨g, 0, none⟩ : Addr).add j) = some u := World.ownsRow.cells (w := w) hown (g := g) rfl
      have hr := run_append_grow_src (P := P) w t tx ty e i z ht hi hz (some ⟨g, 0, none⟩) n cap xs (run_firstCells_some w.drew i.size n _ n cap xs hown.1 holds) x m news hsrc (by omega) (by omega) (growslice_fits (by omega) hbytes)
      have hgr := grown cap (by omega)
      exact ⟨_, _, hr, hgr.1, hgr.2.1, hgr.2.2 _⟩

/-- The same, at the operation. -/
theorem wp_append_fr {P : Program} (w : World) {o : Oper} {a : Act} {K : Act → World → Prop} {Q : Exit → Act → World → Prop} (s x : Operand) (t tx : TypeId)
    (ho : o.op = .call { callee := .builtin .append, args := #[s, x], argTypes := #[t, tx] })
    (base : Nat) (e : TypeId) (i : TypeInfo) (z : Value) (size bytes : Nat) (ht : P.underlying t = some (.slice e)) (hi : P.info? e = some i) (hz : i.zero = some z)
    (hsize : i.size = size) (hby : i.bytes = bytes) (hzs : z.cells.size = size)
    (v : Value) (n : Nat) (xs : List Value) (hs : a.eval s = v) (hown : w.ownsRow base e size v n xs)
    (xv : Value) (m : Nat) (news : List Value) (hx : a.eval x = xv) (hsrc : Src P size tx xv m news w)
    (h63 : n + m ≤ maxLen) (hbytes : (n + m) * bytes ≤ 140737488355328) (hbase : base ≤ w.heap.size)
    (h : ∀ v' w', w'.ownsRow base e size v' (n + m) (xs ++ news) → Fr base [e] w w' → w.grownBy w' v.ownBlock → K (a.put o.dst v') w') : o.wp P a w K Q := by
  obtain ⟨v', w', hr, h2, h3, h4⟩ := run_append_fr (P := P) w base t tx o.type e i z size bytes ht hi hz hsize hby hzs v n xs hown xv m news hsrc h63 hbytes hbase
  unfold Oper.wp execOp
  simp only [ho, resolve, invoke, builtin, Sem.run_bind, Sem.run_pure, Result.andThen_ok, List.map_toArray, List.map_cons, List.map_nil, hs, hx, hr]
  exact h v' w' h2 h3 h4

/-- At a plain region's list. -/
theorem wpList_append_fr {P : Program} (w : World) {ops : Array Oper} {rest : List Oper} {o : Oper} {a : Act} {Q : Exit → Act → World → Prop} (hgd : o.guard = none) (s x : Operand) (t tx : TypeId)
    (ho : o.op = .call { callee := .builtin .append, args := #[s, x], argTypes := #[t, tx] })
    (base : Nat) (e : TypeId) (i : TypeInfo) (z : Value) (size bytes : Nat) (ht : P.underlying t = some (.slice e)) (hi : P.info? e = some i) (hz : i.zero = some z)
    (hsize : i.size = size) (hby : i.bytes = bytes) (hzs : z.cells.size = size)
    (v : Value) (n : Nat) (xs : List Value) (hs : a.eval s = v) (hown : w.ownsRow base e size v n xs)
    (xv : Value) (m : Nat) (news : List Value) (hx : a.eval x = xv) (hsrc : Src P size tx xv m news w)
    (h63 : n + m ≤ maxLen) (hbytes : (n + m) * bytes ≤ 140737488355328) (hbase : base ≤ w.heap.size)
    (h : ∀ v' w', w'.ownsRow base e size v' (n + m) (xs ++ news) → Fr base [e] w w' → w.grownBy w' v.ownBlock → wpList P ops Q rest (a.put o.dst v') w') : wpList P ops Q (o :: rest) a w :=
  wpList_plain hgd fun _ hK => wp_append_fr w s x t tx ho base e i z size bytes ht hi hz hsize hby hzs v n xs hs hown xv m news hx hsrc h63 hbytes hbase fun v' w' h2 h3 h4 => hK _ _ (h v' w' h2 h3 h4)

/-- As one step of a region that draws. -/
theorem step_append_fr {P : Program} (w : World) {ops : Array Oper} {o : Oper} {a : Act} {K : Act → World → Prop} {Q : Exit → Act → World → Prop} {E : Prop} (hgd : o.guard = none) (s x : Operand) (t tx : TypeId)
    (ho : o.op = .call { callee := .builtin .append, args := #[s, x], argTypes := #[t, tx] })
    (base : Nat) (e : TypeId) (i : TypeInfo) (z : Value) (size bytes : Nat) (ht : P.underlying t = some (.slice e)) (hi : P.info? e = some i) (hz : i.zero = some z)
    (hsize : i.size = size) (hby : i.bytes = bytes) (hzs : z.cells.size = size)
    (v : Value) (n : Nat) (xs : List Value) (hs : a.eval s = v) (hown : w.ownsRow base e size v n xs)
    (xv : Value) (m : Nat) (news : List Value) (hx : a.eval x = xv) (hsrc : Src P size tx xv m news w)
    (h63 : n + m ≤ maxLen) (hbytes : (n + m) * bytes ≤ 140737488355328) (hbase : base ≤ w.heap.size)
    (h : ∀ v' w', w'.ownsRow base e size v' (n + m) (xs ++ news) → Fr base [e] w w' → w.grownBy w' v.ownBlock → K (a.put o.dst v') w') :
    if Region.wanted o (yielded ops a.tmps) = true then Oper.wp P o a w K Q else E := by
  have hw : Region.wanted o (yielded ops a.tmps) = true := by simp [Region.wanted, hgd]
  rw [if_pos hw]
  exact wp_append_fr w s x t tx ho base e i z size bytes ht hi hz hsize hby hzs v n xs hs hown xv m news hx hsrc h63 hbytes hbase h

theorem bc_splice (L cs : List UInt8) (o : Nat) : bc (splice L o cs) = splice (bc L) o (bc cs) := by
  simp [bc, splice, List.map_take, List.map_drop]

/-- 'copy' of bytes into a block that is known whole, src whatever: the run. 'src' gives the cells that go over. -/
theorem run_copy_fr {P : Program} (w : World) (dT sT ty elem : TypeId) (hu : P.underlying dT = some (.slice elem)) (hsz : (P.info? elem).map (·.size) = some 1)
    (dp sp : Option Addr) (dLen dCap sLen sCap : Nat) (g off : Nat) (cur : List Value) (t : TypeId) (fz : Nat × Nat) (hfz : fz = (0, 0)) (hg : w.heap[g]? = some (.cells cur.toArray t fz)) (cs : List Value) (hn : cs.length = Nat.min sLen dLen)
    (hpos : 0 < cs.length → dp = some ⟨g, off, none⟩ ∧ ∃ ad, sp = some ad ∧ ∀ j v, cs[j]? = some v → w.cell? (ad.add j) = some v)
    (hfit : off + cs.length ≤ cur.length) (h1 : ∀ v ∈ cs, v.oneCell' = true) :
    (Builtin.copy_ #[dT, sT] ty #[.slice dp dLen dCap, .slice sp sLen sCap]).run P w = .ok (goInt cs.length) (w.setRow g (splice cur off cs).toArray) := by
  subst hfz
  by_cases h0 : cs.length = 0
  · obtain rfl : cs = [] := List.eq_nil_of_length_eq_zero h0
    have hrun := run_copy_none (P := P) w dT sT ty elem dp sp dLen dCap sLen sCap hu hsz (by simpa using hn.symm)
    have e : (splice cur off []).toArray = cur.toArray := by simp [splice]
    rw [e, setRow_self w g cur.toArray t (0, 0) hg]
    exact hrun
  · obtain ⟨rfl, ad, rfl, hsrc⟩ := hpos (by omega)
    have := run_copy_row (P := P) w dT sT ty elem g off dLen dCap ad sLen sCap cur.toArray t cs hu hsz hg hn hsrc (by simpa using hfit) h1
    rw [this]
    simp [splice, List.append_assoc]

/-- The same, at the operation. -/
theorem wp_copy_fr {P : Program} (w : World) {o : Oper} {a : Act} {K : Act → World → Prop} {Q : Exit → Act → World → Prop} (d s : Operand) (dT sT : TypeId)
    (ho : o.op = .call { callee := .builtin .copy, args := #[d, s], argTypes := #[dT, sT] }) (elem : TypeId) (hu : P.underlying dT = some (.slice elem)) (hsz : (P.info? elem).map (·.size) = some 1)
    (dp sp : Option Addr) (dLen dCap sLen sCap : Nat) (hd : a.eval d = .slice dp dLen dCap) (hs : a.eval s = .slice sp sLen sCap)
    (g off : Nat) (cur : List Value) (t : TypeId) (hg : w.heap[g]? = some (.cells cur.toArray t (0, 0))) (cs : List Value) (hn : cs.length = Nat.min sLen dLen)
    (hpos : 0 < cs.length → dp = some ⟨g, off, none⟩ ∧ ∃ ad, sp = some ad ∧ ∀ j v, cs[j]? = some v → w.cell? (ad.add j) = some v)
    (hfit : off + cs.length ≤ cur.length) (h1 : ∀ v ∈ cs, v.oneCell' = true)
    (h : ∀ w', Hid (w'.heap[g]? = some (.cells (splice cur off cs).toArray t (0, 0))) → Fr g [t] w w' → Kept w w' [g] → K (a.put o.dst (goInt cs.length)) w') : o.wp P a w K Q := by
  have hr := run_copy_fr (P := P) w dT sT o.type elem hu hsz dp sp dLen dCap sLen sCap g off cur t (0, 0) rfl hg cs hn hpos hfit h1
  unfold Oper.wp execOp
  simp only [ho, resolve, invoke, builtin, Sem.run_bind, Sem.run_pure, Result.andThen_ok, List.map_toArray, List.map_cons, List.map_nil, hd, hs, hr]
  exact h _ (Lib.hid (setRow_heap w g _ _ t _ hg)) ((Fr.refl _ _ w).setRow hg (.inr ⟨Nat.le_refl _, by simp⟩) _) (kept_setRow w g _)

theorem wpList_copy_fr {P : Program} (w : World) {ops : Array Oper} {rest : List Oper} {o : Oper} {a : Act} {Q : Exit → Act → World → Prop} (hgd : o.guard = none) (d s : Operand) (dT sT : TypeId)
    (ho : o.op = .call { callee := .builtin .copy, args := #[d, s], argTypes := #[dT, sT] }) (elem : TypeId) (hu : P.underlying dT = some (.slice elem)) (hsz : (P.info? elem).map (·.size) = some 1)
    (dp sp : Option Addr) (dLen dCap sLen sCap : Nat) (hd : a.eval d = .slice dp dLen dCap) (hs : a.eval s = .slice sp sLen sCap)
    (g off : Nat) (cur : List Value) (t : TypeId) (hg : w.heap[g]? = some (.cells cur.toArray t (0, 0))) (cs : List Value) (hn : cs.length = Nat.min sLen dLen)
    (hpos : 0 < cs.length → dp = some ⟨g, off, none⟩ ∧ ∃ ad, sp = some ad ∧ ∀ j v, cs[j]? = some v → w.cell? (ad.add j) = some v)
    (hfit : off + cs.length ≤ cur.length) (h1 : ∀ v ∈ cs, v.oneCell' = true)
    (h : ∀ w', Hid (w'.heap[g]? = some (.cells (splice cur off cs).toArray t (0, 0))) → Fr g [t] w w' → Kept w w' [g] → wpList P ops Q rest (a.put o.dst (goInt cs.length)) w') : wpList P ops Q (o :: rest) a w :=
  wpList_plain hgd fun _ hK => wp_copy_fr w d s dT sT ho elem hu hsz dp sp dLen dCap sLen sCap hd hs g off cur t hg cs hn hpos hfit h1 fun w' h2 h3 h4 => hK _ _ (h w' h2 h3 h4)

theorem step_copy_fr {P : Program} (w : World) {ops : Array Oper} {o : Oper} {a : Act} {K : Act → World → Prop} {Q : Exit → Act → World → Prop} {E : Prop} (hgd : o.guard = none) (d s : Operand) (dT sT : TypeId)
    (ho : o.op = .call { callee := .builtin .copy, args := #[d, s], argTypes := #[dT, sT] }) (elem : TypeId) (hu : P.underlying dT = some (.slice elem)) (hsz : (P.info? elem).map (·.size) = some 1)
    (dp sp : Option Addr) (dLen dCap sLen sCap : Nat) (hd : a.eval d = .slice dp dLen dCap) (hs : a.eval s = .slice sp sLen sCap)
    (g off : Nat) (cur : List Value) (t : TypeId) (hg : w.heap[g]? = some (.cells cur.toArray t (0, 0))) (cs : List Value) (hn : cs.length = Nat.min sLen dLen)
    (hpos : 0 < cs.length → dp = some ⟨g, off, none⟩ ∧ ∃ ad, sp = some ad ∧ ∀ j v, cs[j]? = some v → w.cell? (ad.add j) = some v)
    (hfit : off + cs.length ≤ cur.length) (h1 : ∀ v ∈ cs, v.oneCell' = true)
    (h : ∀ w', Hid (w'.heap[g]? = some (.cells (splice cur off cs).toArray t (0, 0))) → Fr g [t] w w' → Kept w w' [g] → K (a.put o.dst (goInt cs.length)) w') :
    if Region.wanted o (yielded ops a.tmps) = true then Oper.wp P o a w K Q else E := by
  have hw : Region.wanted o (yielded ops a.tmps) = true := by simp [Region.wanted, hgd]
  rw [if_pos hw]
  exact wp_copy_fr w d s dT sT ho elem hu hsz dp sp dLen dCap sLen sCap hd hs g off cur t hg cs hn hpos hfit h1 h

/-- A value of many cells stored into a block that is known whole. -/
theorem wp_store_fr {P : Program} (w : World) {o : Oper} {a : Act} {K : Act → World → Prop} {Q : Exit → Act → World → Prop} (ty : TypeId) (x y : Operand) (ho : o.op = .store ty x y)
    (g off : Nat) (cells : List Value) (hx : a.eval x = .pointer (some ⟨g, off, none⟩)) (hy : a.eval y = .agg cells.toArray) (L : List Value) (t : TypeId) (hg : w.heap[g]? = some (.cells L.toArray t (0, 0)))
    (hi : (P.info? ty).map (·.size) = some cells.length) (hfit : off + cells.length ≤ L.length) (h1 : ∀ u ∈ cells, u.oneCell' = true)
    (h : ∀ w', Hid (w'.heap[g]? = some (.cells (splice L off cells).toArray t (0, 0))) → Fr g [t] w w' → Kept w w' [g] → K (a.put o.dst undef) w') : o.wp P a w K Q := by
  have ht : w.there g off cells.toArray.size := fun j hj => by
    rw [List.size_toArray] at hj
    refine ⟨?_, frozen_of_row _ _ _ _ _ hg⟩
    rw [cell_of_row w g (off + j) _ t (0, 0) hg]
    simp
    omega
  refine wp_store_mid ty x y ho g off cells.toArray hx hy ht (by simpa using hi) (all_oneCell_toArray h1) ?_
  have e := setCells_row g t (0, 0) cells off w L hg hfit
  rw [List.toList_toArray, e]
  exact h _ (Lib.hid (setRow_heap w g _ _ t _ hg)) ((Fr.refl _ _ w).setRow hg (.inr ⟨Nat.le_refl _, by simp⟩) _) (kept_setRow w g _)

theorem wpList_store_fr {P : Program} (w : World) {ops : Array Oper} {rest : List Oper} {o : Oper} {a : Act} {Q : Exit → Act → World → Prop} (hgd : o.guard = none) (ty : TypeId) (x y : Operand) (ho : o.op = .store ty x y)
    (g off : Nat) (cells : List Value) (hx : a.eval x = .pointer (some ⟨g, off, none⟩)) (hy : a.eval y = .agg cells.toArray) (L : List Value) (t : TypeId) (hg : w.heap[g]? = some (.cells L.toArray t (0, 0)))
    (hi : (P.info? ty).map (·.size) = some cells.length) (hfit : off + cells.length ≤ L.length) (h1 : ∀ u ∈ cells, u.oneCell' = true)
    (h : ∀ w', Hid (w'.heap[g]? = some (.cells (splice L off cells).toArray t (0, 0))) → Fr g [t] w w' → Kept w w' [g] → wpList P ops Q rest (a.put o.dst undef) w') : wpList P ops Q (o :: rest) a w :=
  wpList_plain hgd fun _ hK => wp_store_fr w ty x y ho g off cells hx hy L t hg hi hfit h1 fun w' h2 h3 h4 => hK _ _ (h w' h2 h3 h4)

/-- The same into a block that was just made. -/
theorem wpList_store_new {P : Program} (w : World) {ops : Array Oper} {rest : List Oper} {o : Oper} {a : Act} {Q : Exit → Act → World → Prop} (hgd : o.guard = none) (ty : TypeId) (x y : Operand) (ho : o.op = .store ty x y)
    (zs : List Value) (t : TypeId) (cells : List Value) (hx : a.eval x = .pointer (some ⟨w.heap.size, 0, none⟩)) (hy : a.eval y = .agg cells.toArray)
    (hi : (P.info? ty).map (·.size) = some cells.length) (hz : cells.length = zs.length) (h1 : ∀ u ∈ cells, u.oneCell' = true)
    (h : ∀ w', Hid (w'.heap[w.heap.size]? = some (.cells cells.toArray t (0, 0))) → Hid (Kept w w' []) → w'.heap.size = w.heap.size + 1 → wpList P ops Q rest (a.put o.dst undef) w') : wpList P ops Q (o :: rest) a (w.alloc (.cells zs.toArray t)) := by
  refine wpList_plain hgd fun K hK => ?_
  have hg := heap_alloc_new w (.cells zs.toArray t)
  have ht : (w.alloc (.cells zs.toArray t)).there w.heap.size 0 cells.toArray.size := fun j hj => by
    rw [List.size_toArray] at hj
    refine ⟨?_, frozen_of_row _ _ _ _ _ hg⟩
    rw [cell_of_row _ w.heap.size (0 + j) _ t (0, 0) hg]
    simp
    omega
  refine wp_store_mid ty x y ho w.heap.size 0 cells.toArray hx hy ht (by simpa using hi) (all_oneCell_toArray h1) ?_
  rw [List.toList_toArray, setCells_new w t zs cells hz]
  exact hK _ _ (h _ (Lib.hid (heap_alloc_new w _)) (Lib.hid ((Kept.refl w []).alloc _)) (by simp))

/-- 'max' and 'min' of two: what they are is told by the caller. -/
theorem wpList_max {P : Program} {w : World} {ops : Array Oper} {rest : List Oper} {o : Oper} {a : Act} {Q : Exit → Act → World → Prop} (hgd : o.guard = none) (x y : Operand) (ts : Array TypeId) (ho : o.op = .call { callee := .builtin .max, args := #[x, y], argTypes := ts })
    (k k' : IntKind) (m n : Int) (hx : a.eval x = .int k m) (hy : a.eval y = .int k' n) (z : Int) (hz : z = if n > m then n else m) (h : wpList P ops Q rest (a.put o.dst (.int k z)) w) : wpList P ops Q (o :: rest) a w := by
  refine wpList_plain hgd fun K hK => ?_
  subst hz
  unfold Oper.wp execOp
  simp only [ho, resolve, invoke, builtin, Sem.run_bind, Sem.run_pure, Result.andThen_ok, List.map_toArray, List.map_cons, List.map_nil, hx, hy, run_max_int2]
  exact hK _ _ h

theorem wpList_min {P : Program} {w : World} {ops : Array Oper} {rest : List Oper} {o : Oper} {a : Act} {Q : Exit → Act → World → Prop} (hgd : o.guard = none) (x y : Operand) (ts : Array TypeId) (ho : o.op = .call { callee := .builtin .min, args := #[x, y], argTypes := ts })
    (k k' : IntKind) (m n : Int) (hx : a.eval x = .int k m) (hy : a.eval y = .int k' n) (z : Int) (hz : z = if n < m then n else m) (h : wpList P ops Q rest (a.put o.dst (.int k z)) w) : wpList P ops Q (o :: rest) a w := by
  refine wpList_plain hgd fun K hK => ?_
  subst hz
  unfold Oper.wp execOp
  simp only [ho, resolve, invoke, builtin, Sem.run_bind, Sem.run_pure, Result.andThen_ok, List.map_toArray, List.map_cons, List.map_nil, hx, hy, run_min_int2]
  exact hK _ _ h

/-- Bools that can be read, in a block below B or of the bools' own type. -/
def RbB (w : World) (B : Nat) (e : TypeId) (v : Value) (l : List Bool) : Prop :=
  ∃ a c, v = .slice a l.length c ∧ (l ≠ [] → ∃ b o, a = some ⟨b, o, none⟩ ∧ (b < B ∨ ∃ cs fz, w.heap[b]? = some (.cells cs e fz)) ∧ ∀ i, i < l.length → w.cell? ⟨b, o + i, none⟩ = some (.bool (l.getD i false)))

theorem RbB.frame {w w' : World} {B B' : Nat} {ts : List TypeId} {e : TypeId} {v : Value} {l : List Bool} (h : RbB w B e v l) (hf : Fr B' ts w w') (hB : B ≤ B') (he : e ∉ ts) : RbB w' B e v l := by
  obtain ⟨a, c, rfl, hl⟩ := h
  refine ⟨a, c, rfl, fun hne => ?_⟩
  obtain ⟨b, o, rfl, hb, hcell⟩ := hl hne
  have h0 := hcell 0 (List.length_pos_iff.2 hne)
  have hlt := World.block_lt_of_cell? w _ h0
  have same : w'.heap[b]? = w.heap[b]? := by
    rcases hb with hb | ⟨cs, fz, hb⟩
    · exact (hf.block b hlt).resolve_right (fun ⟨h2, _⟩ => by omega)
    · rw [hb]; exact hf.heap hb he
  refine ⟨b, o, rfl, ?_, fun i hi => ?_⟩
  · rw [same]; exact hb
  · rw [World.cell?_of_block (w := w) same]; exact hcell i hi

theorem setCells_fr {w : World} {g off : Nat} {cells L : List Value} {t : TypeId} (hg : w.heap[g]? = some (.cells L.toArray t (0, 0))) (hfit : off + cells.length ≤ L.length) :
    (w.setCells g off cells).heap[g]? = some (.cells (splice L off cells).toArray t (0, 0)) ∧ Kept w (w.setCells g off cells) [g] ∧ Fr g [t] w (w.setCells g off cells) := by
  rw [setCells_row g t (0, 0) cells off w L hg hfit]
  exact ⟨setRow_heap w g _ _ t _ hg, kept_setRow w g _, (Fr.refl _ _ w).setRow hg (.inr ⟨Nat.le_refl _, by simp⟩) _⟩

theorem there_of_block {w : World} {g off n : Nat} {L : List Value} {t : TypeId} (hg : w.heap[g]? = some (.cells L.toArray t (0, 0))) (h : off + n ≤ L.length) : w.there g off n := fun j hj => by
  refine ⟨?_, frozen_of_row _ _ _ _ _ hg⟩
  rw [cell_of_row w g (off + j) _ t (0, 0) hg]
  simp
  omega

theorem range_of_block {w : World} {g off : Nat} {cs L : List Value} {t : TypeId} {fz : Nat × Nat} (hg : w.heap[g]? = some (.cells L.toArray t fz)) (h : ∀ j u, cs[j]? = some u → L[off + j]? = some u) : w.rangeAt g off cs := fun j u hu => by
  rw [cell_of_row w g (off + j) _ t fz hg, List.getElem?_toArray]
  exact h j u hu

/-- 'make', by its run: the new world is a name. -/
theorem wpList_make {P : Program} (w : World) {ops : Array Oper} {rest : List Oper} {o : Oper} {a : Act} {Q : Exit → Act → World → Prop} (hgd : o.guard = none) (t : TypeId) (x y : Operand) (ho : o.op = .makeSlice t x y)
    (v : Value) (ob : Obj) (hr : (Instr.makeSlice t (a.eval x) (a.eval y)).run P w = .ok v (w.alloc ob))
    (h : ∀ w', Hid (w'.heap[w.heap.size]? = some ob) → Hid (Kept w w' []) → w'.heap.size = w.heap.size + 1 → wpList P ops Q rest (a.put o.dst v) w') : wpList P ops Q (o :: rest) a w := by
  refine wpList_plain hgd fun K hK => ?_
  unfold Oper.wp execOp
  simp only [ho, hr, Sem.run_bind, Sem.run_pure, Result.andThen_ok]
  exact hK _ _ (h _ (Lib.hid (heap_alloc_new w _)) (Lib.hid ((Kept.refl w []).alloc _)) (by simp))

theorem foldl_fill (cells : List Value) : ∀ (k : Nat) (Z : Array Value), k + cells.length = Z.size →
    ((cells.zipIdx k).foldl (fun cs x => cs.setIfInBounds x.2 x.1) Z).toList = Z.toList.take k ++ cells := by
  induction cells with
  | nil => intro k Z h; simp at h; subst h; simp only [List.zipIdx_nil, List.foldl_nil, List.append_nil]; exact (List.take_of_length_le (by simp)).symm
  | cons c r ih =>
    intro k Z h
    simp only [List.length_cons] at h
    rw [List.zipIdx_cons, List.foldl_cons, ih (k + 1) _ (by simp; omega)]
    rw [Array.toList_setIfInBounds, List.take_set, List.take_add_one]
    have hk : k < Z.toList.length := by simp; omega
    rw [List.getElem?_eq_getElem hk]
    simp only [Option.toList_some]
    have e : (List.take k Z.toList).length = k := by simp; omega
    rw [List.set_append_right _ _ (by omega), e, Nat.sub_self]
    simp

/-- A literal of one element, of whatever number of cells. -/
theorem run_buildSlice_one {P : Program} (w : World) (t e : TypeId) (i : TypeInfo) (z : Value) (size : Nat) (ht : P.underlying t = some (.slice e)) (hi : P.info? e = some i) (hz : i.zero = some z) (hs : i.size = size) (h0 : 0 < size) (hb : size ≤ 16777216)
    (cells : List Value) (hl : cells.length = size) :
    (Instr.buildSlice t 1 #[(0, .agg cells.toArray)]).run P w = .ok (.slice (some ⟨w.heap.size, 0, none⟩) 1 1) (w.alloc (.cells cells.toArray e)) := by
  subst hs
  have n1 : ¬ (16777216 < i.size) := by omega
  have n2 : ¬ (i.size = 0) := by omega
  have hf : ∀ Z : Array Value, Z.size = i.size → Instr.fill (fun k => some (k * i.size, i.size)) Z [(0, Value.agg cells.toArray)] = some cells.toArray := by
    intro Z hZ
    have hc : (Value.agg cells.toArray).cells = cells.toArray := rfl
    simp only [Instr.fill, hc, List.size_toArray, hl, ne_eq, not_true_eq_false, Nat.zero_mul, Nat.zero_add, hZ, decide_false, Bool.false_or, gt_iff_lt, Nat.lt_irrefl]
    rw [if_neg (by decide)]
    congr 1
    apply Array.ext'
    have := foldl_fill cells 0 Z (by omega)
    simpa [← Array.foldl_toList] using this
  simp [Instr.buildSlice, run_underlying ht, sizeOf, typeInfo, zeroValue, hi, hz, n1, n2, hf, newRow]

theorem step_buildSlice_one {P : Program} (w : World) {ops : Array Oper} {o : Oper} {a : Act} {K : Act → World → Prop} {Q : Exit → Act → World → Prop} {E : Prop} (hgd : o.guard = none) (t : TypeId) (x : Operand) (ho : o.op = .buildSlice t 1 #[(0, x)])
    (e : TypeId) (i : TypeInfo) (z : Value) (size : Nat) (ht : P.underlying t = some (.slice e)) (hi : P.info? e = some i) (hz : i.zero = some z) (hs : i.size = size) (h0 : 0 < size) (hb : size ≤ 16777216)
    (cells : List Value) (hx : a.eval x = .agg cells.toArray) (hl : cells.length = size)
    (h : K (a.put o.dst (.slice (some ⟨w.heap.size, 0, none⟩) 1 1)) (w.alloc (.cells cells.toArray e))) :
    if Region.wanted o (yielded ops a.tmps) = true then Oper.wp P o a w K Q else E := by
  have hw : Region.wanted o (yielded ops a.tmps) = true := by simp [Region.wanted, hgd]
  rw [if_pos hw]
  have hr := run_buildSlice_one (P := P) w t e i z size ht hi hz hs h0 hb cells hl
  unfold Oper.wp execOp
  simp only [ho, List.map_toArray, List.map_cons, List.map_nil, hx, hr, Sem.run_bind, Sem.run_pure, Result.andThen_ok]
  exact h

/-- Bytes that can be read, in a block below B or of the bytes' own type: the slice v reads as l. -/
def Rb (w : World) (B : Nat) (e : TypeId) (v : Value) (l : List UInt8) : Prop :=
  ∃ a c, v = .slice a l.length c ∧ l.length ≤ c ∧ (a = none → c = 0) ∧
    (l ≠ [] → ∃ b o, a = some ⟨b, o, none⟩ ∧ (b < B ∨ ∃ cs fz, w.heap[b]? = some (.cells cs e fz)) ∧ ∀ i, i < l.length → w.cell? ⟨b, o + i, none⟩ = some (.int .u8 (l.getD i 0).toNat))

theorem Rb.rd {w : World} {B : Nat} {e : TypeId} {v : Value} {l : List UInt8} (h : Rb w B e v l) : Rd w v l := by
  obtain ⟨a, c, rfl, hc, ha, hl⟩ := h
  refine ⟨a, c, rfl, hc, ha, fun hne => ?_⟩
  obtain ⟨b, o, rfl, _, hcell⟩ := hl hne
  exact ⟨b, o, rfl, hcell⟩

theorem Rb.frame {w w' : World} {B B' : Nat} {ts : List TypeId} {e : TypeId} {v : Value} {l : List UInt8} (h : Rb w B e v l) (hf : Fr B' ts w w') (hB : B ≤ B') (he : e ∉ ts) : Rb w' B e v l := by
  obtain ⟨a, c, rfl, hc, ha, hl⟩ := h
  refine ⟨a, c, rfl, hc, ha, fun hne => ?_⟩
  obtain ⟨b, o, rfl, hb, hcell⟩ := hl hne
  have h0 := hcell 0 (List.length_pos_iff.2 hne)
  have hlt := World.block_lt_of_cell? w _ h0
  have same : w'.heap[b]? = w.heap[b]? := by
    rcases hb with hb | ⟨cs, fz, hb⟩
    · exact (hf.block b hlt).resolve_right (fun ⟨h2, _⟩ => by omega)
    · rw [hb]; exact hf.heap hb he
  refine ⟨b, o, rfl, ?_, fun i hi => ?_⟩
  · rw [same]; exact hb
  · rw [World.cell?_of_block (w := w) same]; exact hcell i hi

theorem Rb.mono {w : World} {B B' : Nat} {e : TypeId} {v : Value} {l : List UInt8} (h : Rb w B e v l) (hB : B ≤ B') : Rb w B' e v l := by
  obtain ⟨a, c, rfl, hc, ha, hl⟩ := h
  refine ⟨a, c, rfl, hc, ha, fun hne => ?_⟩
  obtain ⟨b, o, rfl, hb, hcell⟩ := hl hne
  exact ⟨b, o, rfl, hb.imp (fun h => by omega) id, hcell⟩

theorem Own.rb {w : World} {base : Nat} {e : TypeId} {v : Value} {l : List UInt8} (h : Own w base e v l) (B : Nat) : Rb w B e v l := by
  obtain ⟨a, c, hv, hc, ha, hl⟩ := h.rd
  refine ⟨a, c, hv, hc, ha, fun hne => ?_⟩
  obtain ⟨b, o, rfl, hcell⟩ := hl hne
  refine ⟨b, o, rfl, .inr ?_, hcell⟩
  rcases h.2 with ⟨rfl, _⟩ | ⟨g, cap, cur, rfl, _, hg, _⟩
  · simp at hv
  · simp only [Value.slice.injEq, Option.some.injEq, Addr.mk.injEq] at hv
    obtain ⟨⟨rfl, _⟩, _⟩ := hv
    exact ⟨cur, _, hg⟩

theorem Rd.rb {w : World} {v : Value} {l : List UInt8} (h : Rd w v l) (e : TypeId) : Rb w w.heap.size e v l := by
  obtain ⟨a, c, rfl, hc, ha, hl⟩ := h
  refine ⟨a, c, rfl, hc, ha, fun hne => ?_⟩
  obtain ⟨b, o, rfl, hcell⟩ := hl hne
  exact ⟨b, o, rfl, .inl (World.block_lt_of_cell? w _ (hcell 0 (List.length_pos_iff.2 hne))), hcell⟩

/-- The first bytes of what can be read. -/
theorem Rb.take {w : World} {B : Nat} {e : TypeId} {a : Option Addr} {n c : Nat} {l : List UInt8} (h : Rb w B e (.slice a n c) l) (k : Nat) (hk : k ≤ l.length) : Rb w B e (.slice a k c) (l.take k) := by
  obtain ⟨a, c, hv, hc, ha, hl⟩ := h
  simp only [Value.slice.injEq] at hv
  obtain ⟨rfl, rfl, rfl⟩ := hv
  refine ⟨_, _, by simp; omega, by simp; omega, ha, fun hne => ?_⟩
  have hne' : l ≠ [] := by rintro rfl; simp at hne
  obtain ⟨b, o, rfl, hb, hcell⟩ := hl hne'
  refine ⟨b, o, rfl, hb, fun i hi => ?_⟩
  simp at hi
  rw [hcell i (by omega)]
  congr 3
  rw [List.getD, List.getD, List.getElem?_take, if_pos (by omega)]

/-- Bytes of a part of a block that is known whole. -/
theorem Rb.ofBlock {w : World} {B g o n c : Nat} {e : TypeId} {L : List UInt8} {fz : Nat × Nat} (h : w.heap[g]? = some (.cells (bc L).toArray e fz)) (hn : o + n ≤ L.length) (hc : n ≤ c) : Rb w B e (.slice (some ⟨g, o, none⟩) n c) ((L.drop o).take n) := by
  have hl : ((L.drop o).take n).length = n := by simp; omega
  refine ⟨_, c, by rw [hl], by omega, by simp, fun _ => ⟨g, o, rfl, .inr ⟨_, _, h⟩, fun i hi => ?_⟩⟩
  rw [cell_of_row w g (o + i) _ e fz h]
  rw [hl] at hi
  have := bc_at L (o + i) (by omega)
  simp only [List.getElem?_toArray, this]
  congr 3
  simp [List.getD, hi]

end Go.Proofs.Ytcnjgjgppbakdaa
