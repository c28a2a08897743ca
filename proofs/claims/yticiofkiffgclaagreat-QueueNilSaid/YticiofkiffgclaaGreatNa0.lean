/-
  Kit, Fr, Fow, Gka in one text.
-/
import Derived.WalkKit
import Derived.WalkSpells
import Derived.WalkLawsBesides
import Derived.Deep.AppendSrc
import Derived.Lib.Hide
import Derived.Deep.MidRow
import Derived.Laws.CopyOwn
import Derived.Laws.MakeOwn
namespace Go.Proofs.YticiofkiffgclaaGreat
open Go.RowKit

structure Kept (w w' : World) (bs : List Nat) : Prop where
  os : w'.os = w.os
  tape : w'.tape = w.tape
  output : w'.output = w.output
  size : w.heap.size ≤ w'.heap.size
  block : ∀ k, k < w.heap.size → k ∉ bs → w'.heap[k]? = w.heap[k]?

theorem Kept.refl (w : World) (bs : List Nat) : Kept w w bs := ⟨rfl, rfl, rfl, Nat.le_refl _, fun _ _ _ => rfl⟩

theorem Kept.trans {a b c : World} {bs cs : List Nat} (h : Kept a b bs) (k : Kept b c cs) (hcs : ∀ x, x ∈ cs → x ∈ bs ∨ a.heap.size ≤ x) : Kept a c bs :=
  ⟨k.os.trans h.os, k.tape.trans h.tape, k.output.trans h.output, Nat.le_trans h.size k.size, fun i hi hn =>
    (k.block i (Nat.lt_of_lt_of_le hi h.size) (fun hm => by rcases hcs i hm with h1 | h1; exact hn h1; omega)).trans (h.block i hi hn)⟩

theorem Kept.drewN {a w : World} {bs : List Nat} (h : Kept a w bs) (n : Nat) : Kept a (w.drewN n) bs := ⟨h.os, h.tape, h.output, h.size, h.block⟩

theorem Kept.drew {a w : World} {bs : List Nat} (h : Kept a w bs) : Kept a w.drew bs := ⟨h.os, h.tape, h.output, h.size, h.block⟩

theorem Kept.alloc {a w : World} {bs : List Nat} (h : Kept a w bs) (o : Obj) : Kept a (w.alloc o) bs :=
  ⟨h.os, h.tape, h.output, by have := h.size; simp; omega, fun k hk hn => (Below.heap_alloc w o k (Nat.lt_of_lt_of_le hk h.size)).trans (h.block k hk hn)⟩

theorem Kept.setCell {a w : World} {bs : List Nat} (h : Kept a w bs) {p : Addr} (hp : p.block ∈ bs ∨ a.heap.size ≤ p.block) (u : Value) : Kept a (w.setCell p u) bs :=
  ⟨h.os, h.tape, h.output, by have := h.size; simp [World.setCell]; omega, fun k hk hn => (Below.heap_setCell w p u k (by rintro rfl; rcases hp with h1 | h1; exact hn h1; omega)).trans (h.block k hk hn)⟩

theorem Kept.below {w w' : World} {bs : List Nat} (h : Kept w w' bs) {B : Nat} (hB : B ≤ w.heap.size) (hbs : ∀ x, x ∈ bs → B ≤ x) : Below B w w' :=
  ⟨h.os, h.tape, h.output, h.size, fun k hk => h.block k (by omega) (fun hm => by have := hbs k hm; omega)⟩

theorem Kept.cell {w w' : World} {bs : List Nat} (h : Kept w w' bs) {p : Addr} (hp : p.block ∉ bs) {v : Value} (hv : w.cell? p = some v) : w'.cell? p = some v :=
  (World.cell?_of_block (h.block p.block (World.block_lt_of_cell? w p hv) hp)).trans hv

theorem Kept.heap {w w' : World} {bs : List Nat} (h : Kept w w' bs) {k : Nat} (hk : k ∉ bs) {o : Obj} (ho : w.heap[k]? = some o) : w'.heap[k]? = some o :=
  (h.block k (Array.getElem?_eq_some_iff.1 ho).1 hk).trans ho

theorem run_append_src {P : Program} (w : World) (base : Nat) (t tx ty e : TypeId) (i : TypeInfo) (z : Value) (size bytes : Nat) (ht : P.underlying t = some (.slice e)) (hi : P.info? e = some i) (hz : i.zero = some z)
    (hsize : i.size = size) (hby : i.bytes = bytes) (hzs : z.cells.size = size)
    (v : Value) (n : Nat) (xs : List Value) (hown : w.ownsRow base e size v n xs)
    (x : Value) (m : Nat) (news : List Value) (hsrc : Src P size tx x m news w)
    (h63 : n + m ≤ maxLen) (hbytes : (n + m) * bytes ≤ 140737488355328) (hbase : base ≤ w.heap.size) :
    ∃ v' w', (Builtin.append_ #[t, tx] ty #[v, x]).run P w = .ok v' w' ∧ w'.ownsRow base e size v' (n + m) (xs ++ news) ∧ w.grownBy w' v.ownBlock ∧
      (v'.ownBlock = v.ownBlock ∨ ∃ g, v'.ownBlock = some g ∧ w.heap.size ≤ g) ∧ (v' = .slice none 0 0 → v = .slice none 0 0 ∧ m = 0) := by
  subst hsize
  subst hby
  have hsmall : n + m ≤ 9223372036854775807 := by simp only [maxLen] at h63; omega
  have hlen : (xs ++ news).length = (n + m) * i.size := by rw [List.length_append, hown.1, hsrc.newsLen, Nat.add_mul]
  have grown : ∀ (old : Nat), old < n + m → ∀ (row : Option Nat),
      (w.drew.alloc (.cells ((xs ++ news).toArray ++ Builtin.zeroCells z.cells (grownCap w (n + m) old e - (n + m))) e)).ownsRow base e i.size
        (.slice (some ⟨w.heap.size, 0, none⟩) (n + m) (grownCap w (n + m) old e)) (n + m) (xs ++ news) ∧
      w.grownBy (w.drew.alloc (.cells ((xs ++ news).toArray ++ Builtin.zeroCells z.cells (grownCap w (n + m) old e - (n + m))) e)) row := by
    intro old ho row
    have hge := grownCap_ge w (n + m) old e
    have hcm : grownCap w (n + m) old e ≤ maxLen := grownCap_le_maxLen w (n + m) old e h63
    refine ⟨⟨hlen, .inr ⟨w.heap.size, _, _, rfl, hbase, heap_alloc_new w.drew _, hge, hcm, ?_, ?_⟩⟩, ⟨rfl, rfl, rfl, by simp, fun k hk _ => Below.heap_alloc w.drew _ k hk⟩⟩
    · simp only [Array.size_append, List.size_toArray, size_zeroCells, hzs, hlen, ← Nat.add_mul]
      congr 1
      omega
    · simp only [Array.toList_append, ← hlen]
      exact List.take_left
  rcases hown.2 with ⟨rfl, rfl⟩ | ⟨g, cap, cur, rfl, hbg, hg, hnc, hcm, hcs, htake⟩
  · have hx : xs = [] := List.eq_nil_of_length_eq_zero (by simpa using hown.1)
    subst hx
    by_cases hm : m = 0
    · subst hm
      have hn : news = [] := List.eq_nil_of_length_eq_zero (by simpa using hsrc.newsLen)
      subst hn
      refine ⟨.slice none 0 0, w, ?_, World.ownsRow_nil w base e i.size, ⟨rfl, rfl, rfl, Nat.le_refl _, fun _ _ _ => rfl⟩, .inl rfl, fun _ => ⟨rfl, rfl⟩⟩
      have hf1 := hsrc.cells
      rcases hsrc.kind with ⟨e', hk⟩ | hk <;>
        simp [Builtin.append_, run_underlying ht, run_underlying hk, sizeOf, typeInfo, hi, hsrc.len, hf1]
    · have hr := run_append_grow_src (P := P) w t tx ty e i z ht hi hz none 0 0 [] (run_firstCells_none w.drew i.size 0 0 0) x m news hsrc (by omega) (by omega) (growslice_fits (by omega) hbytes)
      have hgr := grown 0 (by omega) (Value.ownBlock (.slice none 0 0))
      exact ⟨_, _, hr, hgr.1, hgr.2, .inr ⟨w.heap.size, rfl, Nat.le_refl _⟩, by simp⟩
  · by_cases hroom : n + m ≤ cap
    · have hnl := hsrc.newsLen
      have hfit : n * i.size + news.length ≤ cur.size := by rw [hnl, hcs, ← Nat.add_mul]; exact Nat.mul_le_mul_right _ hroom
      have hst := run_storeCells_at P g (n * i.size) e news 0 cur w hg (by simpa using hfit) hsrc.one
      simp only [Nat.add_zero] at hst
      have hr : (Builtin.append_ #[t, tx] ty #[.slice (some ⟨g, 0, none⟩) n cap, x]).run P w =
          .ok (.slice (some ⟨g, 0, none⟩) (n + m) cap) (w.setRow g (cur.toList.take (n * i.size) ++ news ++ cur.toList.drop (n * i.size + news.length)).toArray) := by
        rcases hsrc.kind with ⟨e', hk⟩ | hk <;>
          simp [Builtin.append_, run_underlying ht, run_underlying hk, sizeOf, typeInfo, hi, hsrc.len, hroom, hsrc.cells, Addr.add_lit, hst]
      refine ⟨_, _, hr, ⟨hlen, .inr ⟨g, cap, _, rfl, hbg, setRow_heap w g cur _ e _ hg, hroom, hcm, ?_, ?_⟩⟩, ⟨rfl, rfl, rfl, by simp, fun k _ hk => setRow_other w g k _ (fun e => hk (by simp [Value.ownBlock, e]))⟩, .inl rfl, by simp⟩
      · simp only [List.size_toArray, List.length_append, List.length_take, List.length_drop, Array.length_toList]
        omega
      · rw [htake, ← hlen]
        exact List.take_left
    · have holds : ∀ j u, xs[j]? = some u → w.drew.cell? ((⟨g, 0, none⟩ : Addr).add j) = some u := World.ownsRow.cells (w := w) hown (g := g) rfl
      have hr := run_append_grow_src (P := P) w t tx ty e i z ht hi hz (some ⟨g, 0, none⟩) n cap xs (run_firstCells_some w.drew i.size n _ n cap xs hown.1 holds) x m news hsrc (by omega) (by omega) (growslice_fits (by omega) hbytes)
      have hgr := grown cap (by omega) (Value.ownBlock (.slice (some ⟨g, 0, none⟩) n cap))
      exact ⟨_, _, hr, hgr.1, hgr.2, .inr ⟨w.heap.size, rfl, Nat.le_refl _⟩, by simp⟩

theorem heap_setCell_at {w : World} {p : Nat} {cs : Array Value} {t : TypeId} {fz : Nat × Nat} (h : w.heap[p]? = some (.cells cs t fz)) (j : Nat) (u : Value) : (w.setCell ⟨p, j, none⟩ u).heap[p]? = some (.cells (cs.setIfInBounds j u) t fz) := by
  simp [World.setCell, Array.getElem?_modify, h]

end Go.Proofs.YticiofkiffgclaaGreat

namespace Go.Proofs.YticiofkiffgclaaGreat
open Go.RowKit

structure Fr (B : Nat) (ts : List TypeId) (w w' : World) : Prop where
  os : w'.os = w.os
  tape : w'.tape = w.tape
  output : w'.output = w.output
  size : w.heap.size ≤ w'.heap.size
  block : ∀ k, k < w.heap.size → w'.heap[k]? = w.heap[k]? ∨ (B ≤ k ∧ ∃ cs cs' t fz, t ∈ ts ∧ w.heap[k]? = some (.cells cs t fz) ∧ w'.heap[k]? = some (.cells cs' t fz))

theorem Fr.refl (B : Nat) (ts : List TypeId) (w : World) : Fr B ts w w := ⟨rfl, rfl, rfl, Nat.le_refl _, fun _ _ => .inl rfl⟩

theorem Fr.trans {B : Nat} {ts : List TypeId} {a b c : World} (h : Fr B ts a b) (k : Fr B ts b c) : Fr B ts a c := by
  refine ⟨k.os.trans h.os, k.tape.trans h.tape, k.output.trans h.output, Nat.le_trans h.size k.size, fun i hi => ?_⟩
  rcases h.block i hi with h1 | ⟨hB, cs, cs', t, fz, ht, h1, h2⟩
  · rcases k.block i (Nat.lt_of_lt_of_le hi h.size) with k1 | ⟨hB, cs, cs', t, fz, ht, k1, k2⟩
    · exact .inl (k1.trans h1)
    · exact .inr ⟨hB, cs, cs', t, fz, ht, h1 ▸ k1, k2⟩
  · rcases k.block i (Nat.lt_of_lt_of_le hi h.size) with k1 | ⟨_, ds, ds', t', fz', ht', k1, k2⟩
    · exact .inr ⟨hB, cs, cs', t, fz, ht, h1, k1.trans h2⟩
    · rw [h2] at k1
      injection k1 with k1
      injection k1 with _ e1 e2
      subst e1; subst e2
      exact .inr ⟨hB, cs, ds', t, fz, ht, h1, k2⟩

theorem Fr.ofKept {w w' : World} (h : Kept w w' []) (B : Nat) (ts : List TypeId) : Fr B ts w w' := ⟨h.os, h.tape, h.output, h.size, fun k hk => .inl (h.block k hk (by simp))⟩

theorem Fr.drew {B : Nat} {ts : List TypeId} {a w : World} (h : Fr B ts a w) : Fr B ts a w.drew := ⟨h.os, h.tape, h.output, h.size, h.block⟩
theorem Fr.alloc {B : Nat} {ts : List TypeId} {a w : World} (h : Fr B ts a w) (o : Obj) : Fr B ts a (w.alloc o) := h.trans (Fr.ofKept ((Kept.refl w []).alloc o) B ts)

theorem heap_lt {w : World} {k : Nat} {o : Obj} (h : w.heap[k]? = some o) : k < w.heap.size := (Array.getElem?_eq_some_iff.1 h).1

theorem Fr.heap {B : Nat} {ts : List TypeId} {w w' : World} (h : Fr B ts w w') {k : Nat} {cs : Array Value} {t : TypeId} {fz : Nat × Nat} (hk : w.heap[k]? = some (.cells cs t fz)) (ht : t ∉ ts) : w'.heap[k]? = some (.cells cs t fz) := by
  rcases h.block k (heap_lt hk) with h1 | ⟨_, ds, ds', t', fz', ht', h1, _⟩
  · exact h1.trans hk
  · rw [hk] at h1
    injection h1 with h1
    injection h1 with _ e1
    subst e1
    exact absurd ht' ht

theorem Fr.setRow {B : Nat} {ts : List TypeId} {a w : World} (h : Fr B ts a w) {g : Nat} {cur : Array Value} {t : TypeId} {fz : Nat × Nat} (hg : w.heap[g]? = some (.cells cur t fz)) (hB : a.heap.size ≤ g ∨ (B ≤ g ∧ t ∈ ts)) (cs : Array Value) : Fr B ts a (w.setRow g cs) := by
  have hs : ∀ k, k ≠ g → (w.setRow g cs).heap[k]? = w.heap[k]? := fun k hk => setRow_other w g k cs hk
  refine ⟨h.os, h.tape, h.output, by simpa [World.setRow] using h.size, fun k hk => ?_⟩
  by_cases e : k = g
  · subst e
    rcases hB with hB | ⟨hB, ht⟩
    · omega
    · have h2 := setRow_heap w k cur cs t fz hg
      rcases h.block k hk with h1 | ⟨hb, cs1, cs2, t', fz', ht', h1, h3⟩
      · exact .inr ⟨hB, cur, cs, t, fz, ht, h1 ▸ hg, h2⟩
      · rw [hg] at h3
        injection h3 with h3
        injection h3 with _ e1 e2
        subst e1; subst e2
        exact .inr ⟨hB, cs1, cs, t, fz, ht, h1, h2⟩
  · rw [hs k e]; exact h.block k hk

theorem run_append_fr {P : Program} (w : World) (base : Nat) (t tx ty e : TypeId) (i : TypeInfo) (z : Value) (size bytes : Nat) (ht : P.underlying t = some (.slice e)) (hi : P.info? e = some i) (hz : i.zero = some z)
    (hsize : i.size = size) (hby : i.bytes = bytes) (hzs : z.cells.size = size)
    (v : Value) (n : Nat) (xs : List Value) (hown : w.ownsRow base e size v n xs)
    (x : Value) (m : Nat) (news : List Value) (hsrc : Src P size tx x m news w)
    (h63 : n + m ≤ maxLen) (hbytes : (n + m) * bytes ≤ 140737488355328) (hbase : base ≤ w.heap.size) :
    ∃ v' w', (Builtin.append_ #[t, tx] ty #[v, x]).run P w = .ok v' w' ∧ w'.ownsRow base e size v' (n + m) (xs ++ news) ∧ Fr base [e] w w' ∧ w.grownBy w' v.ownBlock := by
  subst hsize
  subst hby
  have hsmall : n + m ≤ 9223372036854775807 := by simp only [maxLen] at h63; omega
  have hlen : (xs ++ news).length = (n + m) * i.size := by rw [List.length_append, hown.1, hsrc.newsLen, Nat.add_mul]
  have grown : ∀ (old : Nat), old < n + m →
      (w.drew.alloc (.cells ((xs ++ news).toArray ++ Builtin.zeroCells z.cells (grownCap w (n + m) old e - (n + m))) e)).ownsRow base e i.size
        (.slice (some ⟨w.heap.size, 0, none⟩) (n + m) (grownCap w (n + m) old e)) (n + m) (xs ++ news) ∧
      Fr base [e] w (w.drew.alloc (.cells ((xs ++ news).toArray ++ Builtin.zeroCells z.cells (grownCap w (n + m) old e - (n + m))) e)) ∧
      ∀ row, w.grownBy (w.drew.alloc (.cells ((xs ++ news).toArray ++ Builtin.zeroCells z.cells (grownCap w (n + m) old e - (n + m))) e)) row := by
    intro old ho
    have hge := grownCap_ge w (n + m) old e
    have hcm : grownCap w (n + m) old e ≤ maxLen := grownCap_le_maxLen w (n + m) old e h63
    refine ⟨⟨hlen, .inr ⟨w.heap.size, _, _, rfl, hbase, heap_alloc_new w.drew _, hge, hcm, ?_, ?_⟩⟩, (Fr.refl _ _ _).drew.alloc _, fun row => ⟨rfl, rfl, rfl, by simp, fun k hk _ => Below.heap_alloc w.drew _ k hk⟩⟩
    · simp only [Array.size_append, List.size_toArray, size_zeroCells, hzs, hlen, ← Nat.add_mul]
      congr 1
      omega
    · simp only [Array.toList_append, ← hlen]
      exact List.take_left
  rcases hown.2 with ⟨rfl, rfl⟩ | ⟨g, cap, cur, rfl, hbg, hg, hnc, hcm, hcs, htake⟩
  · have hx : xs = [] := List.eq_nil_of_length_eq_zero (by simpa using hown.1)
    subst hx
    by_cases hm : m = 0
    · subst hm
      have hn : news = [] := List.eq_nil_of_length_eq_zero (by simpa using hsrc.newsLen)
      subst hn
      refine ⟨.slice none 0 0, w, ?_, World.ownsRow_nil w base e i.size, Fr.refl _ _ _, World.grownBy.refl w _⟩
      have hf1 := hsrc.cells
      rcases hsrc.kind with ⟨e', hk⟩ | hk <;>
        simp [Builtin.append_, run_underlying ht, run_underlying hk, sizeOf, typeInfo, hi, hsrc.len, hf1]
    · have hr := run_append_grow_src (P := P) w t tx ty e i z ht hi hz none 0 0 [] (run_firstCells_none w.drew i.size 0 0 0) x m news hsrc (by omega) (by omega) (growslice_fits (by omega) hbytes)
      have hgr := grown 0 (by omega)
      exact ⟨_, _, hr, hgr.1, hgr.2.1, hgr.2.2 _⟩
  · by_cases hroom : n + m ≤ cap
    · have hnl := hsrc.newsLen
      have hfit : n * i.size + news.length ≤ cur.size := by rw [hnl, hcs, ← Nat.add_mul]; exact Nat.mul_le_mul_right _ hroom
      have hst := run_storeCells_at P g (n * i.size) e news 0 cur w hg (by simpa using hfit) hsrc.one
      simp only [Nat.add_zero] at hst
      have hr : (Builtin.append_ #[t, tx] ty #[.slice (some ⟨g, 0, none⟩) n cap, x]).run P w =
          .ok (.slice (some ⟨g, 0, none⟩) (n + m) cap) (w.setRow g (cur.toList.take (n * i.size) ++ news ++ cur.toList.drop (n * i.size + news.length)).toArray) := by
        rcases hsrc.kind with ⟨e', hk⟩ | hk <;>
          simp [Builtin.append_, run_underlying ht, run_underlying hk, sizeOf, typeInfo, hi, hsrc.len, hroom, hsrc.cells, Addr.add_lit, hst]
      refine ⟨_, _, hr, ⟨hlen, .inr ⟨g, cap, _, rfl, hbg, setRow_heap w g cur _ e _ hg, hroom, hcm, ?_, ?_⟩⟩, (Fr.refl _ _ w).setRow hg (.inr ⟨hbg, by simp⟩) _, ⟨rfl, rfl, rfl, by simp, fun k _ hk => setRow_other w g k _ (fun e => hk (by simp [Value.ownBlock, e]))⟩⟩
      · simp only [List.size_toArray, List.length_append, List.length_take, List.length_drop, Array.length_toList]
        omega
      · rw [htake, ← hlen]
        exact List.take_left
    · have holds : ∀ j u, xs[j]? = some u → w.drew.cell? ((⟨g, 0, none⟩ : Addr).add j) = some u := World.ownsRow.cells (w := w) hown (g := g) rfl
      have hr := run_append_grow_src (P := P) w t tx ty e i z ht hi hz (some ⟨g, 0, none⟩) n cap xs (run_firstCells_some w.drew i.size n _ n cap xs hown.1 holds) x m news hsrc (by omega) (by omega) (growslice_fits (by omega) hbytes)
      have hgr := grown cap (by omega)
      exact ⟨_, _, hr, hgr.1, hgr.2.1, hgr.2.2 _⟩

end Go.Proofs.YticiofkiffgclaaGreat

namespace Go.Proofs.YticiofkiffgclaaGreat
open Go.RowKit

structure Fo (O : Nat → Prop) (w w' : World) : Prop where
  os : w'.os = w.os
  tape : w'.tape = w.tape
  output : w'.output = w.output
  size : w.heap.size ≤ w'.heap.size
  block : ∀ k, k < w.heap.size → ¬ O k → w'.heap[k]? = w.heap[k]?

theorem Fo.refl (O : Nat → Prop) (w : World) : Fo O w w := ⟨rfl, rfl, rfl, Nat.le_refl _, fun _ _ _ => rfl⟩
theorem Fo.trans {O : Nat → Prop} {a b c : World} (h : Fo O a b) (k : Fo O b c) : Fo O a c :=
  ⟨k.os.trans h.os, k.tape.trans h.tape, k.output.trans h.output, Nat.le_trans h.size k.size, fun i hi hn => (k.block i (Nat.lt_of_lt_of_le hi h.size) hn).trans (h.block i hi hn)⟩
theorem Fo.ofKept {w w' : World} (h : Kept w w' []) (O : Nat → Prop) : Fo O w w' := ⟨h.os, h.tape, h.output, h.size, fun k hk _ => h.block k hk (by simp)⟩
theorem Fo.mono {O O' : Nat → Prop} {a b : World} (h : Fo O a b) (hs : ∀ k, O k → O' k) : Fo O' a b := ⟨h.os, h.tape, h.output, h.size, fun k hk hn => h.block k hk (fun ho => hn (hs k ho))⟩
theorem Fo.drew {O : Nat → Prop} {a w : World} (h : Fo O a w) : Fo O a w.drew := ⟨h.os, h.tape, h.output, h.size, h.block⟩
theorem Fo.setCell {O : Nat → Prop} {a w : World} (h : Fo O a w) {p : Addr} (hp : O p.block ∨ a.heap.size ≤ p.block) (u : Value) : Fo O a (w.setCell p u) :=
  ⟨h.os, h.tape, h.output, by have := h.size; simp [World.setCell]; omega, fun k hk hn => (Below.heap_setCell w p u k (by rintro rfl; rcases hp with h1 | h1; exact hn h1; omega)).trans (h.block k hk hn)⟩
theorem Fo.grown {O : Nat → Prop} {a w w' : World} {row : Option Nat} (h : Fo O a w) (hg : w.grownBy w' row) (hr : ∀ k, row = some k → O k ∨ a.heap.size ≤ k) : Fo O a w' :=
  ⟨hg.os.trans h.os, hg.tape.trans h.tape, hg.output.trans h.output, Nat.le_trans h.size hg.size, fun k hk hn =>
    (hg.block k (Nat.lt_of_lt_of_le hk h.size) (fun e => by rcases hr k e.symm with h1 | h1; exact hn h1; omega)).trans (h.block k hk hn)⟩
theorem Fo.heap {O : Nat → Prop} {w w' : World} (h : Fo O w w') {k : Nat} (hk : ¬ O k) {o : Obj} (ho : w.heap[k]? = some o) : w'.heap[k]? = some o := (h.block k (heap_lt ho) hk).trans ho

def Stp (O O' : Nat → Prop) (w w' : World) : Prop := Fo O w w' ∧ ∀ k, O' k → O k ∨ w.heap.size ≤ k
theorem Stp.trans {O O1 O2 : Nat → Prop} {a b c : World} (h : Stp O O1 a b) (k : Stp O1 O2 b c) : Stp O O2 a c := by
  obtain ⟨h1, h2⟩ := h
  obtain ⟨k1, k2⟩ := k
  refine ⟨⟨k1.os.trans h1.os, k1.tape.trans h1.tape, k1.output.trans h1.output, Nat.le_trans h1.size k1.size, fun i hi hn => ?_⟩, fun i hi => ?_⟩
  · refine (k1.block i (Nat.lt_of_lt_of_le hi h1.size) (fun ho => ?_)).trans (h1.block i hi hn)
    rcases h2 i ho with h | h
    · exact hn h
    · omega
  · rcases k2 i hi with h | h
    · exact h2 i h
    · exact .inr (Nat.le_trans h1.size h)

theorem ownsRow_fo {w w' : World} {base e size n : Nat} {O : Nat → Prop} {v : Value} {xs : List Value} (h : w.ownsRow base e size v n xs) (hf : Fo O w w') (he : ∀ g, v.ownBlock = some g → ¬ O g) : w'.ownsRow base e size v n xs := by
  refine ⟨h.1, ?_⟩
  rcases h.2 with h2 | ⟨g, cap, cur, rfl, hbg, hg, r⟩
  · exact .inl h2
  · exact .inr ⟨g, cap, cur, rfl, hbg, hf.heap (he g rfl) hg, r⟩

theorem run_append_all {P : Program} (w : World) (base : Nat) (t tx ty e : TypeId) (i : TypeInfo) (z : Value) (size bytes : Nat) (ht : P.underlying t = some (.slice e)) (hi : P.info? e = some i) (hz : i.zero = some z)
    (hsize : i.size = size) (hby : i.bytes = bytes) (hzs : z.cells.size = size)
    (v : Value) (n : Nat) (xs : List Value) (hown : w.ownsRow base e size v n xs)
    (x : Value) (m : Nat) (news : List Value) (hsrc : Src P size tx x m news w)
    (h63 : n + m ≤ maxLen) (hbytes : (n + m) * bytes ≤ 140737488355328) (hbase : base ≤ w.heap.size) :
    ∃ v' w', (Builtin.append_ #[t, tx] ty #[v, x]).run P w = .ok v' w' ∧ w'.ownsRow base e size v' (n + m) (xs ++ news) ∧ Fr base [e] w w' ∧ w.grownBy w' v.ownBlock ∧
      (v'.ownBlock = v.ownBlock ∨ ∃ g, v'.ownBlock = some g ∧ w.heap.size ≤ g) := by
  obtain ⟨v1, w1, hr1, ho, hf, hg⟩ := run_append_fr (P := P) w base t tx ty e i z size bytes ht hi hz hsize hby hzs v n xs hown x m news hsrc h63 hbytes hbase
  obtain ⟨v2, w2, hr2, _, _, hl, _⟩ := run_append_src (P := P) w base t tx ty e i z size bytes ht hi hz hsize hby hzs v n xs hown x m news hsrc h63 hbytes hbase
  rw [hr1] at hr2
  simp only [Result.ok.injEq] at hr2
  obtain ⟨rfl, rfl⟩ := hr2
  exact ⟨v1, w1, hr1, ho, hf, hg, hl⟩

theorem wpList_append_all {P : Program} (w : World) {ops : Array Oper} {rest : List Oper} {o : Oper} {a : Act} {Q : Exit → Act → World → Prop} (hgd : o.guard = none) (s x : Operand) (t tx : TypeId)
    (ho : o.op = .call { callee := .builtin .append, args := #[s, x], argTypes := #[t, tx] })
    (base : Nat) (e : TypeId) (i : TypeInfo) (z : Value) (size bytes : Nat) (ht : P.underlying t = some (.slice e)) (hi : P.info? e = some i) (hz : i.zero = some z)
    (hsize : i.size = size) (hby : i.bytes = bytes) (hzs : z.cells.size = size)
    (v : Value) (n : Nat) (xs : List Value) (hs : a.eval s = v) (hown : w.ownsRow base e size v n xs)
    (xv : Value) (m : Nat) (news : List Value) (hx : a.eval x = xv) (hsrc : Src P size tx xv m news w)
    (h63 : n + m ≤ maxLen) (hbytes : (n + m) * bytes ≤ 140737488355328) (hbase : base ≤ w.heap.size)
    (h : ∀ v' w', w'.ownsRow base e size v' (n + m) (xs ++ news) → Fr base [e] w w' → w.grownBy w' v.ownBlock → (v'.ownBlock = v.ownBlock ∨ ∃ g, v'.ownBlock = some g ∧ w.heap.size ≤ g) → wpList P ops Q rest (a.put o.dst v') w') :
    wpList P ops Q (o :: rest) a w := by
  refine wpList_plain hgd fun K hK => ?_
  obtain ⟨v', w', hr, h2, h3, h4, h5⟩ := run_append_all (P := P) w base t tx o.type e i z size bytes ht hi hz hsize hby hzs v n xs hown xv m news hsrc h63 hbytes hbase
  unfold Oper.wp
  simp [execOp, ho, resolve, invoke, builtin, hs, hx, hr, Result.andThen]
  exact hK _ _ (h v' w' h2 h3 h4 h5)

end Go.Proofs.YticiofkiffgclaaGreat

namespace Go.Proofs.YticiofkiffgclaaGreat
set_option linter.unusedVariables false
open Go.RowKit

structure Enc (α : Type) where
  k : Nat
  cs : α → Array Value
  size : ∀ x, (cs x).size = k
  one : ∀ x, ∀ u ∈ (cs x).toList, u.oneCell' = true
  pos : 0 < k

variable {α : Type} (E : Enc α)

def kcs : List α → List Value
  | [] => []
  | x :: t => (E.cs x).toList ++ kcs t

theorem kcs_length (l : List α) : (kcs E l).length = l.length * E.k := by
  induction l with
  | nil => simp [kcs]
  | cons x t ih => rw [kcs, List.length_append, ih, List.length_cons, Array.length_toList, E.size, Nat.succ_mul, Nat.add_comm]

theorem kcs_append (l m : List α) : kcs E (l ++ m) = kcs E l ++ kcs E m := by
  induction l with
  | nil => rfl
  | cons x t ih => rw [List.cons_append, kcs, kcs, ih, List.append_assoc]

theorem kcs_single (x : α) : kcs E [x] = (E.cs x).toList := by simp [kcs]

theorem kcs_one (l : List α) : ∀ u ∈ kcs E l, u.oneCell' = true := by
  induction l with
  | nil => intro u hu; simp [kcs] at hu
  | cons x t ih =>
    intro u hu
    rcases List.mem_append.1 hu with h | h
    · exact E.one x u h
    · exact ih u h

theorem kcs_get (l : List α) : ∀ (i j : Nat) (h : i < l.length), j < E.k → (kcs E l)[i * E.k + j]? = (E.cs l[i])[j]? := by
  induction l with
  | nil => intro i j h; simp at h
  | cons x t ih =>
    intro i j h hj
    rw [kcs]
    cases i with
    | zero =>
      rw [Nat.zero_mul, Nat.zero_add, List.getElem?_append_left (by rw [Array.length_toList, E.size]; exact hj), Array.getElem?_toList]
      rfl
    | succ i =>
      have e : (i + 1) * E.k + j - E.k = i * E.k + j := by rw [Nat.succ_mul]; omega
      rw [List.getElem?_append_right (by rw [Array.length_toList, E.size, Nat.succ_mul]; omega), Array.length_toList, E.size, e]
      exact ih i j (by simpa using h) hj

theorem kcs_some (l : List α) (j : Nat) (h : j < l.length * E.k) : ∃ u, (kcs E l)[j]? = some u := ⟨_, List.getElem?_eq_getElem (by rw [kcs_length]; exact h)⟩

theorem at_lt {n i j k : Nat} (hi : i < n) (hj : j < k) : i * k + j < n * k := by
  have : (i + 1) * k ≤ n * k := Nat.mul_le_mul_right k hi
  rw [Nat.succ_mul] at this
  omega

theorem kcs_take (l : List α) (q : Nat) (hq : q ≤ l.length) : kcs E (l.take q) = (kcs E l).take (q * E.k) := by
  have hl : (kcs E (l.take q)).length = q * E.k := by rw [kcs_length, List.length_take, Nat.min_eq_left hq]
  conv => rhs; rw [← List.take_append_drop q l, kcs_append]
  exact (List.take_left' hl).symm

theorem kcs_drop (l : List α) (q : Nat) (hq : q ≤ l.length) : kcs E (l.drop q) = (kcs E l).drop (q * E.k) := by
  have hl : (kcs E (l.take q)).length = q * E.k := by rw [kcs_length, List.length_take, Nat.min_eq_left hq]
  conv => rhs; rw [← List.take_append_drop q l, kcs_append]
  exact (List.drop_left' hl).symm

def RdK (w : World) (v : Value) (l : List α) : Prop :=
  ∃ a c, v = .slice a l.length c ∧ l.length ≤ c ∧ (a = none → c = 0) ∧
    (l ≠ [] → ∃ b o, a = some ⟨b, o, none⟩ ∧ ∀ j, j < l.length * E.k → w.cell? ⟨b, o + j, none⟩ = (kcs E l)[j]?)

variable {E}

theorem RdK.nil (w : World) : RdK E w (.slice none 0 0) [] := ⟨none, 0, rfl, Nat.le_refl _, fun _ => rfl, fun h => absurd rfl h⟩
theorem RdK.shape {w : World} {v : Value} {l : List α} (h : RdK E w v l) : ∃ a c, v = .slice a l.length c := by
  obtain ⟨a, c, h, _⟩ := h
  exact ⟨a, c, h⟩
theorem RdK.at {w : World} {a : Option Addr} {n c : Nat} {l : List α} (h : RdK E w (.slice a n c) l) {i : Nat} {x : α} (hx : l[i]? = some x) : ∃ b o, a = some ⟨b, o, none⟩ ∧ ∀ j, j < E.k → w.cell? ⟨b, o + i * E.k + j, none⟩ = (E.cs x)[j]? := by
  obtain ⟨hi, rfl⟩ := List.getElem?_eq_some_iff.1 hx
  obtain ⟨a', c', hv, _, _, hl⟩ := h
  simp only [Value.slice.injEq] at hv
  obtain ⟨rfl, _, _⟩ := hv
  obtain ⟨b, o, rfl, hcell⟩ := hl (by rintro rfl; simp at hi)
  refine ⟨b, o, rfl, fun j hj => ?_⟩
  rw [← kcs_get E l i j hi hj, Nat.add_assoc]
  exact hcell _ (at_lt hi hj)

theorem RdK.here {w : World} {b o n c : Nat} {l : List α} (h : RdK E w (.slice (some ⟨b, o, none⟩) n c) l) {i : Nat} {x : α} (hx : l[i]? = some x) (j : Nat) (hj : j < E.k) : w.cell? ⟨b, o + i * E.k + j, none⟩ = (E.cs x)[j]? := by
  obtain ⟨b', o', e, f⟩ := h.at hx
  simp only [Option.some.injEq, Addr.mk.injEq] at e
  obtain ⟨rfl, rfl, _⟩ := e
  exact f j hj

theorem RdK.src {P : Program} {w : World} {v : Value} {l : List α} (h : RdK E w v l) {tx e' : TypeId} (hk : P.underlying tx = some (.slice e')) : Src P E.k tx v l.length (kcs E l) w := by
  obtain ⟨a, c, rfl, hc, ha, hl⟩ := h
  by_cases hne : l = []
  · subst hne
    cases a with
    | none => obtain rfl := ha rfl; exact Src.ofNil w hk 0
    | some x => exact Src.ofSlice w hk x 0 c [] (by simp) (by simp) (by simp)
  · obtain ⟨b, o, rfl, hcell⟩ := hl hne
    refine Src.ofSlice w hk ⟨b, o, none⟩ l.length c (kcs E l) (by rw [kcs_length]) (fun j u hu => ?_) (kcs_one E l)
    have hj := (List.getElem?_eq_some_iff.1 hu).1
    rw [kcs_length] at hj
    rw [Addr.add_lit, hcell j hj]
    exact hu

theorem rdK_one {w : World} {z : Nat} {x : α} {t : TypeId} {fz : Nat × Nat} (h : w.heap[z]? = some (.cells (E.cs x) t fz)) : RdK E w (.slice (some ⟨z, 0, none⟩) 1 1) [x] := by
  refine ⟨_, _, rfl, Nat.le_refl _, by simp, fun _ => ⟨z, 0, rfl, fun j hj => ?_⟩⟩
  rw [cell_of_row _ _ _ _ _ _ h, kcs_single]
  simp

variable (E) in
def OwnK (w : World) (base : Nat) (e : TypeId) (v : Value) (l : List α) : Prop := w.ownsRow base e E.k v l.length (kcs E l)

theorem OwnK.nil (w : World) (base : Nat) (e : TypeId) : OwnK E w base e (.slice none 0 0) [] := World.ownsRow_nil w base e E.k

theorem OwnK.rd {w : World} {base : Nat} {e : TypeId} {v : Value} {l : List α} (h : OwnK E w base e v l) : RdK E w v l := by
  rcases h.2 with ⟨rfl, hn⟩ | ⟨g, cap, cur, rfl, hb, hg, hnc, hcm, hcs, ht⟩
  · have : l = [] := List.eq_nil_of_length_eq_zero hn
    subst this
    exact RdK.nil w
  · refine ⟨some ⟨g, 0, none⟩, cap, rfl, hnc, by simp, fun _ => ⟨g, 0, rfl, fun j hj => ?_⟩⟩
    obtain ⟨u, hu⟩ := kcs_some E l j hj
    have := World.ownsRow.cells h (g := g) rfl j u hu
    rw [hu]
    simpa [Addr.add_lit] using this

theorem OwnK.kept {w w' : World} {base : Nat} {e : TypeId} {v : Value} {l : List α} {bs : List Nat} (h : OwnK E w base e v l) (hk : Kept w w' bs) (hb : ∀ b, v.ownBlock = some b → b ∉ bs) : OwnK E w' base e v l := by
  refine ⟨h.1, ?_⟩
  rcases h.2 with h2 | ⟨g, cap, cur, rfl, hbg, hg, rest⟩
  · exact .inl h2
  · exact .inr ⟨g, cap, cur, rfl, hbg, hk.heap (hb g rfl) hg, rest⟩
theorem OwnK.lt {w : World} {base : Nat} {e : TypeId} {v : Value} {l : List α} (h : OwnK E w base e v l) : ∀ b, v.ownBlock = some b → base ≤ b ∧ b < w.heap.size := World.ownsRow.lt h

theorem OwnK.shape {w : World} {base : Nat} {e : TypeId} {v : Value} {l : List α} (h : OwnK E w base e v l) : ∃ a c, v = .slice a l.length c := h.rd.shape

theorem OwnK.fo {w w' : World} {base : Nat} {e : TypeId} {v : Value} {m : List α} {O : Nat → Prop} (x : OwnK E w base e v m) (hf : Fo O w w') (he : ∀ g, v.ownBlock = some g → ¬ O g) : OwnK E w' base e v m := ownsRow_fo x hf he
theorem OwnK.tag {w : World} {base : Nat} {e : TypeId} {v : Value} {m : List α} (x : OwnK E w base e v m) {g : Nat} (hk : v.ownBlock = some g) : ∃ cur, w.heap[g]? = some (.cells cur e (0, 0)) := by
  rcases x.2 with ⟨rfl, _⟩ | ⟨g, cap, cur, rfl, _, hg, _⟩
  · simp [Value.ownBlock] at hk
  · simp only [Value.ownBlock, Option.some.injEq] at hk
    subst hk
    exact ⟨cur, hg⟩
theorem OwnK.apart {w : World} {base : Nat} {e t : TypeId} {v : Value} {m : List α} (x : OwnK E w base e v m) {g : Nat} {cs : Array Value} {fz : Nat × Nat} (hk : w.heap[g]? = some (.cells cs t fz)) (ht : t ≠ e) : v.ownBlock ≠ some g := by
  intro hv
  obtain ⟨cur, hc⟩ := x.tag hv
  rw [hc] at hk
  simp only [Option.some.injEq, Obj.cells.injEq] at hk
  exact ht hk.2.1.symm

theorem OwnK.at {w : World} {base : Nat} {e : TypeId} {a : Option Addr} {n c : Nat} {l : List α} (h : OwnK E w base e (.slice a n c) l) {i : Nat} {x : α} (hx : l[i]? = some x) :
    ∃ g, a = some ⟨g, 0, none⟩ ∧ ∀ j, j < E.k → w.cell? ⟨g, i * E.k + j, none⟩ = (E.cs x)[j]? ∧ w.frozen? ⟨g, i * E.k + j, none⟩ = false := by
  obtain ⟨hi, e1⟩ := List.getElem?_eq_some_iff.1 hx
  rcases h.2 with ⟨h1, hn⟩ | ⟨g, cap, cur, hv, hb, hg, hnc, hcm, hcs, ht⟩
  · omega
  · simp only [Value.slice.injEq] at hv
    obtain ⟨rfl, _, _⟩ := hv
    refine ⟨g, rfl, fun j hj => ⟨?_, frozen_of_row _ _ _ _ _ hg⟩⟩
    have := h.rd.here hx j hj
    rwa [Nat.zero_add] at this

def putAll (w : World) (g : Nat) : Nat → List Value → World
  | _, [] => w
  | o, u :: r => putAll (w.setCell ⟨g, o, none⟩ u) g (o + 1) r

theorem putAll_kept {bs : List Nat} {a : World} {g : Nat} (us : List Value) : ∀ (w : World) (o : Nat), Kept a w bs → (g ∈ bs ∨ a.heap.size ≤ g) → Kept a (putAll w g o us) bs := by
  induction us with
  | nil => intro w o h _; exact h
  | cons u r ih => intro w o h hg; exact ih _ _ (h.setCell (p := ⟨g, o, none⟩) hg u) hg

end Go.Proofs.YticiofkiffgclaaGreat
