/-
  Wu, Kit, Math, Writer, Clone, Int, Text in one text.
-/
import Derived.Deep.RegionHeld3
import Derived.WalkKit
import Derived.KernelRfl
import Derived.Lib.Hide
import Derived.WalkSpells
import Derived.WalkLawsBesides
import Derived.Deep.AppendSrc
import Derived.Test.YtjdbmlifekghfaaRows
import Derived.Lib.Zigzag
import Derived.Deep.QuietTactic
import Derived.BigQuiet
set_option linter.unusedVariables false
set_option maxHeartbeats 16000000
set_option maxRecDepth 100000
namespace Go.Proofs.Ytjdbmlifekghfaa
open Go.RowKit
theorem iH {p : Prop} (h : p) : RowKit.Hid p := Lib.hid h
theorem qqA (l : List Value) (ds) (k : Nat) (v : Value) : Act.put ⟨l.toArray, ds⟩ (some k) v = ⟨(l.set k v).toArray, ds⟩ := by simp [Act.put]
theorem qq0 {α : Type} (x a : α) (l : List α) : (x :: l).set 0 a = a :: l := rfl
theorem qq1 {α : Type} (x a : α) (l : List α) (n : Nat) : (x :: l).set (n + 1) a = x :: l.set n a := rfl
section
variable {P : Program} {md : Region.Mode} {ops : Array Oper} {Q : Exit → Act → World → Prop} {S : World → Prop} {fuel : Nat} {listed : Array Bool} {a : Act} {w : World}
theorem wx (i d : Nat) (v : Value) {oi : Oper} {a' : Act} (hi : ops[i]? = some oi) (hS : S w)
    (h : wpAnyH P md ops Q S fuel (listed.setIfInBounds i true) a' w) (ha : a.put (some d) v = a' := by simp only [qqA, qq0, qq1]; rfl) (hd : oi.dst = some d := by rfl) (hy : ∀ w, S w → (execOp a.eval oi).run P w = .ok (.value v) w := by intro V hV; go_simp) (hw : Region.wanted oi (yielded ops a.tmps) = true := by rfl) (hs : Region.noSelect ops = true := by kernel_rfl) (hf : Region.free md ops listed i = true := by kernel_rfl) (hr : (Region.ready md ops listed).contains i = true := by kernel_rfl) (hQ : ∀ c a w, Q (.panic c) (a.put oi.dst v) w → Q (.panic c) a w := by exact fun _ _ _ h => h) : wpAnyH P md ops Q S (fuel + 1) listed a w :=
  wpAnyH_take hi hs hf hr hQ (.inl ⟨hw, hy⟩) hS (by rw [hd, ha]; exact h)
theorem wn (i d : Nat) {oi : Oper} {a' : Act} (hi : ops[i]? = some oi) (hS : S w)
    (h : wpAnyH P md ops Q S fuel (listed.setIfInBounds i true) a' w) (ha : a.put (some d) undef = a' := by simp only [qqA, qq0, qq1]; rfl) (hd : oi.dst = some d := by rfl) (hw : Region.wanted oi (yielded ops a.tmps) = false := by rfl) (hs : Region.noSelect ops = true := by kernel_rfl) (hf : Region.free md ops listed i = true := by kernel_rfl) (hr : (Region.ready md ops listed).contains i = true := by kernel_rfl) (hQ : ∀ c a w, Q (.panic c) (a.put oi.dst undef) w → Q (.panic c) a w := by exact fun _ _ _ h => h) : wpAnyH P md ops Q S (fuel + 1) listed a w :=
  wpAnyH_take hi hs hf hr hQ (.inr ⟨hw, rfl⟩) hS (by rw [hd, ha]; exact h)
theorem wr1 (i : Nat) {o : Oper} (ho : ops[i]? = some o)
    (h : ∀ K' : Act → World → Prop, Shut (∀ a w, S w → (S w → wpAnyH P md ops Q S fuel (listed.setIfInBounds i true) a w) → K' a w) → if Region.wanted o (yielded ops a.tmps) = true then Oper.wp P o a w K' Q else K' (a.put o.dst undef) w) (hr : Region.ready md ops listed = [i] := by kernel_rfl) : wpAnyH P md ops Q S (fuel + 1) listed a w :=
  wpAnyH_ready hr (by simp) (AllReadyH.cons ho h AllReadyH.nil)
theorem wd (h : Q .normal a w) (hr : Region.ready md ops listed = [] := by kernel_rfl) : wpAnyH P md ops Q S fuel listed a w := wpAnyH_done hr h _
end
structure Kept (w w' : World) (bs : List Nat) : Prop where
 os : w'.os = w.os
 tape : w'.tape = w.tape
 output : w'.output = w.output
 size : w.heap.size <= w'.heap.size
 block : ∀ k, k < w.heap.size -> k ∉ bs -> w'.heap[k]? = w.heap[k]?
theorem Kept.refl (w : World) (bs : List Nat) : Kept w w bs := ⟨rfl, rfl, rfl, Nat.le_refl _, fun _ _ _ => rfl⟩
theorem Kept.trans {a b c : World} {bs cs : List Nat} (h : Kept a b bs) (k : Kept b c cs) (hcs : ∀ x, x ∈ cs -> x ∈ bs ∨ a.heap.size <= x) : Kept a c bs :=
 ⟨k.os.trans h.os, k.tape.trans h.tape, k.output.trans h.output, Nat.le_trans h.size k.size, fun i hi hn =>
  (k.block i (Nat.lt_of_lt_of_le hi h.size) (fun hm => by rcases hcs i hm with h1 | h1; exact hn h1; omega)).trans (h.block i hi hn)⟩
theorem Kept.mono {a b : World} {bs cs : List Nat} (h : Kept a b bs) (hs : ∀ x, x ∈ bs -> x ∈ cs) : Kept a b cs :=
 ⟨h.os, h.tape, h.output, h.size, fun i hi hn => h.block i hi (fun hm => hn (hs i hm))⟩
theorem Kept.drewN {a w : World} {bs : List Nat} (h : Kept a w bs) (n : Nat) : Kept a (w.drewN n) bs := ⟨h.os, h.tape, h.output, h.size, h.block⟩
theorem Kept.drew {a w : World} {bs : List Nat} (h : Kept a w bs) : Kept a w.drew bs := ⟨h.os, h.tape, h.output, h.size, h.block⟩
theorem Kept.alloc {a w : World} {bs : List Nat} (h : Kept a w bs) (o : Obj) : Kept a (w.alloc o) bs :=
 ⟨h.os, h.tape, h.output, by have := h.size; simp; omega, fun k hk hn => (Below.heap_alloc w o k (Nat.lt_of_lt_of_le hk h.size)).trans (h.block k hk hn)⟩
theorem Kept.setCell {a w : World} {bs : List Nat} (h : Kept a w bs) {p : Addr} (hp : p.block ∈ bs ∨ a.heap.size <= p.block) (u : Value) : Kept a (w.setCell p u) bs :=
 ⟨h.os, h.tape, h.output, by have := h.size; simp [World.setCell]; omega, fun k hk hn => (Below.heap_setCell w p u k (by rintro rfl; rcases hp with h1 | h1; exact hn h1; omega)).trans (h.block k hk hn)⟩
theorem Kept.grown {a w w' : World} {bs : List Nat} {row : Option Nat} (h : Kept a w bs) (hg : w.grownBy w' row) (hr : ∀ k, row = some k -> k ∈ bs ∨ a.heap.size <= k) : Kept a w' bs :=
 ⟨hg.os.trans h.os, hg.tape.trans h.tape, hg.output.trans h.output, Nat.le_trans h.size hg.size, fun k hk hn =>
  (hg.block k (Nat.lt_of_lt_of_le hk h.size) (fun e => by rcases hr k e.symm with h1 | h1; exact hn h1; omega)).trans (h.block k hk hn)⟩
theorem Kept.below {w w' : World} {bs : List Nat} (h : Kept w w' bs) {B : Nat} (hB : B <= w.heap.size) (hbs : ∀ x, x ∈ bs -> B <= x) : Below B w w' :=
 ⟨h.os, h.tape, h.output, h.size, fun k hk => h.block k (by omega) (fun hm => by have := hbs k hm; omega)⟩
theorem Kept.cell {w w' : World} {bs : List Nat} (h : Kept w w' bs) {p : Addr} (hp : p.block ∉ bs) {v : Value} (hv : w.cell? p = some v) : w'.cell? p = some v :=
 (World.cell?_of_block (h.block p.block (World.block_lt_of_cell? w p hv) hp)).trans hv
theorem Kept.heap {w w' : World} {bs : List Nat} (h : Kept w w' bs) {k : Nat} (hk : k ∉ bs) {o : Obj} (ho : w.heap[k]? = some o) : w'.heap[k]? = some o :=
 (h.block k (Array.getElem?_eq_some_iff.1 ho).1 hk).trans ho
def bc (l : List UInt8) : List Value := l.map fun b => Value.int .u8 b.toNat
theorem bc_length (l : List UInt8) : (bc l).length = l.length := by simp [bc]
theorem bc_get (l : List UInt8) (j : Nat) (u : Value) (h : (bc l)[j]? = some u) : j < l.length /\ u = .int .u8 (l.getD j 0).toNat := by
 simp only [bc, List.getElem?_map, Option.map_eq_some_iff] at h
 obtain ⟨b, hb, rfl⟩ := h
 have hlt := (List.getElem?_eq_some_iff.1 hb).1
 exact ⟨hlt, by simp [List.getD, hb]⟩
theorem bc_at (l : List UInt8) (j : Nat) (h : j < l.length) : (bc l)[j]? = some (.int .u8 (l.getD j 0).toNat) := by
 simp [bc, List.getD, h]
theorem xqU (l m : List UInt8) : bc (l ++ m) = bc l ++ bc m := by simp [bc]
theorem bc_one (l : List UInt8) : ∀ u ∈ bc l, u.oneCell' = true := by
 intro u hu
 obtain ⟨_, _, rfl⟩ := List.mem_map.1 hu
 rfl
def Rd (w : World) (v : Value) (l : List UInt8) : Prop :=
 ∃ a c, v = .slice a l.length c /\ l.length <= c /\ (a = none -> c = 0) /\
  (l ≠ [] -> ∃ b o, a = some ⟨b, o, none⟩ /\ ∀ i, i < l.length -> w.cell? ⟨b, o + i, none⟩ = some (.int .u8 (l.getD i 0).toNat))
theorem Rd.kept {w w' : World} {v : Value} {l : List UInt8} {bs : List Nat} (h : Rd w v l) (hk : Kept w w' bs) (hb : ∀ b, v.ownBlock = some b -> b ∉ bs) : Rd w' v l := by
 obtain ⟨a, c, rfl, hc, ha, hl⟩ := h
 refine ⟨a, c, rfl, hc, ha, fun hne => ?_⟩
 obtain ⟨b, o, rfl, hcell⟩ := hl hne
 exact ⟨b, o, rfl, fun i hi => hk.cell (p := ⟨b, o + i, none⟩) (hb b rfl) (hcell i hi)⟩
theorem Rd.shape3 {w : World} {v : Value} {l : List UInt8} (h : Rd w v l) : ∃ a n c, v = .slice a n c := by
 obtain ⟨a, c, h, _⟩ := h
 exact ⟨a, _, c, h⟩
theorem Rd.nil (w : World) : Rd w (.slice none 0 0) [] := ⟨none, 0, rfl, Nat.le_refl _, fun _ => rfl, fun h => absurd rfl h⟩
def Own (w : World) (base : Nat) (e : TypeId) (v : Value) (l : List UInt8) : Prop := w.ownsRow base e 1 v l.length (bc l)
theorem Own.rd {w : World} {base : Nat} {e : TypeId} {v : Value} {l : List UInt8} (h : Own w base e v l) : Rd w v l := by
 rcases h.2 with ⟨rfl, hn⟩ | ⟨g, cap, cur, rfl, hb, hg, hnc, hcm, hcs, ht⟩
 ·have : l = [] := List.eq_nil_of_length_eq_zero hn
  subst this
  exact Rd.nil w
 refine ⟨some ⟨g, 0, none⟩, cap, rfl, hnc, by simp, fun _ => ⟨g, 0, rfl, fun i hi => ?_⟩⟩
 have := World.ownsRow.cells h (g := g) rfl i _ (bc_at l i hi)
 simpa [Addr.add_lit] using this
theorem Own.kept {w w' : World} {base : Nat} {e : TypeId} {v : Value} {l : List UInt8} {bs : List Nat} (h : Own w base e v l) (hk : Kept w w' bs) (hb : ∀ b, v.ownBlock = some b -> b ∉ bs) : Own w' base e v l := by
 refine ⟨h.1, ?_⟩
 rcases h.2 with h2 | ⟨g, cap, cur, rfl, hbg, hg, rest⟩
 ·exact .inl h2
 exact .inr ⟨g, cap, cur, rfl, hbg, hk.heap (hb g rfl) hg, rest⟩
theorem Own.mono {w : World} {base base' : Nat} {e : TypeId} {v : Value} {l : List UInt8} (h : Own w base e v l) (hb : base' <= base) : Own w base' e v l := by
 refine ⟨h.1, ?_⟩
 rcases h.2 with h2 | ⟨g, cap, cur, rfl, hbg, r⟩
 ·exact .inl h2
 exact .inr ⟨g, cap, cur, rfl, by omega, r⟩
theorem Own.lt {w : World} {base : Nat} {e : TypeId} {v : Value} {l : List UInt8} (h : Own w base e v l) : ∀ b, v.ownBlock = some b -> base <= b /\ b < w.heap.size := World.ownsRow.lt h
theorem Own.nil (w : World) (base : Nat) (e : TypeId) : Own w base e (.slice none 0 0) [] := World.ownsRow_nil w base e 1
theorem Own.apart {w : World} {base : Nat} {e : TypeId} {v : Value} {l : List UInt8} (h : Own w base e v l) {p : Nat} {cs : Array Value} {t : TypeId} {fz : Nat × Nat} (hp : w.heap[p]? = some (.cells cs t fz)) (hte : t ≠ e) : ∀ b, v.ownBlock = some b -> b ≠ p := by
 rintro b hb rfl
 rcases h.2 with ⟨rfl, _⟩ | ⟨g, cap, cur, rfl, _, hg, _⟩
 ·simp [Value.ownBlock] at hb
 simp [Value.ownBlock] at hb
 subst hb
 rw [hp] at hg
 simp at hg
 exact hte hg.2.1
theorem Rd.src {P : Program} {w : World} {v : Value} {l : List UInt8} (h : Rd w v l) {tx e' : TypeId} (hk : P.underlying tx = some (.slice e')) : Src P 1 tx v l.length (bc l) w := by
 obtain ⟨a, c, rfl, hc, ha, hl⟩ := h
 by_cases hne : l = []
 ·subst hne
  cases a with
  | none => obtain rfl := ha rfl; exact Src.ofNil w hk 0
  | some x => exact Src.ofSlice w hk x 0 c [] rfl (by simp) (by simp)
 obtain ⟨b, o, rfl, hcell⟩ := hl hne
 refine Src.ofSlice w hk ⟨b, o, none⟩ l.length c (bc l) (by rw [bc_length, Nat.mul_one]) (fun j u hu => ?_) (bc_one l)
 obtain ⟨hj, rfl⟩ := bc_get l j u hu
 rw [Addr.add_lit]
 exact hcell j hj
theorem run_append_src {P : Program} (w : World) (base : Nat) (t tx ty e : TypeId) (i : TypeInfo) (z : Value) (size bytes : Nat) (ht : P.underlying t = some (.slice e)) (hi : P.info? e = some i) (hz : i.zero = some z)
  (hsize : i.size = size) (hby : i.bytes = bytes) (hzs : z.cells.size = size)
  (v : Value) (n : Nat) (xs : List Value) (hown : w.ownsRow base e size v n xs)
  (x : Value) (m : Nat) (news : List Value) (hsrc : Src P size tx x m news w)
  (h63 : n + m <= maxLen) (hbytes : (n + m) * bytes <= 140737488355328) (hbase : base <= w.heap.size) :
  ∃ v' w', (Builtin.append_ #[t, tx] ty #[v, x]).run P w = .ok v' w' /\ w'.ownsRow base e size v' (n + m) (xs ++ news) /\ w.grownBy w' v.ownBlock /\
   (v'.ownBlock = v.ownBlock ∨ ∃ g, v'.ownBlock = some g /\ w.heap.size <= g) /\ (v' = .slice none 0 0 -> v = .slice none 0 0 /\ m = 0) := by
 subst hsize
 subst hby
 have hsmall : n + m <= 9223372036854775807 := by simp only [maxLen] at h63; omega
 have hlen : (xs ++ news).length = (n + m) * i.size := by rw [List.length_append, hown.1, hsrc.newsLen, Nat.add_mul]
 have grown : ∀ (old : Nat), old < n + m -> ∀ (row : Option Nat),
   (w.drew.alloc (.cells ((xs ++ news).toArray ++ Builtin.zeroCells z.cells (grownCap w (n + m) old e - (n + m))) e)).ownsRow base e i.size
    (.slice (some ⟨w.heap.size, 0, none⟩) (n + m) (grownCap w (n + m) old e)) (n + m) (xs ++ news) /\
   w.grownBy (w.drew.alloc (.cells ((xs ++ news).toArray ++ Builtin.zeroCells z.cells (grownCap w (n + m) old e - (n + m))) e)) row := by
  intro old ho row
  have hge := grownCap_ge w (n + m) old e
  have hcm : grownCap w (n + m) old e <= maxLen := grownCap_le_maxLen w (n + m) old e h63
  refine ⟨⟨hlen, .inr ⟨w.heap.size, _, _, rfl, hbase, heap_alloc_new w.drew _, hge, hcm, ?_, ?_⟩⟩, ⟨rfl, rfl, rfl, by simp, fun k hk _ => Below.heap_alloc w.drew _ k hk⟩⟩
  ·simp only [Array.size_append, List.size_toArray, size_zeroCells, hzs, hlen, <- Nat.add_mul]
   congr 1
   omega
  ·simp only [Array.toList_append, <- hlen]
   exact List.take_left
 rcases hown.2 with ⟨rfl, rfl⟩ | ⟨g, cap, cur, rfl, hbg, hg, hnc, hcm, hcs, htake⟩
 ·have hx : xs = [] := List.eq_nil_of_length_eq_zero (by simpa using hown.1)
  subst hx
  by_cases hm : m = 0
  ·subst hm
   have hn : news = [] := List.eq_nil_of_length_eq_zero (by simpa using hsrc.newsLen)
   subst hn
   refine ⟨.slice none 0 0, w, ?_, World.ownsRow_nil w base e i.size, ⟨rfl, rfl, rfl, Nat.le_refl _, fun _ _ _ => rfl⟩, .inl rfl, fun _ => ⟨rfl, rfl⟩⟩
   have hf1 := hsrc.cells
   rcases hsrc.kind with ⟨e', hk⟩ | hk <;>
    simp [Builtin.append_, run_underlying ht, run_underlying hk, sizeOf, typeInfo, hi, hsrc.len, hf1]
  have hr := run_append_grow_src (P := P) w t tx ty e i z ht hi hz none 0 0 [] (run_firstCells_none w.drew i.size 0 0 0) x m news hsrc (by omega) (by omega) (growslice_fits (by omega) hbytes)
  have hgr := grown 0 (by omega) (Value.ownBlock (.slice none 0 0))
  exact ⟨_, _, hr, hgr.1, hgr.2, .inr ⟨w.heap.size, rfl, Nat.le_refl _⟩, by simp⟩
 ·by_cases hroom : n + m <= cap
  ·have hnl := hsrc.newsLen
   have hfit : n * i.size + news.length <= cur.size := by rw [hnl, hcs, <- Nat.add_mul]; exact Nat.mul_le_mul_right _ hroom
   have hst := run_storeCells_at P g (n * i.size) e news 0 cur w hg (by simpa using hfit) hsrc.one
   simp only [Nat.add_zero] at hst
   have hr : (Builtin.append_ #[t, tx] ty #[.slice (some ⟨g, 0, none⟩) n cap, x]).run P w =
     .ok (.slice (some ⟨g, 0, none⟩) (n + m) cap) (w.setRow g (cur.toList.take (n * i.size) ++ news ++ cur.toList.drop (n * i.size + news.length)).toArray) := by
    rcases hsrc.kind with ⟨e', hk⟩ | hk <;>
     simp [Builtin.append_, run_underlying ht, run_underlying hk, sizeOf, typeInfo, hi, hsrc.len, hroom, hsrc.cells, Addr.add_lit, hst]
   refine ⟨_, _, hr, ⟨hlen, .inr ⟨g, cap, _, rfl, hbg, setRow_heap w g cur _ e _ hg, hroom, hcm, ?_, ?_⟩⟩, ⟨rfl, rfl, rfl, by simp, fun k _ hk => setRow_other w g k _ (fun e => hk (by simp [Value.ownBlock, e]))⟩, .inl rfl, by simp⟩
   ·simp only [List.size_toArray, List.length_append, List.length_take, List.length_drop, Array.length_toList]
    omega
   rw [htake, <- hlen]
   exact List.take_left
  have holds : ∀ j u, xs[j]? = some u -> w.drew.cell? ((⟨g, 0, none⟩ : Addr).add j) = some u := World.ownsRow.cells (w := w) hown (g := g) rfl
  have hr := run_append_grow_src (P := P) w t tx ty e i z ht hi hz (some ⟨g, 0, none⟩) n cap xs (run_firstCells_some w.drew i.size n _ n cap xs hown.1 holds) x m news hsrc (by omega) (by omega) (growslice_fits (by omega) hbytes)
  have hgr := grown cap (by omega) (Value.ownBlock (.slice (some ⟨g, 0, none⟩) n cap))
  exact ⟨_, _, hr, hgr.1, hgr.2, .inr ⟨w.heap.size, rfl, Nat.le_refl _⟩, by simp⟩
theorem xql {P : Program} (w : World) {ops : Array Oper} {rest : List Oper} {o : Oper} {a : Act} {Q : Exit -> Act -> World -> Prop} (hgd : o.guard = none) (s x : Operand) (t tx : TypeId)
  (ho : o.op = .call { callee := .builtin .append, args := #[s, x], argTypes := #[t, tx] })
  (base : Nat) (e : TypeId) (i : TypeInfo) (z : Value) (size bytes : Nat) (ht : P.underlying t = some (.slice e)) (hi : P.info? e = some i) (hz : i.zero = some z)
  (hsize : i.size = size) (hby : i.bytes = bytes) (hzs : z.cells.size = size)
  (v : Value) (n : Nat) (xs : List Value) (hs : a.eval s = v) (hown : w.ownsRow base e size v n xs)
  (xv : Value) (m : Nat) (news : List Value) (hx : a.eval x = xv) (hsrc : Src P size tx xv m news w)
  (h63 : n + m <= maxLen) (hbytes : (n + m) * bytes <= 140737488355328) (hbase : base <= w.heap.size)
  (h : ∀ v' w', w'.ownsRow base e size v' (n + m) (xs ++ news) -> w.grownBy w' v.ownBlock -> (v'.ownBlock = v.ownBlock ∨ ∃ g, v'.ownBlock = some g /\ w.heap.size <= g) -> (v' = .slice none 0 0 -> v = .slice none 0 0 /\ m = 0) -> wpList P ops Q rest (a.put o.dst v') w') :
  wpList P ops Q (o :: rest) a w := by
 refine wpList_plain hgd fun K hK => ?_
 obtain ⟨v', w', hr, h2, h3, h4, h5⟩ := run_append_src (P := P) w base t tx o.type e i z size bytes ht hi hz hsize hby hzs v n xs hown xv m news hsrc h63 hbytes hbase
 unfold Oper.wp
 simp [execOp, ho, resolve, invoke, builtin, hs, hx, hr, Result.andThen]
 exact hK _ _ (h v' w' h2 h3 h4 h5)
theorem xq9 {P : Program} {t e' : TypeId} (hk : P.underlying t = some (.slice e')) (w : World) (u : Value) (h : u.oneCell' = true) (T : TypeId) : Src P 1 t (.slice (some ⟨w.heap.size, 0, none⟩) 1 1) 1 [u] (w.alloc (.cells #[u] T)) :=
 Src.ofSlice _ hk _ 1 1 [u] rfl (cell_one_new _ _ _) (by simpa using h)
theorem bc_nat {n : Nat} (h : n < 256) : bc [UInt8.ofNat n] = [.int .u8 (n : Int)] := by
 simp [bc]; omega
theorem Own.shape {w : World} {base : Nat} {e : TypeId} {v : Value} {l : List UInt8} (h : Own w base e v l) : ∃ a c, v = .slice a l.length c := by
 rcases h.2 with ⟨rfl, hn⟩ | ⟨g, cap, cur, rfl, _⟩
 ·exact ⟨none, 0, by rw [hn]⟩
 exact ⟨_, _, rfl⟩
theorem Own.shape3 {w : World} {base : Nat} {e : TypeId} {v : Value} {l : List UInt8} (h : Own w base e v l) : ∃ a n c, v = .slice a n c := by
 obtain ⟨a, c, h⟩ := h.shape
 exact ⟨a, _, c, h⟩
theorem xqa {w : World} {p : Nat} {cs : Array Value} {t : TypeId} {fz : Nat × Nat} (h : w.heap[p]? = some (.cells cs t fz)) (j : Nat) (u : Value) : (w.setCell ⟨p, j, none⟩ u).heap[p]? = some (.cells (cs.setIfInBounds j u) t fz) := by
 simp [World.setCell, Array.getElem?_modify, h]
end Go.Proofs.Ytjdbmlifekghfaa
namespace Go.Proofs.Ytjdbmlifekghfaa
def numL (n : Nat) : List UInt8 := if n < 128 then [UInt8.ofNat n] else UInt8.ofNat (n % 128 + 128) :: numL (n / 128)
termination_by n
decreasing_by omega
theorem xqF {n : Nat} (h : n < 128) : numL n = [UInt8.ofNat n] := by rw [numL, if_pos h]
theorem xqX {n : Nat} (h : 128 <= n) : numL n = UInt8.ofNat (n % 128 + 128) :: numL (n / 128) := by rw [numL, if_neg (by omega)]
theorem numL_len (k n : Nat) (h : n < 128 ^ (k + 1)) : (numL n).length <= k + 1 := by
 induction k generalizing n with
 | zero => rw [xqF (by simpa using h)]; simp
 | succ k ih =>
 by_cases h1 : n < 128
 ·rw [xqF h1]; simp
 rw [xqX (by omega), List.length_cons]
 have := ih (n / 128) (by rw [Nat.div_lt_iff_lt_mul (by omega)]; rw [Nat.pow_succ] at h; exact h)
 omega
theorem xqc {n : Nat} (h : n < 18446744073709551616) : (numL n).length <= 10 :=
 numL_len 9 n (Nat.lt_of_lt_of_le h (by decide))
theorem numL_pos (n : Nat) : 0 < (numL n).length := by
 by_cases h : n < 128
 ·rw [xqF h]; simp
 rw [xqX (by omega)]; simp
def rn (i n : Nat) : List UInt8 -> Nat × Nat × Int
 | [] => (0, 0, 3)
 | b :: t => if (i = 9 /\ 1 < b.toNat) ∨ (0 < i /\ b.toNat = 0) then (0, 0, 2) else if b.toNat < 128 then (n + b.toNat * 128 ^ i, i + 1, 0) else rn (i + 1) (n + (b.toNat - 128) * 128 ^ i) t
def rdN (l : List UInt8) : Nat × Nat × Int := rn 0 0 l
theorem rn_step (l : List UInt8) (k n d : Nat) (hk : k < l.length) (hd : d = (l.getD k 0).toNat) :
  rn k n (l.drop k) = if (k = 9 /\ 1 < d) ∨ (0 < k /\ d = 0) then (0, 0, 2) else if d < 128 then (n + d * 128 ^ k, k + 1, 0) else rn (k + 1) (n + (d - 128) * 128 ^ k) (l.drop (k + 1)) := by
 rw [List.drop_eq_getElem_cons hk, rn]
 have : (l.getD k 0) = l[k] := by simp [List.getD, hk]
 rw [hd, this]
theorem rn_end (l : List UInt8) (k n : Nat) (hk : l.length <= k) : rn k n (l.drop k) = (0, 0, 3) := by
 rw [List.drop_of_length_le hk, rn]
theorem rn_ok (l : List UInt8) : ∀ (i n x s : Nat), rn i n l = (x, s, 0) -> i <= 9 -> n < 128 ^ i -> i < s /\ s <= i + l.length /\ x < 18446744073709551616 := by
 induction l with
 | nil => intro i n x s h; simp [rn] at h
 | cons b t ih =>
 intro i n x s h hi hn
 rw [rn] at h
 by_cases h1 : (i = 9 /\ 1 < b.toNat) ∨ (0 < i /\ b.toNat = 0)
 ·rw [if_pos h1] at h; simp at h
 rw [if_neg h1] at h
 have hb := UInt8.toNat_lt b
 by_cases h2 : b.toNat < 128
 ·rw [if_pos h2] at h
  simp only [Prod.mk.injEq] at h
  obtain ⟨rfl, rfl, _⟩ := h
  refine ⟨by omega, by simp, ?_⟩
  by_cases h9 : i = 9
  ·subst h9
   have : b.toNat <= 1 := by omega
   have : b.toNat * 128 ^ 9 <= 1 * 128 ^ 9 := Nat.mul_le_mul_right _ this
   omega
  have hp : (128 : Nat) ^ i <= 128 ^ 8 := Nat.pow_le_pow_right (by decide) (by omega)
  have : b.toNat * 128 ^ i <= 127 * 128 ^ 8 := Nat.mul_le_mul (by omega) hp
  omega
 rw [if_neg h2] at h
 have hi9 : i ≠ 9 := by intro h9; exact h1 (.inl ⟨h9, by omega⟩)
 have hlt : n + (b.toNat - 128) * 128 ^ i < 128 ^ (i + 1) := by
  have : (b.toNat - 128 + 1) * 128 ^ i <= 128 * 128 ^ i := Nat.mul_le_mul_right _ (by omega)
  rw [Nat.pow_succ, Nat.mul_comm (128 ^ i)]
  rw [Nat.add_mul, Nat.one_mul] at this
  omega
 have := ih (i + 1) _ x s h (by omega) hlt
 simp only [List.length_cons]
 omega
theorem rdN_ok (l : List UInt8) (h : (rdN l).2.2 = 0) : 0 < (rdN l).2.1 /\ (rdN l).2.1 <= l.length /\ (rdN l).1 < 18446744073709551616 := by
 have := rn_ok l 0 0 (rdN l).1 (rdN l).2.1 (by rw [<- h]; rfl) (by omega) (by decide)
 omega
def rNum (e : Int) (l : List UInt8) : Nat × List UInt8 × Int :=
 if e = 0 then (if (rdN l).2.2 = 0 then ((rdN l).1, l.drop (rdN l).2.1, 0) else (0, [], (rdN l).2.2)) else (0, l, e)
theorem rNum_lt (e : Int) (l : List UInt8) : (rNum e l).1 <= 18446744073709551615 := by
 unfold rNum
 by_cases h : e = 0
 ·rw [if_pos h]
  by_cases h1 : (rdN l).2.2 = 0
  ·rw [if_pos h1]; have := (rdN_ok l h1).2.2; omega
  rw [if_neg h1]; omega
 rw [if_neg h]; omega
theorem xqt (e : Int) (l : List UInt8) : (rNum e l).2.1.length <= l.length := by
 unfold rNum
 by_cases h : e = 0
 ·rw [if_pos h]
  by_cases h1 : (rdN l).2.2 = 0
  ·rw [if_pos h1]; simp
  rw [if_neg h1]; simp
 rw [if_neg h]; simp
def rEnd (e : Int) (l : List UInt8) : Int := if e = 0 then (if l = [] then 0 else 2) else e
end Go.Proofs.Ytjdbmlifekghfaa
namespace Go.Proofs.Ytjdbmlifekghfaa
open Go.RowKit
theorem Try.infoB : (Try.prog.info? 5).map (fun i => (i.zero, i.size, i.bytes)) = some (some (.int .u8 0), 1, 1) := by kernel_rfl
structure Bx where
 T : TypeId
 r : List Value
 ne : T ≠ 5
variable {R : Bx}
def Wr (R : Bx) (w : World) (base p : Nat) (v : Value) (l : List UInt8) : Prop :=
 w.heap[p]? = some (.cells (v :: R.r).toArray R.T (0, 0)) /\ Own w base 5 v l
def Wtp (w w' : World) (ps : List Nat) (v v' : Value) : Prop :=
 Kept w w' (ps ++ v.ownBlock.toList) /\ (v'.ownBlock = v.ownBlock ∨ ∃ g, v'.ownBlock = some g /\ w.heap.size <= g)
theorem Wtp.refl (w : World) (ps : List Nat) (v : Value) : Wtp w w ps v v := ⟨Kept.refl _ _, .inl rfl⟩
theorem Wtp.trans {a b c : World} {ps : List Nat} {v v' v'' : Value} (h : Wtp a b ps v v') (k : Wtp b c ps v' v'') : Wtp a c ps v v'' := by
 refine ⟨h.1.trans k.1 (fun x hx => ?_), ?_⟩
 ·rcases List.mem_append.1 hx with h1 | h1
  ·exact .inl (List.mem_append.2 (.inl h1))
  rcases h.2 with h2 | ⟨g, h2, h3⟩
  ·rw [h2] at h1; exact .inl (List.mem_append.2 (.inr h1))
  rw [h2] at h1
  simp at h1
  subst h1
  exact .inr h3
 have hs := h.1.size
 rcases k.2 with h2 | ⟨g, h2, h3⟩
 ·rcases h.2 with h4 | ⟨g, h4, h5⟩
  ·exact .inl (h2.trans h4)
  exact .inr ⟨g, h2.trans h4, h5⟩
 exact .inr ⟨g, h2, by omega⟩
theorem Wr.step {w w' : World} {base p : Nat} {v v' : Value} {l m : List UInt8} {k : Nat} (hw : Wr R w base p v l) (ho : w'.ownsRow base 5 1 v' k (bc l ++ bc m))
  (hk : Kept w w' v.ownBlock.toList) (hb : v'.ownBlock = v.ownBlock ∨ ∃ g, v'.ownBlock = some g /\ w.heap.size <= g) :
  Wr R (w'.setCell ⟨p, 0, none⟩ v') base p v' (l ++ m) /\ Wtp w (w'.setCell ⟨p, 0, none⟩ v') [p] v v' /\ w'.cell? ⟨p, 0, none⟩ = some v /\ w'.frozen? ⟨p, 0, none⟩ = false := by
 have hne := hw.2.apart hw.1 R.ne
 have hkl : k = (l ++ m).length := by have := ho.1; rw [<- xqU, bc_length] at this; omega
 have ho' : Own w' base 5 v' (l ++ m) := by unfold Own; rw [xqU, <- hkl]; exact ho
 have hp : w'.heap[p]? = some (.cells (v :: R.r).toArray R.T (0, 0)) := hk.heap (by
  intro hm
  have : v.ownBlock = some p := by simpa using hm
  exact hne p this rfl) hw.1
 have hne' : ∀ b, v'.ownBlock = some b -> b ≠ p := ho'.apart hp R.ne
 refine ⟨⟨by simpa using xqa hp 0 v', ?_⟩, ⟨?_, ?_⟩, by simpa using cell_of_row w' p 0 (v :: R.r).toArray _ _ hp, frozen_of_row w' p 0 _ _ hp⟩
 ·exact ho'.kept ((Kept.refl w' [p]).setCell (p := ⟨p, 0, none⟩) (.inl (by simp)) v') (fun b hb' => by simpa using hne' b hb')
 ·exact (hk.mono (cs := [p] ++ v.ownBlock.toList) (fun x hx => List.mem_append.2 (.inr hx))).setCell (p := ⟨p, 0, none⟩) (.inl (by simp)) v'
 ·rcases hb with h | ⟨g, h1, h2⟩
  ·exact .inl h
  exact .inr ⟨g, h1, h2⟩
theorem num_any (base p : Nat) (v : Value) (l : List UInt8) (n : Nat) (w : World) (hw : Wr R w base p v l) (hbase : base <= w.heap.size) (hn : n <= 18446744073709551615) (hl : l.length <= 1099511627776) :
  Calls Try.prog 72 #[.pointer (some ⟨p, 0, none⟩), .int .u64 n] w fun e w' => e = .returned (.pointer (some ⟨p, 0, none⟩)) /\ ∃ v', Wr R w' base p v' (l ++ numL n) /\ Wtp w w' [p] v v' := by
 obtain ⟨i0, hi, hz0, hz1, hz2⟩ := info_parts Try.infoB
 go_enter Try.func72, Try.ntmps72
 go_wp2
 go_loopw [1] (fun t wr => ∃ (m : Nat) (v' : Value) (l' : List UInt8), t = .int .u64 m /\ m <= n /\ numL n = l' ++ numL m /\ l'.length + (numL m).length <= 10 /\ Wr R wr base p v' (l ++ l') /\ Wtp w wr [p] v v') (fun t _ => (intOf t).toNat)
 case atStart => exact ⟨n, v, [], rfl, by omega, rfl, by have := xqc (n := n) (by omega); simpa using this, by simpa using hw, Wtp.refl _ _ _⟩
 case round =>
  obtain ⟨m, v', l', rfl, hmn, hnum, hlen, hwr, hst⟩ := hrel
  have Hnum := iH hnum; clear hnum
  have hpos := numL_pos m
  have hll : (l ++ l').length <= 1099511627786 := by rw [List.length_append]; omega
  have hbr : base <= wr.heap.size := Nat.le_trans hbase hst.1.size
  have hc : wr.cell? ⟨p, 0, none⟩ = some v' := by simpa using cell_of_row wr p 0 (v' :: R.r).toArray _ _ hwr.1
  have Hwr := iH hwr; clear hwr
  have Hst := iH hst; clear hst
  by_cases hlt : 128 <= m
  ·have H2 := iH (xqX hlt)
   go_wp2_with (at_builtin; refine xql _ rfl (.tmp 13) (.tmp 18) 22 22 rfl base 5 i0 (.int .u8 0) 1 1 Try.underlying22 hi hz0 hz1 hz2 rfl v' (l ++ l').length (bc (l ++ l')) rfl ?hown _ 1 [.int .u8 ((m : Int) % 128 + 128)] rfl (xq9 Try.underlying22 wr _ rfl _) ?b1 ?b2 ?base ?next)
   case hown => exact World.ownsRow.alloc Hwr.out.2 _
   case b1 => unfold maxLen; omega
   case b2 => omega
   case base => simp; omega
   case next =>
   intro v2 w2 hown hgrow hblk _
   have e1 : bc [UInt8.ofNat (m % 128 + 128)] = [Value.int .u8 ((m : Int) % 128 + 128)] := by rw [bc_nat (by omega)]; simp
   rw [<- e1] at hown
   obtain ⟨hw2, hs2, k0, e0⟩ := Wr.step (m := [UInt8.ofNat (m % 128 + 128)]) Hwr.out hown (((Kept.refl wr _).alloc _).grown hgrow (fun k hk => .inl (by simp [hk]))) (hblk.imp id fun ⟨g, h1, h2⟩ => ⟨g, h1, by omega⟩)
   obtain ⟨a2, n2, c2, hv2⟩ := Own.shape3 hw2.2
   have Hw2 := iH hw2; have Hs2 := iH hs2
   clear hw2 hs2 e1 hown hgrow hblk hc
   subst hv2
   go_wp2
   go_roundw
   case rel =>
    refine ⟨m / 128, _, l' ++ [UInt8.ofNat (m % 128 + 128)], by go_num, by omega, ?_, ?_, by rw [<- List.append_assoc]; exact Hw2.out, Hst.out.trans Hs2.out⟩
    ·rw [Hnum.out, H2.out]; simp
    have := H2.out; rw [this] at hlen; simp at hlen ⊢; omega
   case measure => simp [intOf]; omega
  have hm : (m : Int) < 128 := by omega
  have H2 := iH (xqF (n := m) (by omega))
  go_wp2_with (at_builtin; refine xql _ rfl (.tmp 28) (.tmp 31) 22 22 rfl base 5 i0 (.int .u8 0) 1 1 Try.underlying22 hi hz0 hz1 hz2 rfl v' (l ++ l').length (bc (l ++ l')) rfl ?hown _ 1 [.int .u8 (m : Int)] rfl (xq9 Try.underlying22 wr _ rfl _) ?b1 ?b2 ?base ?next)
  case hown => exact World.ownsRow.alloc Hwr.out.2 _
  case b1 => unfold maxLen; omega
  case b2 => omega
  case base => simp; omega
  case next =>
  intro v2 w2 hown hgrow hblk _
  have e1 : bc [UInt8.ofNat m] = [Value.int .u8 (m : Int)] := bc_nat (by omega)
  rw [<- e1] at hown
  obtain ⟨hw2, hs2, k0, e0⟩ := Wr.step (m := [UInt8.ofNat m]) Hwr.out hown (((Kept.refl wr _).alloc _).grown hgrow (fun k hk => .inl (by simp [hk]))) (hblk.imp id fun ⟨g, h1, h2⟩ => ⟨g, h1, by omega⟩)
  obtain ⟨a2, n2, c2, hv2⟩ := Own.shape3 hw2.2
  have Hw2 := iH hw2; have Hs2 := iH hs2
  clear hw2 hs2 e1 hown hgrow hblk hc
  subst hv2
  go_wp2
  go_ret
  refine ⟨rfl, _, ?_, Hst.out.trans Hs2.out⟩
  rw [Hnum.out, H2.out, <- List.append_assoc]
  exact Hw2.out
variable {R : Bx}
theorem clone_any (v : Value) (l : List UInt8) (w : World) (h : Rd w v l) (hl : l.length <= 1099511627796) :
  Calls Try.prog 55 #[v] w fun e w' => ∃ v', e = .returned v' /\ Own w' w.heap.size 5 v' l /\ Kept w w' [] := by
 obtain ⟨i0, hi, hz0, hz1, hz2⟩ := info_parts Try.infoB
 obtain ⟨a, c, rfl, hc, ha, hcell⟩ := id h
 have H := iH h; clear h hcell
 have q22 : ∀ (w : World) (a : Option Addr) (n c n' c' : Nat), (binOp .eql 22 (.slice a n c) (.slice none n' c')).run Try.prog w = .ok (.bool a.isNone) w := fun w a n c n' c' => Lib.run_eql_slice_nil w _ _ a n c n' c' Try.underlying22
 cases a with
 | none =>
  obtain rfl := ha rfl
  obtain rfl : l = [] := List.eq_nil_of_length_eq_zero (by omega)
  clear ha
  go_enter Try.func55, Try.ntmps55
  go_wp2
  go_ret
  exact ⟨_, rfl, Own.nil _ _ _, Kept.refl _ _⟩
 | some x =>
  clear ha
  go_enter Try.func55, Try.ntmps55
  go_wp2_with (at_builtin; refine xql _ rfl (.tmp 5) (.tmp 6) 22 22 rfl w.heap.size 5 i0 (.int .u8 0) 1 1 Try.underlying22 hi hz0 hz1 hz2 rfl (.slice (some ⟨w.heap.size, 0, none⟩) 0 0) 0 [] rfl ?hown (.slice (some x) l.length c) l.length (bc l) rfl ?src ?b1 ?b2 ?base ?next)
  case hown => exact World.ownsRow_made w #[] 0 (Nat.le_refl _) (Nat.zero_le _) (by simp)
  case src => exact (H.out.kept ((Kept.refl w []).alloc _) (by simp)).src Try.underlying22
  case b1 => unfold maxLen; omega
  case b2 => omega
  case base => simp
  case next =>
  intro v2 w2 hown hgrow _ _
  have ho : Own w2 w.heap.size 5 v2 l := by unfold Own; simpa using hown
  have hk : Kept w w2 [] := ((Kept.refl w []).alloc _).grown hgrow (fun k hk => .inr (by simp [Value.ownBlock] at hk; omega))
  have Ho := iH ho; have Hk := iH hk
  clear ho hk hown hgrow
  go_wp2
  go_ret
  exact ⟨_, rfl, Ho.out, Hk.out⟩
theorem bytes_any (base p : Nat) (v : Value) (l : List UInt8) (w : World) (hw : Wr R w base p v l) (hl : l.length <= 1099511627796) :
  Calls Try.prog 28 #[.pointer (some ⟨p, 0, none⟩)] w fun e w' => ∃ v', e = .returned v' /\ Own w' w.heap.size 5 v' l /\ Kept w w' [] := by
 have hc : w.cell? ⟨p, 0, none⟩ = some v := by simpa using cell_of_row w p 0 (v :: R.r).toArray _ _ hw.1
 have H := iH hw.2.rd; clear hw
 go_enter Try.func28, Try.ntmps28
 go_wp2_with fail
 refine (clone_any v l w H.out hl).mono ?_
 rintro e w' ⟨v', rfl, hq⟩
 have Hq := iH hq; clear hq
 go_wp2
 go_ret
 exact ⟨_, rfl, Hq.out⟩
variable {R : Bx}
def intL (n : Int) : List UInt8 := numL (Lib.zigzag n)
theorem int_any (base p : Nat) (v : Value) (l : List UInt8) (n : Int) (w : World) (hw : Wr R w base p v l) (hbase : base <= w.heap.size) (hn : -9223372036854775808 <= n /\ n <= 9223372036854775807) (hl : l.length <= 1099511627776) :
  Calls Try.prog 52 #[.pointer (some ⟨p, 0, none⟩), .int .i64 n] w fun e w' => e = .returned (.pointer (some ⟨p, 0, none⟩)) /\ ∃ v', Wr R w' base p v' (l ++ intL n) /\ Wtp w w' [p] v v' := by
 have Hw := iH hw; clear hw
 obtain ⟨h1, h2⟩ := hn
 have hz := Lib.zigzag_lt h1 h2
 by_cases h0 : n < 0
 ·have Hx := iH (Lib.zigzag_neg h1 h0)
  go_enter Try.func52, Try.ntmps52
  go_wp2_with fail
  rw [Hx.out]
  refine (num_any base p v l (Lib.zigzag n) w Hw.out hbase (by omega) hl).mono ?_
  rintro e w' ⟨rfl, hq⟩
  have Hq := iH hq; clear hq
  go_wp2
  go_ret
  exact ⟨rfl, Hq.out⟩
 ·have Hx := iH (Lib.zigzag_nonneg (x := n) (by omega))
  go_enter Try.func52, Try.ntmps52
  go_wp2_with fail
  rw [<- Hx.out]
  refine (num_any base p v l (Lib.zigzag n) w Hw.out hbase (by omega) hl).mono ?_
  rintro e w' ⟨rfl, hq⟩
  have Hq := iH hq; clear hq
  go_wp2
  go_ret
  exact ⟨rfl, Hq.out⟩
variable {R : Bx}
def xqr (s : List UInt8) : List UInt8 := numL s.length ++ s
theorem text_any (base p : Nat) (v : Value) (l : List UInt8) (s : ByteArray) (w : World) (hw : Wr R w base p v l) (hbase : base <= w.heap.size) (hs : s.size <= 1099511627776) (hl : l.length <= 1099511627776) :
  Calls Try.prog 78 #[.pointer (some ⟨p, 0, none⟩), .string s] w fun e w' => e = .returned (.pointer (some ⟨p, 0, none⟩)) /\ ∃ v', Wr R w' base p v' (l ++ xqr s.data.toList) /\ Wtp w w' [p] v v' := by
 obtain ⟨i0, hi, hz0, hz1, hz2⟩ := info_parts Try.infoB
 have Hw := iH hw; clear hw
 have Hsz : RowKit.Hid (s.data.toList.length = s.size) := iH (by rw [Array.length_toList]; rfl)
 go_enter Try.func78, Try.ntmps78
 go_wp2_with fail
 refine (num_any base p v l s.size w Hw.out hbase (by omega) hl).mono ?_
 rintro e wr ⟨rfl, v', hwr, hst⟩
 have hlen : (numL s.size).length <= 10 := xqc (by omega)
 have hll : (l ++ numL s.size).length <= 1099511627786 := by rw [List.length_append]; omega
 have hbr : base <= wr.heap.size := Nat.le_trans hbase hst.1.size
 have hc : wr.cell? ⟨p, 0, none⟩ = some v' := by simpa using cell_of_row wr p 0 (v' :: R.r).toArray _ _ hwr.1
 have Hwr := iH hwr; clear hwr
 have Hst := iH hst; clear hst
 go_wp2_with (at_builtin; refine xql _ rfl (.tmp 16) (.tmp 17) 22 9 rfl base 5 i0 (.int .u8 0) 1 1 Try.underlying22 hi hz0 hz1 hz2 rfl v' (l ++ numL s.size).length (bc (l ++ numL s.size)) rfl ?hown (.string s) s.size (bc s.data.toList) rfl (Src.ofString wr Try.underlying9 s) ?b1 ?b2 ?base ?next)
 case hown => exact Hwr.out.2
 case b1 => unfold maxLen; omega
 case b2 => omega
 case base => omega
 case next =>
  intro v2 w2 hown hgrow hblk _
  obtain ⟨hw2, hs2, k0, e0⟩ := Wr.step (m := s.data.toList) Hwr.out hown ((Kept.refl wr _).grown hgrow (fun k hk => .inl (by simp [hk]))) hblk
  obtain ⟨a2, n2, c2, hv2⟩ := Own.shape3 hw2.2
  have Hw2 := iH hw2; have Hs2 := iH hs2
  clear hw2 hs2 hown hgrow hblk hc
  subst hv2
  go_wp2
  go_ret
  refine ⟨rfl, _, ?_, Hst.out.trans Hs2.out⟩
  unfold xqr
  rw [Hsz.out, <- List.append_assoc]
  exact Hw2.out
theorem alike_no {l m : List UInt8} {k : Nat} (h1 : k < l.length) (h2 : k < m.length) (h : ((l[k].toNat : Int) != (m[k].toNat : Int)) = true) : (l == m) = false := by
 rw [beq_eq_false_iff_ne]
 rintro rfl
 simp at h
theorem alike_step {l m : List UInt8} {k : Nat} (ht : l.take k = m.take k) (h1 : k < l.length) (h2 : k < m.length) (h : ((l[k].toNat : Int) != (m[k].toNat : Int)) = false) : l.take (k + 1) = m.take (k + 1) := by
 rw [List.take_succ_eq_append_getElem h1, List.take_succ_eq_append_getElem h2, ht]
 have : l[k] = m[k] := by
  apply UInt8.toNat.inj
  have h' : (l[k].toNat : Int) = m[k].toNat := by simpa using h
  omega
 rw [this]
theorem xqD {a b : Bool} (h : a = b) : Ending.returned (.bool a) = .returned (.bool b) := by rw [h]
theorem alike_any (va vb : Value) (l m : List UInt8) (w : World) (ha : Rd w va l) (hb : Rd w vb m) (hl : l.length <= 9223372036854775807) :
  Calls Try.prog 16 #[va, vb] w fun e w' => e = .returned (.bool (l == m)) /\ Kept w w' [] := by
 obtain ⟨a, c, rfl, hc, _, hla⟩ := ha
 obtain ⟨b, d, rfl, hd, _, hlb⟩ := hb
 by_cases hlen : l.length = m.length
 ·by_cases hne : l = []
  ·subst hne
   obtain rfl : m = [] := List.eq_nil_of_length_eq_zero (by simpa using hlen.symm)
   clear hla hlb hlen
   go_enter Try.func16, Try.ntmps16
   go_wp2
   go_loop [5] (fun t => t = .int .i64 0) (fun _ => 0)
   case atStart => rfl
   case round =>
   subst hrel
   go_wp2
   go_ret
   exact ⟨xqD (by simp), Kept.refl _ _⟩
  obtain ⟨ab, ao, rfl, hca⟩ := hla hne
  obtain ⟨bb, bo, rfl, hcb⟩ := hlb (by rintro rfl; exact hne (List.eq_nil_of_length_eq_zero (by simpa using hlen)))
  have Hl := iH hlen
  have h1 : ((l.length : Int) != (m.length : Int)) = false := by simp; omega
  have h2 : m.length <= l.length := by omega
  have h3 : l.length <= m.length := by omega
  have Ca := iH hca; have Cb := iH hcb
  clear hca hcb hla hlb hlen
  go_enter Try.func16, Try.ntmps16
  go_wp2
  go_loopw [5] (fun t wr => ∃ k : Nat, k <= l.length /\ t = .int .i64 k /\ l.take k = m.take k /\ ∃ q, wr = w.drewN q) (fun t _ => l.length - (intOf t).toNat)
  case atStart => exact ⟨0, Nat.zero_le _, rfl, rfl, 0, rfl⟩
  case round =>
  obtain ⟨k, hk, rfl, heq, q, rfl⟩ := hrel
  have He := iH heq; clear heq
  by_cases hlt : k < l.length
  ·have c1 := Ca.out k hlt
   have c2 := Cb.out k (by omega)
   have hltm : k < m.length := by omega
   have x1 : (k : Int) < (l.length : Int) := by omega
   have x2 : (k : Int) < (m.length : Int) := by omega
   go_wp2
   go_quiet (fail)
   go_wp2
   ·go_ret
    exact ⟨xqD (alike_no hlt hltm (by assumption)).symm, ((Kept.refl w []).drewN _).drewN _⟩
   go_roundw
   case rel => exact ⟨k + 1, by omega, by go_num, alike_step He.out hlt hltm (by assumption), q + nq, rfl⟩
   case measure => simp [intOf]; omega
  have hk2 : k = l.length := by omega
  have x1 : ¬ (k : Int) < (l.length : Int) := by omega
  have hfin : (l == m) = true := by
   rw [beq_iff_eq]
   have := He.out
   rw [List.take_of_length_le (by omega), List.take_of_length_le (by omega)] at this
   exact this
  have Hf := iH hfin; clear hfin hk2
  go_wp2
  go_ret
  exact ⟨xqD Hf.out.symm, (Kept.refl w []).drewN _⟩
 ·have h0 : (l == m) = false := by rw [beq_eq_false_iff_ne]; rintro rfl; exact hlen rfl
  have h1 : ((l.length : Int) != (m.length : Int)) = true := by rw [bne_iff_ne]; omega
  have H0 := iH h0; clear h0 hla hlb
  go_enter Try.func16, Try.ntmps16
  go_wp2
  go_ret
  exact ⟨xqD (by rw [H0.out]), Kept.refl _ _⟩
end Go.Proofs.Ytjdbmlifekghfaa
