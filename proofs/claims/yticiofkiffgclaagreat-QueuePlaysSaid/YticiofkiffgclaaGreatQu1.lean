/-
 Gka, Gkb, Gkd, Gkc in one text.
-/
import Derived.Test.YticiofkiffgclaaGreatQu0
import Derived.Laws.CopyOwn
import Derived.Laws.IdiomCopy
import Derived.Lib.AppendZerosOnto
import Derived.Lib.Overlaps
import Derived.Lib.SliceRun
set_option linter.unusedVariables false
namespace Go.Proofs.YticiofkiffgclaaGreat
open Go.RowKit
structure Enc (α : Type) where
 k : Nat
 cs : α -> Array Value
 size : ∀ x, (cs x).size = k
 one : ∀ x, ∀ u ∈ (cs x).toList, u.oneCell' = true
 pos : 0 < k
variable {α : Type} (E : Enc α)
def kcs : List α -> List Value
 | [] => []
 | x :: t => (E.cs x).toList ++ kcs t
theorem xql (l : List α) : (kcs E l).length = l.length * E.k := by
 induction l with
 | nil => simp [kcs]
 | cons x t ih => rw [kcs, List.length_append, ih, List.length_cons, Array.length_toList, E.size, Nat.succ_mul, Nat.add_comm]
theorem xqi (l m : List α) : kcs E (l ++ m) = kcs E l ++ kcs E m := by
 induction l with
 | nil => rfl
 | cons x t ih => rw [List.cons_append, kcs, kcs, ih, List.append_assoc]
theorem xqz (x : α) : kcs E [x] = (E.cs x).toList := by simp [kcs]
theorem kcs_one (l : List α) : ∀ u ∈ kcs E l, u.oneCell' = true := by
 induction l with
 | nil => intro u hu; simp [kcs] at hu
 | cons x t ih =>
 intro u hu
 rcases List.mem_append.1 hu with h | h
 ·exact E.one x u h
 exact ih u h
theorem kcs_get (l : List α) : ∀ (i j : Nat) (h : i < l.length), j < E.k -> (kcs E l)[i * E.k + j]? = (E.cs l[i])[j]? := by
 induction l with
 | nil => intro i j h; simp at h
 | cons x t ih =>
 intro i j h hj
 rw [kcs]
 cases i with
 | zero =>
 rw [Nat.zero_mul, Nat.zero_add, List.getElem?_append_left (by rw [Array.length_toList, E.size]; exact hj), Array.getElem?_toList]
 rfl
 | succ i =>
 have e : (i + 1) * E.k + j - E.k = i * E.k + j := by rw [Nat.succ_mul]; omega
 rw [List.getElem?_append_right (by rw [Array.length_toList, E.size, Nat.succ_mul]; omega), Array.length_toList, E.size, e]
 exact ih i j (by simpa using h) hj
theorem kcs_some (l : List α) (j : Nat) (h : j < l.length * E.k) : ∃ u, (kcs E l)[j]? = some u := ⟨_, List.getElem?_eq_getElem (by rw [xql]; exact h)⟩
theorem at_lt {n i j k : Nat} (hi : i < n) (hj : j < k) : i * k + j < n * k := by
 have : (i + 1) * k <= n * k := Nat.mul_le_mul_right k hi
 rw [Nat.succ_mul] at this
 omega
theorem yqk (l : List α) (q : Nat) (hq : q <= l.length) : kcs E (l.take q) = (kcs E l).take (q * E.k) := by
 have hl : (kcs E (l.take q)).length = q * E.k := by rw [xql, List.length_take, Nat.min_eq_left hq]
 conv => rhs; rw [<- List.take_append_drop q l, xqi]
 exact (List.take_left' hl).symm
theorem yqv (l : List α) (q : Nat) (hq : q <= l.length) : kcs E (l.drop q) = (kcs E l).drop (q * E.k) := by
 have hl : (kcs E (l.take q)).length = q * E.k := by rw [xql, List.length_take, Nat.min_eq_left hq]
 conv => rhs; rw [<- List.take_append_drop q l, xqi]
 exact (List.drop_left' hl).symm
theorem kcs_set (l : List α) : ∀ (i : Nat) (x : α), i < l.length -> kcs E (l.set i x) = (kcs E l).take (i * E.k) ++ (E.cs x).toList ++ (kcs E l).drop (i * E.k + E.k) := by
 intro i x h
 have e : l.set i x = l.take i ++ [x] ++ l.drop (i + 1) := by rw [List.set_eq_take_append_cons_drop, if_pos h]; simp
 rw [e, xqi, xqi, xqz, yqk E l i (by omega), yqv E l (i + 1) (by omega), Nat.succ_mul]
def RdK (w : World) (v : Value) (l : List α) : Prop :=
 ∃ a c, v = .slice a l.length c /\ l.length <= c /\ (a = none -> c = 0) /\
  (l ≠ [] -> ∃ b o, a = some ⟨b, o, none⟩ /\ ∀ j, j < l.length * E.k -> w.cell? ⟨b, o + j, none⟩ = (kcs E l)[j]?)
variable {E}
theorem RdK.nil (w : World) : RdK E w (.slice none 0 0) [] := ⟨none, 0, rfl, Nat.le_refl _, fun _ => rfl, fun h => absurd rfl h⟩
theorem RdK.no (w : World) (a : Option Addr) (c : Nat) (ha : a = none -> c = 0) : RdK E w (.slice a 0 c) [] := ⟨a, c, rfl, Nat.zero_le _, ha, fun h => absurd rfl h⟩
theorem RdK.kept {w w' : World} {v : Value} {l : List α} {bs : List Nat} (h : RdK E w v l) (hk : Kept w w' bs) (hb : ∀ b, v.ownBlock = some b -> b ∉ bs) : RdK E w' v l := by
 obtain ⟨a, c, rfl, hc, ha, hl⟩ := h
 refine ⟨a, c, rfl, hc, ha, fun hne => ?_⟩
 obtain ⟨b, o, rfl, hcell⟩ := hl hne
 refine ⟨b, o, rfl, fun j hj => ?_⟩
 obtain ⟨u, hu⟩ := kcs_some E l j hj
 have h1 := hcell j hj
 rw [hu] at h1 ⊢
 exact hk.cell (p := ⟨b, o + j, none⟩) (hb b rfl) h1
theorem RdK.keep {w w' : World} {v : Value} {l : List α} (h : RdK E w v l) (hk : Kept w w' []) : RdK E w' v l := h.kept hk (by simp)
theorem RdK.shape {w : World} {v : Value} {l : List α} (h : RdK E w v l) : ∃ a c, v = .slice a l.length c := by
 obtain ⟨a, c, h, _⟩ := h
 exact ⟨a, c, h⟩
theorem RdK.cap {w : World} {a : Option Addr} {n c : Nat} {l : List α} (h : RdK E w (.slice a n c) l) : n = l.length /\ l.length <= c := by
 obtain ⟨a', c', e, hc, _⟩ := h
 simp only [Value.slice.injEq] at e
 obtain ⟨_, rfl, rfl⟩ := e
 exact ⟨rfl, hc⟩
theorem RdK.at {w : World} {a : Option Addr} {n c : Nat} {l : List α} (h : RdK E w (.slice a n c) l) {i : Nat} {x : α} (hx : l[i]? = some x) : ∃ b o, a = some ⟨b, o, none⟩ /\ ∀ j, j < E.k -> w.cell? ⟨b, o + i * E.k + j, none⟩ = (E.cs x)[j]? := by
 obtain ⟨hi, rfl⟩ := List.getElem?_eq_some_iff.1 hx
 obtain ⟨a', c', hv, _, _, hl⟩ := h
 simp only [Value.slice.injEq] at hv
 obtain ⟨rfl, _, _⟩ := hv
 obtain ⟨b, o, rfl, hcell⟩ := hl (by rintro rfl; simp at hi)
 refine ⟨b, o, rfl, fun j hj => ?_⟩
 rw [<- kcs_get E l i j hi hj, Nat.add_assoc]
 exact hcell _ (at_lt hi hj)
theorem RdK.here {w : World} {b o n c : Nat} {l : List α} (h : RdK E w (.slice (some ⟨b, o, none⟩) n c) l) {i : Nat} {x : α} (hx : l[i]? = some x) (j : Nat) (hj : j < E.k) : w.cell? ⟨b, o + i * E.k + j, none⟩ = (E.cs x)[j]? := by
 obtain ⟨b', o', e, f⟩ := h.at hx
 simp only [Option.some.injEq, Addr.mk.injEq] at e
 obtain ⟨rfl, rfl, _⟩ := e
 exact f j hj
theorem RdK.src {P : Program} {w : World} {v : Value} {l : List α} (h : RdK E w v l) {tx e' : TypeId} (hk : P.underlying tx = some (.slice e')) : Src P E.k tx v l.length (kcs E l) w := by
 obtain ⟨a, c, rfl, hc, ha, hl⟩ := h
 by_cases hne : l = []
 ·subst hne
  cases a with
  | none => obtain rfl := ha rfl; exact Src.ofNil w hk 0
  | some x => exact Src.ofSlice w hk x 0 c [] (by simp) (by simp) (by simp)
 obtain ⟨b, o, rfl, hcell⟩ := hl hne
 refine Src.ofSlice w hk ⟨b, o, none⟩ l.length c (kcs E l) (by rw [xql]) (fun j u hu => ?_) (kcs_one E l)
 have hj := (List.getElem?_eq_some_iff.1 hu).1
 rw [xql] at hj
 rw [Addr.add_lit, hcell j hj]
 exact hu
theorem xqQ {P : Program} (w : World) (x : α) {tx e' t : TypeId} (hk : P.underlying tx = some (.slice e')) : Src P E.k tx (.slice (some ⟨w.heap.size, 0, none⟩) 1 1) 1 (E.cs x).toList (w.alloc (.cells (E.cs x) t)) := by
 refine Src.ofSlice _ hk ⟨w.heap.size, 0, none⟩ 1 1 _ (by rw [Array.length_toList, E.size, Nat.one_mul]) (fun j u hu => ?_) (E.one x)
 rw [Addr.add_lit, cell_of_row _ _ _ _ _ _ (heap_alloc_new w (.cells (E.cs x) t)), Nat.zero_add]
 simpa using hu
theorem rdK_one {w : World} {z : Nat} {x : α} {t : TypeId} {fz : Nat × Nat} (h : w.heap[z]? = some (.cells (E.cs x) t fz)) : RdK E w (.slice (some ⟨z, 0, none⟩) 1 1) [x] := by
 refine ⟨_, _, rfl, Nat.le_refl _, by simp, fun _ => ⟨z, 0, rfl, fun j hj => ?_⟩⟩
 rw [cell_of_row _ _ _ _ _ _ h, xqz]
 simp
theorem RdK.take {w : World} {b o n c q : Nat} {l : List α} (h : RdK E w (.slice (some ⟨b, o, none⟩) n c) l) (hq : q <= l.length) : RdK E w (.slice (some ⟨b, o, none⟩) q c) (l.take q) := by
 have hl : (l.take q).length = q := by rw [List.length_take]; omega
 obtain ⟨a', c', e, hc, _, hcell⟩ := h
 simp only [Value.slice.injEq] at e
 obtain ⟨rfl, rfl, rfl⟩ := e
 refine ⟨some ⟨b, o, none⟩, c, by rw [hl], by omega, by simp, fun hne => ⟨b, o, rfl, fun j hj => ?_⟩⟩
 rw [hl] at hj
 have hl0 : l ≠ [] := by rintro rfl; simp at hne
 obtain ⟨b', o', e, f⟩ := hcell hl0
 simp only [Option.some.injEq, Addr.mk.injEq] at e
 obtain ⟨rfl, rfl, _⟩ := e
 have hqk : q * E.k <= l.length * E.k := Nat.mul_le_mul_right _ hq
 rw [f j (by omega), yqk E l q hq, List.getElem?_take, if_pos hj]
theorem RdK.drop {w : World} {b o n c q : Nat} {l : List α} (h : RdK E w (.slice (some ⟨b, o, none⟩) n c) l) (hq : q <= l.length) : RdK E w (.slice (some ⟨b, o + q * E.k, none⟩) (l.length - q) (c - q)) (l.drop q) := by
 have hl : (l.drop q).length = l.length - q := by rw [List.length_drop]
 obtain ⟨a', c', e, hc, _, hcell⟩ := h
 simp only [Value.slice.injEq] at e
 obtain ⟨rfl, rfl, rfl⟩ := e
 refine ⟨some ⟨b, o + q * E.k, none⟩, c - q, by rw [hl], by omega, by simp, fun hne => ⟨b, o + q * E.k, rfl, fun j hj => ?_⟩⟩
 rw [hl, Nat.sub_mul] at hj
 have hl0 : l ≠ [] := by rintro rfl; simp at hne
 obtain ⟨b', o', e, f⟩ := hcell hl0
 simp only [Option.some.injEq, Addr.mk.injEq] at e
 obtain ⟨rfl, rfl, _⟩ := e
 rw [Nat.add_assoc, f (q * E.k + j) (by omega), yqv E l q hq, List.getElem?_drop]
variable (E) in
def OwnK (w : World) (base : Nat) (e : TypeId) (v : Value) (l : List α) : Prop := w.ownsRow base e E.k v l.length (kcs E l)
theorem OwnK.nil (w : World) (base : Nat) (e : TypeId) : OwnK E w base e (.slice none 0 0) [] := World.ownsRow_nil w base e E.k
theorem OwnK.rd {w : World} {base : Nat} {e : TypeId} {v : Value} {l : List α} (h : OwnK E w base e v l) : RdK E w v l := by
 rcases h.2 with ⟨rfl, hn⟩ | ⟨g, cap, cur, rfl, hb, hg, hnc, hcm, hcs, ht⟩
 ·have : l = [] := List.eq_nil_of_length_eq_zero hn
  subst this
  exact RdK.nil w
 refine ⟨some ⟨g, 0, none⟩, cap, rfl, hnc, by simp, fun _ => ⟨g, 0, rfl, fun j hj => ?_⟩⟩
 obtain ⟨u, hu⟩ := kcs_some E l j hj
 have := World.ownsRow.cells h (g := g) rfl j u hu
 rw [hu]
 simpa [Addr.add_lit] using this
theorem OwnK.kept {w w' : World} {base : Nat} {e : TypeId} {v : Value} {l : List α} {bs : List Nat} (h : OwnK E w base e v l) (hk : Kept w w' bs) (hb : ∀ b, v.ownBlock = some b -> b ∉ bs) : OwnK E w' base e v l := by
 refine ⟨h.1, ?_⟩
 rcases h.2 with h2 | ⟨g, cap, cur, rfl, hbg, hg, rest⟩
 ·exact .inl h2
 exact .inr ⟨g, cap, cur, rfl, hbg, hk.heap (hb g rfl) hg, rest⟩
theorem OwnK.keep {w w' : World} {base : Nat} {e : TypeId} {v : Value} {l : List α} (h : OwnK E w base e v l) (hk : Kept w w' []) : OwnK E w' base e v l := h.kept hk (by simp)
theorem OwnK.mono {w : World} {base base' : Nat} {e : TypeId} {v : Value} {l : List α} (h : OwnK E w base e v l) (hb : base' <= base) : OwnK E w base' e v l := by
 refine ⟨h.1, ?_⟩
 rcases h.2 with h2 | ⟨g, cap, cur, rfl, hbg, r⟩
 ·exact .inl h2
 exact .inr ⟨g, cap, cur, rfl, by omega, r⟩
theorem OwnK.lt {w : World} {base : Nat} {e : TypeId} {v : Value} {l : List α} (h : OwnK E w base e v l) : ∀ b, v.ownBlock = some b -> base <= b /\ b < w.heap.size := World.ownsRow.lt h
theorem OwnK.shape {w : World} {base : Nat} {e : TypeId} {v : Value} {l : List α} (h : OwnK E w base e v l) : ∃ a c, v = .slice a l.length c := h.rd.shape
theorem OwnK.fo {w w' : World} {base : Nat} {e : TypeId} {v : Value} {m : List α} {O : Nat -> Prop} (x : OwnK E w base e v m) (hf : Fo O w w') (he : ∀ g, v.ownBlock = some g -> ¬ O g) : OwnK E w' base e v m := yqB x hf he
theorem OwnK.tag {w : World} {base : Nat} {e : TypeId} {v : Value} {m : List α} (x : OwnK E w base e v m) {g : Nat} (hk : v.ownBlock = some g) : ∃ cur, w.heap[g]? = some (.cells cur e (0, 0)) := by
 rcases x.2 with ⟨rfl, _⟩ | ⟨g, cap, cur, rfl, _, hg, _⟩
 ·simp [Value.ownBlock] at hk
 simp only [Value.ownBlock, Option.some.injEq] at hk
 subst hk
 exact ⟨cur, hg⟩
theorem OwnK.apart {w : World} {base : Nat} {e t : TypeId} {v : Value} {m : List α} (x : OwnK E w base e v m) {g : Nat} {cs : Array Value} {fz : Nat × Nat} (hk : w.heap[g]? = some (.cells cs t fz)) (ht : t ≠ e) : v.ownBlock ≠ some g := by
 intro hv
 obtain ⟨cur, hc⟩ := x.tag hv
 rw [hc] at hk
 simp only [Option.some.injEq, Obj.cells.injEq] at hk
 exact ht hk.2.1.symm
theorem OwnK.at {w : World} {base : Nat} {e : TypeId} {a : Option Addr} {n c : Nat} {l : List α} (h : OwnK E w base e (.slice a n c) l) {i : Nat} {x : α} (hx : l[i]? = some x) :
 ∃ g, a = some ⟨g, 0, none⟩ /\ ∀ j, j < E.k -> w.cell? ⟨g, i * E.k + j, none⟩ = (E.cs x)[j]? /\ w.frozen? ⟨g, i * E.k + j, none⟩ = false := by
 obtain ⟨hi, e1⟩ := List.getElem?_eq_some_iff.1 hx
 rcases h.2 with ⟨h1, hn⟩ | ⟨g, cap, cur, hv, hb, hg, hnc, hcm, hcs, ht⟩
 ·omega
 ·simp only [Value.slice.injEq] at hv
  obtain ⟨rfl, _, _⟩ := hv
  refine ⟨g, rfl, fun j hj => ⟨?_, frozen_of_row _ _ _ _ _ hg⟩⟩
  have := h.rd.here hx j hj
  rwa [Nat.zero_add] at this
def xqo (w : World) (g : Nat) : Nat -> List Value -> World
 | _, [] => w
 | o, u :: r => xqo (w.setCell ⟨g, o, none⟩ u) g (o + 1) r
theorem heap_putAll {g : Nat} {t : TypeId} {fz : Nat × Nat} (us : List Value) : ∀ (w : World) (o : Nat) (cs : Array Value), w.heap[g]? = some (.cells cs t fz) -> o + us.length <= cs.size ->
 ∃ cs', (xqo w g o us).heap[g]? = some (.cells cs' t fz) /\ cs'.size = cs.size /\ cs'.toList = cs.toList.take o ++ us ++ cs.toList.drop (o + us.length) := by
 induction us with
 | nil => intro w o cs h _; exact ⟨cs, h, rfl, by simp⟩
 | cons u r ih =>
  intro w o cs h hl
  simp only [List.length_cons] at hl
  have h1 := xqb h o u
  obtain ⟨cs', h2, h3, h4⟩ := ih (w.setCell ⟨g, o, none⟩ u) (o + 1) _ h1 (by simpa using (by omega : o + 1 + r.length <= cs.size))
  refine ⟨cs', h2, by rw [h3]; simp, ?_⟩
  have hlt : o < cs.toList.length := by rw [Array.length_toList]; omega
  rw [h4, Array.toList_setIfInBounds, List.length_cons]
  have e1 : (cs.toList.set o u).take (o + 1) = cs.toList.take o ++ [u] := by
   rw [List.set_eq_take_append_cons_drop, if_pos hlt, List.take_append, List.length_take, Nat.min_eq_left (by omega), show o + 1 - o = 1 by omega, List.take_of_length_le (by rw [List.length_take]; omega)]
   simp
  have e2 : (cs.toList.set o u).drop (o + 1 + r.length) = cs.toList.drop (o + (r.length + 1)) := by
   rw [List.drop_set, if_pos (by omega), show o + 1 + r.length = o + (r.length + 1) by omega]
  rw [e1, e2]
  simp
theorem putAll_kept {bs : List Nat} {a : World} {g : Nat} (us : List Value) : ∀ (w : World) (o : Nat), Kept a w bs -> (g ∈ bs ∨ a.heap.size <= g) -> Kept a (xqo w g o us) bs := by
 induction us with
 | nil => intro w o h _; exact h
 | cons u r ih => intro w o h hg; exact ih _ _ (h.setCell (p := ⟨g, o, none⟩) hg u) hg
theorem xqu {O : Nat -> Prop} {a : World} {g : Nat} (us : List Value) : ∀ (w : World) (o : Nat), Fo O a w -> (O g ∨ a.heap.size <= g) -> Fo O a (xqo w g o us) := by
 induction us with
 | nil => intro w o h _; exact h
 | cons u r ih => intro w o h hg; exact ih _ _ (h.setCell (p := ⟨g, o, none⟩) hg u) hg
theorem OwnK.put {w : World} {base g n c : Nat} {e : TypeId} {l : List α} (h : OwnK E w base e (.slice (some ⟨g, 0, none⟩) n c) l) (i : Nat) (hi : i < l.length) (x : α) :
 OwnK E (xqo w g (i * E.k) (E.cs x).toList) base e (.slice (some ⟨g, 0, none⟩) n c) (l.set i x) := by
 refine ⟨by rw [xql], ?_⟩
 rcases h.2 with ⟨h1, _⟩ | ⟨g', cap, cur, hv, hb, hg, hnc, hcm, hcs, ht⟩
 ·simp at h1
 ·simp only [Value.slice.injEq, Option.some.injEq, Addr.mk.injEq] at hv
  obtain ⟨⟨rfl, _⟩, rfl, rfl⟩ := hv
  have hxl : (E.cs x).toList.length = E.k := by rw [Array.length_toList, E.size]
  have hin : i * E.k + E.k <= l.length * E.k := by have := Nat.mul_le_mul_right E.k (show i + 1 <= l.length from hi); rwa [Nat.succ_mul] at this
  have hcap : l.length * E.k <= cur.size := by rw [hcs]; exact Nat.mul_le_mul_right _ hnc
  obtain ⟨cs', g1, g2, g3⟩ := heap_putAll (E.cs x).toList w (i * E.k) cur hg (by rw [hxl]; omega)
  refine .inr ⟨g, c, cs', by rw [List.length_set], hb, g1, by rw [List.length_set]; exact hnc, hcm, by rw [g2]; exact hcs, ?_⟩
  rw [List.length_set, g3, kcs_set E l i x hi, <- ht, hxl]
  have hcl : cur.toList.length = cur.size := Array.length_toList
  have hA : (cur.toList.take (i * E.k)).length = i * E.k := by rw [List.length_take]; omega
  have hB : (cur.toList.take (i * E.k) ++ (E.cs x).toList).length = i * E.k + E.k := by rw [List.length_append, hA, hxl]
  rw [List.take_take, Nat.min_eq_left (by omega), List.take_append, hB, List.take_of_length_le (by omega), List.drop_take]
theorem Fo.setCellsK {O : Nat -> Prop} {a : World} {g : Nat} (hg : O g ∨ a.heap.size <= g) : ∀ (vs : List Value) (o : Nat) (w : World), Fo O a w -> Fo O a (w.setCells g o vs)
 | [], _, _, h => h
 | v :: vs, o, _, h => Fo.setCellsK hg vs (o + 1) _ (h.setCell (p := ⟨g, o, none⟩) hg v)
theorem xqZ {g : Nat} {t : TypeId} {fz : Nat × Nat} : ∀ (vs : List Value) (o : Nat) (w : World) (cur : List Value), w.heap[g]? = some (.cells cur.toArray t fz) -> o + vs.length <= cur.length ->
 (w.setCells g o vs).heap[g]? = some (.cells (splice cur o vs).toArray t fz)
 | [], o, w, cur, h, _ => by simpa [World.setCells, splice] using h
 | v :: vs, o, w, cur, h, hl => by
  simp only [List.length_cons] at hl
  have h1 := xqb h o v
  rw [List.setIfInBounds_toArray] at h1
  have h2 := xqZ vs (o + 1) _ _ h1 (by simpa using (by omega : o + 1 + vs.length <= cur.length))
  rw [World.setCells, h2]
  have h3 := list_seg_step cur o v vs (by omega)
  rw [List.append_assoc, List.append_assoc] at h3
  rw [splice, h3, splice, List.length_cons]
theorem run_copy_k {P : Program} (w : World) (dT sT ty elem : TypeId) (i : TypeInfo) (hu : P.underlying dT = some (.slice elem)) (hi : P.info? elem = some i)
 (g o dLen dCap : Nat) (a : Addr) (sLen sCap m : Nat) (cur : List Value) (t : TypeId) (cs : List Value) (hg : w.heap[g]? = some (.cells cur.toArray t (0, 0))) (hm : Nat.min sLen dLen = m) (hn : cs.length = m * i.size)
 (hsrc : ∀ j v, cs[j]? = some v -> w.cell? (a.add j) = some v) (hfit : o + cs.length <= cur.length) (h1 : ∀ v ∈ cs, v.oneCell' = true) :
 (Builtin.copy_ #[dT, sT] ty #[.slice (some ⟨g, o, none⟩) dLen dCap, .slice (some a) sLen sCap]).run P w = .ok (goInt m) (w.setCells g o cs) := by
 have hl := run_loadCells_list (P := P) w a cs hsrc
 have hst := run_storeCells_cells (P := P) g o cs 0 w (fun j hj => by
  rw [cell_of_row w g (o + 0 + j) _ _ _ hg]
  simp only [List.getElem?_toArray]
  rw [List.getElem?_eq_getElem (by omega)]; rfl) (fun j hj => frozen_of_row _ _ _ _ _ hg) h1
 simp only [Nat.add_zero] at hst
 rw [hn] at hl
 simp [Builtin.copy_, run_underlying hu, Builtin.lenOf, Builtin.firstCells, sizeOf, typeInfo, hi, hm, hl, hst]
theorem yqh {P : Program} {w : World} {ops : Array Oper} {rest : List Oper} {o : Oper} {a : Act} {Q : Exit -> Act -> World -> Prop} (hgd : o.guard = none) (d s : Operand) (dT sT : TypeId)
 (ho : o.op = .call { callee := .builtin .copy, args := #[d, s], argTypes := #[dT, sT] }) (elem : TypeId) (i : TypeInfo) (hu : P.underlying dT = some (.slice elem)) (hi : P.info? elem = some i)
 (g off dLen dCap : Nat) (ad : Addr) (sLen sCap m : Nat) (hd : a.eval d = .slice (some ⟨g, off, none⟩) dLen dCap) (hs : a.eval s = .slice (some ad) sLen sCap) (hm : Nat.min sLen dLen = m)
 (cur : List Value) (t : TypeId) (hg : w.heap[g]? = some (.cells cur.toArray t (0, 0))) (cs : List Value) (hn : cs.length = m * i.size)
 (hsrc : ∀ j v, cs[j]? = some v -> w.cell? (ad.add j) = some v) (hfit : off + cs.length <= cur.length) (h1 : ∀ v ∈ cs, v.oneCell' = true)
 (h : ∀ w', Hid (w'.heap[g]? = some (.cells (splice cur off cs).toArray t (0, 0))) -> Hid (Fo (fun k => k = g) w w') -> wpList P ops Q rest (a.put o.dst (goInt m)) w') : wpList P ops Q (o :: rest) a w := by
 refine wpList_plain hgd fun K hK => ?_
 have hrun := run_copy_k (P := P) w dT sT o.type elem i hu hi g off dLen dCap ad sLen sCap m cur t cs hg hm hn hsrc hfit h1
 unfold Oper.wp
 simp [execOp, ho, resolve, invoke, builtin, hd, hs, hrun, Result.andThen]
 exact hK _ _ (h _ (show _ = _ from xqZ cs off w cur hg hfit) (show Fo _ _ _ from Fo.setCellsK (O := fun k => k = g) (.inl rfl) cs off w (Fo.refl _ w)))
theorem yqG {P : Program} {ops : Array Oper} {o : Oper} {a : Act} {w : World} {K : Act -> World -> Prop} {Q : Exit -> Act -> World -> Prop} {E : Prop} (hgd : o.guard = none) (d s : Operand) (dT sT : TypeId)
 (ho : o.op = .call { callee := .builtin .copy, args := #[d, s], argTypes := #[dT, sT] }) (elem : TypeId) (i : TypeInfo) (hu : P.underlying dT = some (.slice elem)) (hi : P.info? elem = some i)
 (g off dLen dCap : Nat) (ad : Addr) (sLen sCap m : Nat) (hd : a.eval d = .slice (some ⟨g, off, none⟩) dLen dCap) (hs : a.eval s = .slice (some ad) sLen sCap) (hm : Nat.min sLen dLen = m)
 (cur : List Value) (t : TypeId) (hg : w.heap[g]? = some (.cells cur.toArray t (0, 0))) (cs : List Value) (hn : cs.length = m * i.size)
 (hsrc : ∀ j v, cs[j]? = some v -> w.cell? (ad.add j) = some v) (hfit : off + cs.length <= cur.length) (h1 : ∀ v ∈ cs, v.oneCell' = true)
 (h : ∀ w', Hid (w'.heap[g]? = some (.cells (splice cur off cs).toArray t (0, 0))) -> Hid (Fo (fun k => k = g) w w') -> K (a.put o.dst (goInt m)) w') :
 if Region.wanted o (yielded ops a.tmps) = true then Oper.wp P o a w K Q else E := by
 have hw : Region.wanted o (yielded ops a.tmps) = true := by simp [Region.wanted, hgd]
 rw [if_pos hw]
 have hrun := run_copy_k (P := P) w dT sT o.type elem i hu hi g off dLen dCap ad sLen sCap m cur t cs hg hm hn hsrc hfit h1
 unfold Oper.wp
 simp [execOp, ho, resolve, invoke, builtin, hd, hs, hrun, Result.andThen]
 exact h _ (show _ = _ from xqZ cs off w cur hg hfit) (show Fo _ _ _ from Fo.setCellsK (O := fun k => k = g) (.inl rfl) cs off w (Fo.refl _ w))
theorem yqj {P : Program} {ops : Array Oper} {o : Oper} {a : Act} {w : World} {K : Act -> World -> Prop} {Q : Exit -> Act -> World -> Prop} {E : Prop} (hgd : o.guard = none) (s x : Operand) (t tx : TypeId)
 (ho : o.op = .call { callee := .builtin .append, args := #[s, x], argTypes := #[t, tx] }) (e : TypeId) (i : TypeInfo) (size : Nat) (ht : P.underlying t = some (.slice e)) (hi : P.info? e = some i) (hsize : i.size = size)
 (g n cap : Nat) (hs : a.eval s = .slice (some ⟨g, 0, none⟩) n cap) (xv : Value) (m : Nat) (news : List Value) (hx : a.eval x = xv) (hsrc : Src P size tx xv m news w) (hroom : n + m <= cap)
 (cur : List Value) (hg : w.heap[g]? = some (.cells cur.toArray e (0, 0))) (hfit : n * size + news.length <= cur.length)
 (h : ∀ w', Hid (w'.heap[g]? = some (.cells (splice cur (n * size) news).toArray e (0, 0))) -> Hid (Fo (fun k => k = g) w w') -> K (a.put o.dst (.slice (some ⟨g, 0, none⟩) (n + m) cap)) w') :
 if Region.wanted o (yielded ops a.tmps) = true then Oper.wp P o a w K Q else E := by
 have hw : Region.wanted o (yielded ops a.tmps) = true := by simp [Region.wanted, hgd]
 rw [if_pos hw]
 subst hsize
 have hrun := run_append_room_src (P := P) w t tx o.type e i ht hi g 0 n cap xv m news hsrc hroom (fun j hj => by
  rw [cell_of_row w g _ _ _ _ hg]
  simp only [List.getElem?_toArray]
  rw [List.getElem?_eq_getElem (by omega)]; rfl) (fun j hj => frozen_of_row _ _ _ _ _ hg)
 rw [Nat.zero_add] at hrun
 unfold Oper.wp
 simp [execOp, ho, resolve, invoke, builtin, hs, hx, hrun, Result.andThen]
 exact h _ (show _ = _ from xqZ news _ w cur hg hfit) (show Fo _ _ _ from Fo.setCellsK (O := fun k => k = g) (.inl rfl) news _ w (Fo.refl _ w))
theorem run_clear_k {P : Program} (w : World) (t e : TypeId) (z : Value) (ht : P.underlying t = some (.slice e)) (hv : ∀ w, (zeroValue e).run P w = .ok z w) (h1 : ∀ v ∈ z.cells.toList, v.oneCell' = true) (hz : 0 < z.cells.size)
 {b o n c : Nat} {cur : List Value} {te : TypeId} (hn : 0 < n) (hb : w.heap[b]? = some (.cells cur.toArray te (0, 0))) (ho : o + n * z.cells.size <= cur.length) :
 ∃ w', (∀ ty, (Builtin.clear_ #[t] ty #[.slice (some ⟨b, o, none⟩) n c]).run P w = .ok (.tuple #[]) w') /\ (∃ cur' : List Value, w'.heap[b]? = some (.cells cur'.toArray te (0, 0)) /\ cur'.length = cur.length /\ cur'.take o = cur.take o) /\ Fo (fun k => k = b) w w' := by
 have hl : (Builtin.zeroCells z.cells n).toList.length = n * z.cells.size := by simp [Builtin.zeroCells]
 have hc : ∀ j, j < (Builtin.zeroCells z.cells n).toList.length -> (w.cell? ⟨b, o + 0 + j, none⟩).isSome = true := by
  intro j hj
  rw [hl] at hj
  rw [cell_of_row w b (o + 0 + j) _ _ _ hb]
  simp only [List.getElem?_toArray]
  rw [List.getElem?_eq_getElem (by omega)]; rfl
 have hs := run_storeCells_cells (P := P) b o _ 0 w hc (fun j hj => frozen_of_row _ _ _ _ _ hb) (by
  intro v hm
  simp only [Builtin.zeroCells, Array.toList_map, Array.toList_range, List.mem_map] at hm
  obtain ⟨i, _, rfl⟩ := hm
  have hi : i % z.cells.size < z.cells.size := Nat.mod_lt _ hz
  rw [getElem!_pos z.cells _ hi]
  exact h1 _ (by simp))
 refine ⟨w.setCells b o (Builtin.zeroCells z.cells n).toList, fun ty => ?_, ⟨_, xqZ _ o w cur hb (by rw [hl]; exact ho), ?_, ?_⟩, Fo.setCellsK (O := fun k => k = b) (.inl rfl) _ o w (Fo.refl _ w)⟩
 ·obtain ⟨m, rfl⟩ : ∃ m, n = m + 1 := ⟨n - 1, by omega⟩
  simp only [Nat.add_zero] at hs
  simp [Builtin.clear_, run_underlying ht, hv, hs]
 ·exact length_splice _ _ _ (by rw [hl]; exact ho)
 ·rw [splice, List.take_left' (by rw [List.length_take]; omega)]
theorem xqT {cur cs : List Value} {o : Nat} (h : o <= cur.length) : (splice cur o cs).take (o + cs.length) = cur.take o ++ cs := by
 have hA : (cur.take o).length = o := by rw [List.length_take]; omega
 rw [splice, <- List.append_assoc]
 exact List.take_left' (by rw [List.length_append, hA])
theorem take_splice_le {cur cs : List Value} {o q : Nat} (hq : q <= o) (h : o <= cur.length) : (splice cur o cs).take q = cur.take q := by
 rw [splice, List.take_append_of_le_length (by rw [List.length_take]; omega), List.take_take, Nat.min_eq_left hq]
variable {α : Type} {E : Enc α}
theorem ins_shift {cur : List Value} {l : List α} {i : Nat} (x : α) (hi : i <= l.length) (hc : (l.length + 1) * E.k <= cur.length) (ht : cur.take (l.length * E.k) = kcs E l) :
 (splice (splice cur ((i + 1) * E.k) (kcs E (l.drop i))) (i * E.k) (E.cs x).toList).take ((l.length + 1) * E.k) = kcs E (l.take i ++ x :: l.drop i) := by
 have hx : (E.cs x).toList.length = E.k := by rw [Array.length_toList, E.size]
 have hd : (kcs E (l.drop i)).length = (l.length - i) * E.k := by rw [xql, List.length_drop]
 have e1 : (i + 1) * E.k = i * E.k + E.k := by rw [Nat.succ_mul]
 have e2 : (l.length + 1) * E.k = i * E.k + E.k + (l.length - i) * E.k := by
  rw [<- e1, <- Nat.add_mul]; congr 1; omega
 have e3 : l.length * E.k = i * E.k + (l.length - i) * E.k := by rw [<- Nat.add_mul]; congr 1; omega
 rw [e2] at hc ⊢
 have h1 : ((splice cur ((i + 1) * E.k) (kcs E (l.drop i)))).length = cur.length := length_splice _ _ _ (by rw [hd, e1]; omega)
 have hk : cur.take (i * E.k) = kcs E (l.take i) := by
  rw [yqk E l i hi, <- ht, List.take_take, Nat.min_eq_left (by rw [e3]; omega)]
 have h2 : splice (splice cur ((i + 1) * E.k) (kcs E (l.drop i))) (i * E.k) (E.cs x).toList = kcs E (l.take i) ++ ((E.cs x).toList ++ (kcs E (l.drop i) ++ cur.drop ((i + 1) * E.k + (kcs E (l.drop i)).length))) := by
  conv => lhs; rw [splice]
  rw [take_splice_le (by rw [e1]; omega) (by rw [e1]; omega), hk, hx, <- e1]
  congr 2
  rw [splice, List.drop_left' (by rw [List.length_take, e1]; omega)]
 rw [h2, xqi, kcs, <- List.append_assoc, <- List.append_assoc, <- List.append_assoc]
 exact List.take_left' (by simp only [List.length_append, hx, hd, xql, List.length_take, Nat.min_eq_left hi])
theorem ins_grow {cur : List Value} {l : List α} {i : Nat} (x : α) (hi : i <= l.length) (hc : (l.length + 1) * E.k <= cur.length) (ht : cur.take (i * E.k) = kcs E (l.take i)) :
 (splice (splice cur (i * E.k) (E.cs x).toList) ((i + 1) * E.k) (kcs E (l.drop i))).take ((l.length + 1) * E.k) = kcs E (l.take i ++ x :: l.drop i) := by
 have hx : (E.cs x).toList.length = E.k := by rw [Array.length_toList, E.size]
 have hd : (kcs E (l.drop i)).length = (l.length - i) * E.k := by rw [xql, List.length_drop]
 have e1 : (i + 1) * E.k = i * E.k + (E.cs x).toList.length := by rw [Nat.succ_mul, hx]
 have e2 : (l.length + 1) * E.k = (i + 1) * E.k + (kcs E (l.drop i)).length := by
  rw [hd, <- Nat.add_mul]; congr 1; omega
 have h1 : (splice cur (i * E.k) (E.cs x).toList).length = cur.length := length_splice _ _ _ (by rw [<- e1]; omega)
 rw [e2, xqT (by rw [h1]; omega), e1, xqT (by omega), ht, xqi, kcs, List.append_assoc]
theorem del_shift {cur : List Value} {l : List α} {i : Nat} (hi : i < l.length) (hc : l.length * E.k <= cur.length) (ht : cur.take (l.length * E.k) = kcs E l) :
 (splice cur (i * E.k) (kcs E (l.drop (i + 1)))).take ((l.length - 1) * E.k) = kcs E (l.eraseIdx i) := by
 have hd : (kcs E (l.drop (i + 1))).length = (l.length - (i + 1)) * E.k := by rw [xql, List.length_drop]
 have e2 : (l.length - 1) * E.k = i * E.k + (kcs E (l.drop (i + 1))).length := by
  rw [hd, <- Nat.add_mul]; congr 1; omega
 have e3 : i * E.k <= l.length * E.k := Nat.mul_le_mul_right _ (by omega)
 rw [e2, xqT (by omega), List.eraseIdx_eq_take_drop_succ, xqi, yqk E l i (by omega), <- ht, List.take_take, Nat.min_eq_left e3]
theorem xqS {α : Type} {E : Enc α} {w : World} {B : Nat} {e : TypeId} {v : Value} {l : List α} {x : α} (h : w.ownsRow B e E.k v (l.length + 1) (kcs E l ++ (E.cs x).toList)) : OwnK E w B e v (l ++ [x]) := by
 unfold OwnK
 rw [xqi, xqz, List.length_append]
 exact h
theorem yqt {α : Type} {E : Enc α} {w : World} {B g cap : Nat} {e : TypeId} {l : List α} {R : List Value} (hg : w.heap[g]? = some (.cells R.toArray e (0, 0))) (hB : B <= g) (hl : l.length <= cap) (hm : cap <= maxLen) (hs : R.length = cap * E.k) (ht : R.take (l.length * E.k) = kcs E l) :
 OwnK E w B e (.slice (some ⟨g, 0, none⟩) l.length cap) l :=
 ⟨xql E l, .inr ⟨g, cap, R.toArray, rfl, hB, hg, hl, hm, by simpa using hs, by simpa using ht⟩⟩
theorem OwnK.row {α : Type} {E : Enc α} {w : World} {B g cap n : Nat} {e : TypeId} {l : List α} (h : OwnK E w B e (.slice (some ⟨g, 0, none⟩) n cap) l) :
 ∃ R : List Value, w.heap[g]? = some (.cells R.toArray e (0, 0)) /\ B <= g /\ n = l.length /\ l.length <= cap /\ cap <= maxLen /\ R.length = cap * E.k /\ R.take (l.length * E.k) = kcs E l := by
 rcases h.2 with ⟨h0, _⟩ | ⟨g', cap', cur, h0, hbg, hg, hnc, hcm, hcs, htk⟩
 ·cases h0
 ·simp only [Value.slice.injEq, Option.some.injEq, Addr.mk.injEq] at h0
  obtain ⟨⟨rfl, _⟩, rfl, rfl⟩ := h0
  exact ⟨cur.toList, by simpa using hg, hbg, rfl, hnc, hcm, by simpa using hcs, htk⟩
theorem xqN {P : Program} (w : World) {ops : Array Oper} {rest : List Oper} {o : Oper} {a : Act} {Q : Exit -> Act -> World -> Prop} (hgd : o.guard = none) (x : Operand) (t : TypeId)
 (ho : o.op = .call { callee := .builtin .clear, args := #[x], argTypes := #[t] }) (vx : Value) (hx : a.eval x = vx) (w' : World) (hr : (Builtin.clear_ #[t] o.type #[vx]).run P w = .ok (.tuple #[]) w')
 (h : wpList P ops Q rest (a.put o.dst (.tuple #[])) w') : wpList P ops Q (o :: rest) a w := by
 refine wpList_plain hgd fun K hK => ?_
 unfold Oper.wp execOp
 simp only [ho, resolve, invoke, builtin, Sem.run_bind, Sem.run_pure, Result.andThen_ok, List.map_toArray, List.map_cons, List.map_nil, hx, hr]
 exact hK _ _ h
theorem OwnK.set1 {α : Type} {E : Enc α} {w : World} {B g n c : Nat} {e : TypeId} {l : List α} (h : OwnK E w B e (.slice (some ⟨g, 0, none⟩) n c) l) {i : Nat} {x y : α} (hx : l[i]? = some x) {j : Nat} (hj : j < E.k) {u : Value} (hy : (E.cs y).toList = (E.cs x).toList.set j u) :
 OwnK E (w.setCell ⟨g, i * E.k + j, none⟩ u) B e (.slice (some ⟨g, 0, none⟩) n c) (l.set i y) := by
 obtain ⟨R, hg, hBg, rfl, hlc, hcm, hRl, hRt⟩ := h.row
 obtain ⟨hi, rfl⟩ := List.getElem?_eq_some_iff.1 hx
 have h1 := xqb hg (i * E.k + j) u
 rw [List.setIfInBounds_toArray] at h1
 have hh := yqt (E := E) (l := l.set i y) (B := B) (cap := c) h1 hBg (by rw [List.length_set]; exact hlc) hcm (by rw [List.length_set]; exact hRl) (by
  have e1 := kcs_set E l i l[i] hi
  rw [List.set_getElem_self] at e1
  have hA : ((kcs E l).take (i * E.k)).length = i * E.k := by
   rw [<- yqk E l i (by omega), xql, List.length_take, Nat.min_eq_left (by omega)]
  rw [List.length_set, List.take_set, hRt, kcs_set E l i y hi, hy]
  conv => lhs; rw [e1]
  rw [List.append_assoc, List.append_assoc, List.set_append, if_neg (by rw [hA]; omega), hA, Nat.add_sub_cancel_left, List.set_append, if_pos (by rw [Array.length_toList, E.size]; exact hj)])
 rw [List.length_set] at hh
 exact hh
theorem del_range {α : Type} {E : Enc α} {cur : List Value} {l : List α} {i j : Nat} (hij : i <= j) (hj : j <= l.length) (hc : l.length * E.k <= cur.length) (ht : cur.take (l.length * E.k) = kcs E l) :
 (splice cur (i * E.k) (kcs E (l.drop j))).take ((i + (l.length - j)) * E.k) = kcs E (l.take i ++ l.drop j) := by
 have hd : (kcs E (l.drop j)).length = (l.length - j) * E.k := by rw [xql, List.length_drop]
 have e2 : (i + (l.length - j)) * E.k = i * E.k + (kcs E (l.drop j)).length := by rw [hd, <- Nat.add_mul]
 have e3 : i * E.k <= l.length * E.k := Nat.mul_le_mul_right _ (by omega)
 rw [e2, xqT (by omega), xqi, yqk E l i (by omega), <- ht, List.take_take, Nat.min_eq_left e3]
end Go.Proofs.YticiofkiffgclaaGreat
namespace Go.Proofs.YticiofkiffgclaaGreat
variable {α : Type} {lt : α -> α -> Bool}
structure Ord (lt : α -> α -> Bool) : Prop where
 irr : ∀ a, lt a a = false
 tr : ∀ a b c, lt a b = true -> lt b c = true -> lt a c = true
theorem Ord.asymm (o : Ord lt) {a b : α} (h : lt a b = true) : lt b a = false := by
 cases k : lt b a with
 | false => rfl
 | true => have := o.tr a b a h k; rw [o.irr] at this; cases this
def Rise (lt : α -> α -> Bool) (l : List α) : Prop := l.Pairwise fun a b => lt a b = true
def insG (lt : α -> α -> Bool) (x : α) : List α -> List α
 | [] => [x]
 | y :: t => if lt x y = true then x :: y :: t else y :: insG lt x t
theorem insG_length (x : α) (l : List α) : (insG lt x l).length = l.length + 1 := by
 induction l with
 | nil => rfl
 | cons y t ih =>
 rw [insG]
 split
 ·rfl
 rw [List.length_cons, ih, List.length_cons]
theorem insG_mem (x y : α) (l : List α) : y ∈ insG lt x l ↔ y = x ∨ y ∈ l := by
 induction l with
 | nil => simp [insG]
 | cons z t ih =>
 rw [insG]
 split
 ·simp
 rw [List.mem_cons, ih, List.mem_cons]
 constructor
 ·rintro (h | h | h)
  ·exact .inr (.inl h)
  ·exact .inl h
  exact .inr (.inr h)
 rintro (h | h | h)
 ·exact .inr (.inl h)
 ·exact .inl h
 exact .inr (.inr h)
theorem insG_pairwise {R : α -> α -> Prop} {x : α} {l : List α} (h : l.Pairwise R) (h1 : ∀ y ∈ l, R x y /\ R y x) : (insG lt x l).Pairwise R := by
 induction l with
 | nil => exact List.pairwise_singleton _ _
 | cons y t ih =>
 obtain ⟨hy, ht⟩ := List.pairwise_cons.1 h
 rw [insG]
 split
 ·exact List.pairwise_cons.2 ⟨fun z hz => (h1 z hz).1, h⟩
 refine List.pairwise_cons.2 ⟨fun z hz => ?_, ih ht (fun z hz => h1 z (by simp [hz]))⟩
 rcases (insG_mem x z t).1 hz with rfl | hz
 ·exact (h1 y (by simp)).2
 exact hy z hz
theorem insG_rise (o : Ord lt) {x : α} {l : List α} (h : Rise lt l) (hx : ∀ y ∈ l, lt x y = false -> lt y x = true) : Rise lt (insG lt x l) := by
 induction l with
 | nil => exact List.pairwise_singleton _ _
 | cons y t ih =>
 obtain ⟨hy, ht⟩ := List.pairwise_cons.1 h
 rw [insG]
 split
 ·rename_i c
  exact List.pairwise_cons.2 ⟨fun z hz => by
   rcases List.mem_cons.1 hz with rfl | hz
   ·exact c
   ·exact o.tr _ _ _ c (hy z hz), h⟩
 rename_i c
 refine List.pairwise_cons.2 ⟨fun z hz => ?_, ih ht (fun z hz => hx z (by simp [hz]))⟩
 rcases (insG_mem x z t).1 hz with rfl | hz
 ·exact hx y (by simp) (by simpa using c)
 exact hy z hz
theorem insG_at (o : Ord lt) {x : α} {l : List α} (h : Rise lt l) {q : Nat} (hq : q <= l.length) (h1 : ∀ j y, q <= j -> l[j]? = some y -> lt x y = true) (h2 : ∀ y, 0 < q -> l[q - 1]? = some y -> lt x y = false) : l.take q ++ x :: l.drop q = insG lt x l := by
 induction l generalizing q with
 | nil => simp at hq; subst hq; rfl
 | cons y t ih =>
 obtain ⟨hy, ht⟩ := List.pairwise_cons.1 h
 cases q with
 | zero =>
 have := h1 0 y (Nat.le_refl _) rfl
 rw [insG, if_pos this]; rfl
 | succ q =>
 have hyx : lt x y = false := by
  cases q with
  | zero => exact h2 y (by omega) rfl
  | succ q =>
  cases k : lt x y with
  | false => rfl
  | true =>
  have hql : q < t.length := by simp at hq; omega
  have e1 : (y :: t)[q + 1 + 1 - 1]? = some t[q] := by rw [show q + 1 + 1 - 1 = q + 1 by omega, List.getElem?_cons_succ, List.getElem?_eq_getElem hql]
  have := h2 t[q] (by omega) e1
  have h3 := o.tr _ _ _ k (hy t[q] (List.getElem_mem hql))
  rw [this] at h3
  cases h3
 rw [insG, if_neg (by rw [hyx]; decide), List.take_succ_cons, List.drop_succ_cons, List.cons_append]
 congr 1
 refine ih ht (by simpa using hq) (fun j z hj hz => h1 (j + 1) z (by omega) (by simpa using hz)) (fun z hz0 hz => h2 z (by omega) ?_)
 cases q with
 | zero => omega
 | succ q => simpa using hz
def Cutp (p : α -> Bool) (l : List α) : Prop := l.Pairwise fun a b => p b = true -> p a = true
theorem cut_spec {p : α -> Bool} : ∀ {l : List α}, Cutp p l -> (∀ j y, j < l.countP p -> l[j]? = some y -> p y = true) /\ (∀ j y, l.countP p <= j -> l[j]? = some y -> p y = false)
 | [], _ => ⟨fun j y _ hy => by simp at hy, fun j y _ hy => by simp at hy⟩
 | x :: t, h => by
  obtain ⟨hx, ht⟩ := List.pairwise_cons.1 h
  obtain ⟨i1, i2⟩ := cut_spec ht
  cases hc : p x with
  | true =>
   rw [List.countP_cons_of_pos hc]
   refine ⟨fun j y hj hy => ?_, fun j y hj hy => ?_⟩
   ·cases j with
    | zero => simp at hy; subst hy; exact hc
    | succ j => exact i1 j y (by omega) (by simpa using hy)
   cases j with
   | zero => omega
   | succ j => exact i2 j y (by omega) (by simpa using hy)
  | false =>
  have hn : ∀ y ∈ t, p y = false := fun y hy => by
   cases hk : p y with
   | false => rfl
   | true => have := hx y hy hk; rw [hc] at this; cases this
  have e : (x :: t).countP p = 0 := by
   rw [List.countP_eq_zero]
   intro y hy
   rcases List.mem_cons.1 hy with rfl | hy
   ·rw [hc]; decide
   rw [hn y hy]; decide
  rw [e]
  refine ⟨fun j y hj _ => by omega, fun j y _ hy => ?_⟩
  rcases List.mem_cons.1 (List.mem_of_getElem? hy) with rfl | hy
  ·exact hc
  exact hn y hy
theorem cut_take {p : α -> Bool} {l : List α} (h : Cutp p l) : l.take (l.countP p) = l.filter p /\ l.drop (l.countP p) = l.filter fun x => !p x := by
 induction l with
 | nil => exact ⟨rfl, rfl⟩
 | cons x t ih =>
 obtain ⟨hx, ht⟩ := List.pairwise_cons.1 h
 obtain ⟨i1, i2⟩ := ih ht
 cases hc : p x with
 | true =>
 rw [List.countP_cons_of_pos hc, List.take_succ_cons, List.drop_succ_cons, i1, i2, List.filter_cons_of_pos hc, List.filter_cons_of_neg (by rw [hc]; decide)]
 exact ⟨rfl, rfl⟩
 | false =>
 have hn : ∀ y ∈ t, p y = false := fun y hy => by
  cases hk : p y with
  | false => rfl
  | true => have := hx y hy hk; rw [hc] at this; cases this
 have e : (x :: t).countP p = 0 := by
  rw [List.countP_eq_zero]
  intro y hy
  rcases List.mem_cons.1 hy with rfl | hy
  ·rw [hc]; decide
  rw [hn y hy]; decide
 rw [e, List.take_zero, List.drop_zero]
 refine ⟨?_, ?_⟩
 ·symm
  rw [List.filter_eq_nil_iff]
  intro y hy
  rcases List.mem_cons.1 hy with rfl | hy
  ·rw [hc]; decide
  rw [hn y hy]; decide
 symm
 rw [List.filter_eq_self]
 intro y hy
 rcases List.mem_cons.1 hy with rfl | hy
 ·rw [hc]; rfl
 rw [hn y hy]; rfl
end Go.Proofs.YticiofkiffgclaaGreat
