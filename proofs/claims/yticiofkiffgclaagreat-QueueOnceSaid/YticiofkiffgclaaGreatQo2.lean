/-
  Gka, Gkb in one text.
-/
import Derived.Test.YticiofkiffgclaaGreatQo1
import Derived.Laws.CopyOwn
import Derived.Laws.IdiomCopy
import Derived.Lib.AppendZerosOnto
import Derived.Lib.Overlaps
import Derived.Lib.SliceRun
namespace Go.Proofs.YticiofkiffgclaaGreat
set_option linter.unusedVariables false
open Go.RowKit

structure Enc (α : Type) where
  k : Nat
  cs : α → Array Value
  size : ∀ x, (cs x).size = k
  one : ∀ x, ∀ u ∈ (cs x).toList, u.oneCell' = true
  pos : 0 < k

variable {α : Type} (E : Enc α)

def kcs : List α → List Value
  | [] => []
  | x :: t => (E.cs x).toList ++ kcs t

theorem kcs_length (l : List α) : (kcs E l).length = l.length * E.k := by
  induction l with
  | nil => simp [kcs]
  | cons x t ih => rw [kcs, List.length_append, ih, List.length_cons, Array.length_toList, E.size, Nat.succ_mul, Nat.add_comm]

theorem kcs_append (l m : List α) : kcs E (l ++ m) = kcs E l ++ kcs E m := by
  induction l with
  | nil => rfl
  | cons x t ih => rw [List.cons_append, kcs, kcs, ih, List.append_assoc]

theorem kcs_single (x : α) : kcs E [x] = (E.cs x).toList := by simp [kcs]

theorem kcs_one (l : List α) : ∀ u ∈ kcs E l, u.oneCell' = true := by
  induction l with
  | nil => intro u hu; simp [kcs] at hu
  | cons x t ih =>
    intro u hu
    rcases List.mem_append.1 hu with h | h
    · exact E.one x u h
    · exact ih u h

theorem kcs_get (l : List α) : ∀ (i j : Nat) (h : i < l.length), j < E.k → (kcs E l)[i * E.k + j]? = (E.cs l[i])[j]? := by
  induction l with
  | nil => intro i j h; simp at h
  | cons x t ih =>
    intro i j h hj
    rw [kcs]
    cases i with
    | zero =>
      rw [Nat.zero_mul, Nat.zero_add, List.getElem?_append_left (by rw [Array.length_toList, E.size]; exact hj), Array.getElem?_toList]
      rfl
    | succ i =>
      have e : (i + 1) * E.k + j - E.k = i * E.k + j := by rw [Nat.succ_mul]; omega
      rw [List.getElem?_append_right (by rw [Array.length_toList, E.size, Nat.succ_mul]; omega), Array.length_toList, E.size, e]
      exact ih i j (by simpa using h) hj

theorem kcs_some (l : List α) (j : Nat) (h : j < l.length * E.k) : ∃ u, (kcs E l)[j]? = some u := ⟨_, List.getElem?_eq_getElem (by rw [kcs_length]; exact h)⟩

theorem at_lt {n i j k : Nat} (hi : i < n) (hj : j < k) : i * k + j < n * k := by
  have : (i + 1) * k ≤ n * k := Nat.mul_le_mul_right k hi
  rw [Nat.succ_mul] at this
  omega

theorem kcs_take (l : List α) (q : Nat) (hq : q ≤ l.length) : kcs E (l.take q) = (kcs E l).take (q * E.k) := by
  have hl : (kcs E (l.take q)).length = q * E.k := by rw [kcs_length, List.length_take, Nat.min_eq_left hq]
  conv => rhs; rw [← List.take_append_drop q l, kcs_append]
  exact (List.take_left' hl).symm

theorem kcs_drop (l : List α) (q : Nat) (hq : q ≤ l.length) : kcs E (l.drop q) = (kcs E l).drop (q * E.k) := by
  have hl : (kcs E (l.take q)).length = q * E.k := by rw [kcs_length, List.length_take, Nat.min_eq_left hq]
  conv => rhs; rw [← List.take_append_drop q l, kcs_append]
  exact (List.drop_left' hl).symm

theorem kcs_set (l : List α) : ∀ (i : Nat) (x : α), i < l.length → kcs E (l.set i x) = (kcs E l).take (i * E.k) ++ (E.cs x).toList ++ (kcs E l).drop (i * E.k + E.k) := by
  intro i x h
  have e : l.set i x = l.take i ++ [x] ++ l.drop (i + 1) := by rw [List.set_eq_take_append_cons_drop, if_pos h]; simp
  rw [e, kcs_append, kcs_append, kcs_single, kcs_take E l i (by omega), kcs_drop E l (i + 1) (by omega), Nat.succ_mul]

def RdK (w : World) (v : Value) (l : List α) : Prop :=
  ∃ a c, v = .slice a l.length c ∧ l.length ≤ c ∧ (a = none → c = 0) ∧
    (l ≠ [] → ∃ b o, a = some ⟨b, o, none⟩ ∧ ∀ j, j < l.length * E.k → w.cell? ⟨b, o + j, none⟩ = (kcs E l)[j]?)

variable {E}

theorem RdK.nil (w : World) : RdK E w (.slice none 0 0) [] := ⟨none, 0, rfl, Nat.le_refl _, fun _ => rfl, fun h => absurd rfl h⟩
theorem RdK.kept {w w' : World} {v : Value} {l : List α} {bs : List Nat} (h : RdK E w v l) (hk : Kept w w' bs) (hb : ∀ b, v.ownBlock = some b → b ∉ bs) : RdK E w' v l := by
  obtain ⟨a, c, rfl, hc, ha, hl⟩ := h
  refine ⟨a, c, rfl, hc, ha, fun hne => ?_⟩
  obtain ⟨b, o, rfl, hcell⟩ := hl hne
  refine ⟨b, o, rfl, fun j hj => ?_⟩
  obtain ⟨u, hu⟩ := kcs_some E l j hj
  have h1 := hcell j hj
  rw [hu] at h1 ⊢
  exact hk.cell (p := ⟨b, o + j, none⟩) (hb b rfl) h1
theorem RdK.keep {w w' : World} {v : Value} {l : List α} (h : RdK E w v l) (hk : Kept w w' []) : RdK E w' v l := h.kept hk (by simp)

theorem RdK.shape {w : World} {v : Value} {l : List α} (h : RdK E w v l) : ∃ a c, v = .slice a l.length c := by
  obtain ⟨a, c, h, _⟩ := h
  exact ⟨a, c, h⟩
theorem RdK.at {w : World} {a : Option Addr} {n c : Nat} {l : List α} (h : RdK E w (.slice a n c) l) {i : Nat} {x : α} (hx : l[i]? = some x) : ∃ b o, a = some ⟨b, o, none⟩ ∧ ∀ j, j < E.k → w.cell? ⟨b, o + i * E.k + j, none⟩ = (E.cs x)[j]? := by
  obtain ⟨hi, rfl⟩ := List.getElem?_eq_some_iff.1 hx
  obtain ⟨a', c', hv, _, _, hl⟩ := h
  simp only [Value.slice.injEq] at hv
  obtain ⟨rfl, _, _⟩ := hv
  obtain ⟨b, o, rfl, hcell⟩ := hl (by rintro rfl; simp at hi)
  refine ⟨b, o, rfl, fun j hj => ?_⟩
  rw [← kcs_get E l i j hi hj, Nat.add_assoc]
  exact hcell _ (at_lt hi hj)

theorem RdK.here {w : World} {b o n c : Nat} {l : List α} (h : RdK E w (.slice (some ⟨b, o, none⟩) n c) l) {i : Nat} {x : α} (hx : l[i]? = some x) (j : Nat) (hj : j < E.k) : w.cell? ⟨b, o + i * E.k + j, none⟩ = (E.cs x)[j]? := by
  obtain ⟨b', o', e, f⟩ := h.at hx
  simp only [Option.some.injEq, Addr.mk.injEq] at e
  obtain ⟨rfl, rfl, _⟩ := e
  exact f j hj

theorem RdK.src {P : Program} {w : World} {v : Value} {l : List α} (h : RdK E w v l) {tx e' : TypeId} (hk : P.underlying tx = some (.slice e')) : Src P E.k tx v l.length (kcs E l) w := by
  obtain ⟨a, c, rfl, hc, ha, hl⟩ := h
  by_cases hne : l = []
  · subst hne
    cases a with
    | none => obtain rfl := ha rfl; exact Src.ofNil w hk 0
    | some x => exact Src.ofSlice w hk x 0 c [] (by simp) (by simp) (by simp)
  · obtain ⟨b, o, rfl, hcell⟩ := hl hne
    refine Src.ofSlice w hk ⟨b, o, none⟩ l.length c (kcs E l) (by rw [kcs_length]) (fun j u hu => ?_) (kcs_one E l)
    have hj := (List.getElem?_eq_some_iff.1 hu).1
    rw [kcs_length] at hj
    rw [Addr.add_lit, hcell j hj]
    exact hu

theorem src_kone {P : Program} (w : World) (x : α) {tx e' t : TypeId} (hk : P.underlying tx = some (.slice e')) : Src P E.k tx (.slice (some ⟨w.heap.size, 0, none⟩) 1 1) 1 (E.cs x).toList (w.alloc (.cells (E.cs x) t)) := by
  refine Src.ofSlice _ hk ⟨w.heap.size, 0, none⟩ 1 1 _ (by rw [Array.length_toList, E.size, Nat.one_mul]) (fun j u hu => ?_) (E.one x)
  rw [Addr.add_lit, cell_of_row _ _ _ _ _ _ (heap_alloc_new w (.cells (E.cs x) t)), Nat.zero_add]
  simpa using hu

theorem rdK_one {w : World} {z : Nat} {x : α} {t : TypeId} {fz : Nat × Nat} (h : w.heap[z]? = some (.cells (E.cs x) t fz)) : RdK E w (.slice (some ⟨z, 0, none⟩) 1 1) [x] := by
  refine ⟨_, _, rfl, Nat.le_refl _, by simp, fun _ => ⟨z, 0, rfl, fun j hj => ?_⟩⟩
  rw [cell_of_row _ _ _ _ _ _ h, kcs_single]
  simp

variable (E) in
def OwnK (w : World) (base : Nat) (e : TypeId) (v : Value) (l : List α) : Prop := w.ownsRow base e E.k v l.length (kcs E l)

theorem OwnK.nil (w : World) (base : Nat) (e : TypeId) : OwnK E w base e (.slice none 0 0) [] := World.ownsRow_nil w base e E.k

theorem OwnK.rd {w : World} {base : Nat} {e : TypeId} {v : Value} {l : List α} (h : OwnK E w base e v l) : RdK E w v l := by
  rcases h.2 with ⟨rfl, hn⟩ | ⟨g, cap, cur, rfl, hb, hg, hnc, hcm, hcs, ht⟩
  · have : l = [] := List.eq_nil_of_length_eq_zero hn
    subst this
    exact RdK.nil w
  · refine ⟨some ⟨g, 0, none⟩, cap, rfl, hnc, by simp, fun _ => ⟨g, 0, rfl, fun j hj => ?_⟩⟩
    obtain ⟨u, hu⟩ := kcs_some E l j hj
    have := World.ownsRow.cells h (g := g) rfl j u hu
    rw [hu]
    simpa [Addr.add_lit] using this

theorem OwnK.kept {w w' : World} {base : Nat} {e : TypeId} {v : Value} {l : List α} {bs : List Nat} (h : OwnK E w base e v l) (hk : Kept w w' bs) (hb : ∀ b, v.ownBlock = some b → b ∉ bs) : OwnK E w' base e v l := by
  refine ⟨h.1, ?_⟩
  rcases h.2 with h2 | ⟨g, cap, cur, rfl, hbg, hg, rest⟩
  · exact .inl h2
  · exact .inr ⟨g, cap, cur, rfl, hbg, hk.heap (hb g rfl) hg, rest⟩
theorem OwnK.keep {w w' : World} {base : Nat} {e : TypeId} {v : Value} {l : List α} (h : OwnK E w base e v l) (hk : Kept w w' []) : OwnK E w' base e v l := h.kept hk (by simp)

theorem OwnK.mono {w : World} {base base' : Nat} {e : TypeId} {v : Value} {l : List α} (h : OwnK E w base e v l) (hb : base' ≤ base) : OwnK E w base' e v l := by
  refine ⟨h.1, ?_⟩
  rcases h.2 with h2 | ⟨g, cap, cur, rfl, hbg, r⟩
  · exact .inl h2
  · exact .inr ⟨g, cap, cur, rfl, by omega, r⟩

theorem OwnK.lt {w : World} {base : Nat} {e : TypeId} {v : Value} {l : List α} (h : OwnK E w base e v l) : ∀ b, v.ownBlock = some b → base ≤ b ∧ b < w.heap.size := World.ownsRow.lt h

theorem OwnK.shape {w : World} {base : Nat} {e : TypeId} {v : Value} {l : List α} (h : OwnK E w base e v l) : ∃ a c, v = .slice a l.length c := h.rd.shape

theorem OwnK.fo {w w' : World} {base : Nat} {e : TypeId} {v : Value} {m : List α} {O : Nat → Prop} (x : OwnK E w base e v m) (hf : Fo O w w') (he : ∀ g, v.ownBlock = some g → ¬ O g) : OwnK E w' base e v m := ownsRow_fo x hf he
theorem OwnK.tag {w : World} {base : Nat} {e : TypeId} {v : Value} {m : List α} (x : OwnK E w base e v m) {g : Nat} (hk : v.ownBlock = some g) : ∃ cur, w.heap[g]? = some (.cells cur e (0, 0)) := by
  rcases x.2 with ⟨rfl, _⟩ | ⟨g, cap, cur, rfl, _, hg, _⟩
  · simp [Value.ownBlock] at hk
  · simp only [Value.ownBlock, Option.some.injEq] at hk
    subst hk
    exact ⟨cur, hg⟩
theorem OwnK.apart {w : World} {base : Nat} {e t : TypeId} {v : Value} {m : List α} (x : OwnK E w base e v m) {g : Nat} {cs : Array Value} {fz : Nat × Nat} (hk : w.heap[g]? = some (.cells cs t fz)) (ht : t ≠ e) : v.ownBlock ≠ some g := by
  intro hv
  obtain ⟨cur, hc⟩ := x.tag hv
  rw [hc] at hk
  simp only [Option.some.injEq, Obj.cells.injEq] at hk
  exact ht hk.2.1.symm

theorem OwnK.at {w : World} {base : Nat} {e : TypeId} {a : Option Addr} {n c : Nat} {l : List α} (h : OwnK E w base e (.slice a n c) l) {i : Nat} {x : α} (hx : l[i]? = some x) :
    ∃ g, a = some ⟨g, 0, none⟩ ∧ ∀ j, j < E.k → w.cell? ⟨g, i * E.k + j, none⟩ = (E.cs x)[j]? ∧ w.frozen? ⟨g, i * E.k + j, none⟩ = false := by
  obtain ⟨hi, e1⟩ := List.getElem?_eq_some_iff.1 hx
  rcases h.2 with ⟨h1, hn⟩ | ⟨g, cap, cur, hv, hb, hg, hnc, hcm, hcs, ht⟩
  · omega
  · simp only [Value.slice.injEq] at hv
    obtain ⟨rfl, _, _⟩ := hv
    refine ⟨g, rfl, fun j hj => ⟨?_, frozen_of_row _ _ _ _ _ hg⟩⟩
    have := h.rd.here hx j hj
    rwa [Nat.zero_add] at this

def putAll (w : World) (g : Nat) : Nat → List Value → World
  | _, [] => w
  | o, u :: r => putAll (w.setCell ⟨g, o, none⟩ u) g (o + 1) r

theorem heap_putAll {g : Nat} {t : TypeId} {fz : Nat × Nat} (us : List Value) : ∀ (w : World) (o : Nat) (cs : Array Value), w.heap[g]? = some (.cells cs t fz) → o + us.length ≤ cs.size →
    ∃ cs', (putAll w g o us).heap[g]? = some (.cells cs' t fz) ∧ cs'.size = cs.size ∧ cs'.toList = cs.toList.take o ++ us ++ cs.toList.drop (o + us.length) := by
  induction us with
  | nil => intro w o cs h _; exact ⟨cs, h, rfl, by simp⟩
  | cons u r ih =>
    intro w o cs h hl
    simp only [List.length_cons] at hl
    have h1 := heap_setCell_at h o u
    obtain ⟨cs', h2, h3, h4⟩ := ih (w.setCell ⟨g, o, none⟩ u) (o + 1) _ h1 (by simpa using (by omega : o + 1 + r.length ≤ cs.size))
    refine ⟨cs', h2, by rw [h3]; simp, ?_⟩
    have hlt : o < cs.toList.length := by rw [Array.length_toList]; omega
    rw [h4, Array.toList_setIfInBounds, List.length_cons]
    have e1 : (cs.toList.set o u).take (o + 1) = cs.toList.take o ++ [u] := by
      rw [List.set_eq_take_append_cons_drop, if_pos hlt, List.take_append, List.length_take, Nat.min_eq_left (by omega), show o + 1 - o = 1 by omega, List.take_of_length_le (by rw [List.length_take]; omega)]
      simp
    have e2 : (cs.toList.set o u).drop (o + 1 + r.length) = cs.toList.drop (o + (r.length + 1)) := by
      rw [List.drop_set, if_pos (by omega), show o + 1 + r.length = o + (r.length + 1) by omega]
    rw [e1, e2]
    simp

theorem putAll_kept {bs : List Nat} {a : World} {g : Nat} (us : List Value) : ∀ (w : World) (o : Nat), Kept a w bs → (g ∈ bs ∨ a.heap.size ≤ g) → Kept a (putAll w g o us) bs := by
  induction us with
  | nil => intro w o h _; exact h
  | cons u r ih => intro w o h hg; exact ih _ _ (h.setCell (p := ⟨g, o, none⟩) hg u) hg

theorem putAll_fo {O : Nat → Prop} {a : World} {g : Nat} (us : List Value) : ∀ (w : World) (o : Nat), Fo O a w → (O g ∨ a.heap.size ≤ g) → Fo O a (putAll w g o us) := by
  induction us with
  | nil => intro w o h _; exact h
  | cons u r ih => intro w o h hg; exact ih _ _ (h.setCell (p := ⟨g, o, none⟩) hg u) hg

theorem OwnK.put {w : World} {base g n c : Nat} {e : TypeId} {l : List α} (h : OwnK E w base e (.slice (some ⟨g, 0, none⟩) n c) l) (i : Nat) (hi : i < l.length) (x : α) :
    OwnK E (putAll w g (i * E.k) (E.cs x).toList) base e (.slice (some ⟨g, 0, none⟩) n c) (l.set i x) := by
  refine ⟨by rw [kcs_length], ?_⟩
  rcases h.2 with ⟨h1, _⟩ | ⟨g', cap, cur, hv, hb, hg, hnc, hcm, hcs, ht⟩
  · simp at h1
  · simp only [Value.slice.injEq, Option.some.injEq, Addr.mk.injEq] at hv
    obtain ⟨⟨rfl, _⟩, rfl, rfl⟩ := hv
    have hxl : (E.cs x).toList.length = E.k := by rw [Array.length_toList, E.size]
    have hin : i * E.k + E.k ≤ l.length * E.k := by have := Nat.mul_le_mul_right E.k (show i + 1 ≤ l.length from hi); rwa [Nat.succ_mul] at this
    have hcap : l.length * E.k ≤ cur.size := by rw [hcs]; exact Nat.mul_le_mul_right _ hnc
    obtain ⟨cs', g1, g2, g3⟩ := heap_putAll (E.cs x).toList w (i * E.k) cur hg (by rw [hxl]; omega)
    refine .inr ⟨g, c, cs', by rw [List.length_set], hb, g1, by rw [List.length_set]; exact hnc, hcm, by rw [g2]; exact hcs, ?_⟩
    rw [List.length_set, g3, kcs_set E l i x hi, ← ht, hxl]
    have hcl : cur.toList.length = cur.size := Array.length_toList
    have hA : (cur.toList.take (i * E.k)).length = i * E.k := by rw [List.length_take]; omega
    have hB : (cur.toList.take (i * E.k) ++ (E.cs x).toList).length = i * E.k + E.k := by rw [List.length_append, hA, hxl]
    rw [List.take_take, Nat.min_eq_left (by omega), List.take_append, hB, List.take_of_length_le (by omega), List.drop_take]

end Go.Proofs.YticiofkiffgclaaGreat

namespace Go.Proofs.YticiofkiffgclaaGreat
set_option linter.unusedVariables false
open Go.RowKit

theorem Fo.setCellsK {O : Nat → Prop} {a : World} {g : Nat} (hg : O g ∨ a.heap.size ≤ g) : ∀ (vs : List Value) (o : Nat) (w : World), Fo O a w → Fo O a (w.setCells g o vs)
  | [], _, _, h => h
  | v :: vs, o, _, h => Fo.setCellsK hg vs (o + 1) _ (h.setCell (p := ⟨g, o, none⟩) hg v)

theorem heap_setCells {g : Nat} {t : TypeId} {fz : Nat × Nat} : ∀ (vs : List Value) (o : Nat) (w : World) (cur : List Value), w.heap[g]? = some (.cells cur.toArray t fz) → o + vs.length ≤ cur.length →
    (w.setCells g o vs).heap[g]? = some (.cells (splice cur o vs).toArray t fz)
  | [], o, w, cur, h, _ => by simpa [World.setCells, splice] using h
  | v :: vs, o, w, cur, h, hl => by
    simp only [List.length_cons] at hl
    have h1 := heap_setCell_at h o v
    rw [List.setIfInBounds_toArray] at h1
    have h2 := heap_setCells vs (o + 1) _ _ h1 (by simpa using (by omega : o + 1 + vs.length ≤ cur.length))
    rw [World.setCells, h2]
    have h3 := list_seg_step cur o v vs (by omega)
    rw [List.append_assoc, List.append_assoc] at h3
    rw [splice, h3, splice, List.length_cons]

theorem run_copy_k {P : Program} (w : World) (dT sT ty elem : TypeId) (i : TypeInfo) (hu : P.underlying dT = some (.slice elem)) (hi : P.info? elem = some i)
    (g o dLen dCap : Nat) (a : Addr) (sLen sCap m : Nat) (cur : List Value) (t : TypeId) (cs : List Value) (hg : w.heap[g]? = some (.cells cur.toArray t (0, 0))) (hm : Nat.min sLen dLen = m) (hn : cs.length = m * i.size)
    (hsrc : ∀ j v, cs[j]? = some v → w.cell? (a.add j) = some v) (hfit : o + cs.length ≤ cur.length) (h1 : ∀ v ∈ cs, v.oneCell' = true) :
    (Builtin.copy_ #[dT, sT] ty #[.slice (some ⟨g, o, none⟩) dLen dCap, .slice (some a) sLen sCap]).run P w = .ok (goInt m) (w.setCells g o cs) := by
  have hl := run_loadCells_list (P := P) w a cs hsrc
  have hst := run_storeCells_cells (P := P) g o cs 0 w (fun j hj => by
      rw [cell_of_row w g (o + 0 + j) _ _ _ hg]
      simp only [List.getElem?_toArray]
      rw [List.getElem?_eq_getElem (by omega)]; rfl) (fun j hj => frozen_of_row _ _ _ _ _ hg) h1
  simp only [Nat.add_zero] at hst
  rw [hn] at hl
  simp [Builtin.copy_, run_underlying hu, Builtin.lenOf, Builtin.firstCells, sizeOf, typeInfo, hi, hm, hl, hst]

theorem wpList_copy_k {P : Program} {w : World} {ops : Array Oper} {rest : List Oper} {o : Oper} {a : Act} {Q : Exit → Act → World → Prop} (hgd : o.guard = none) (d s : Operand) (dT sT : TypeId)
    (ho : o.op = .call { callee := .builtin .copy, args := #[d, s], argTypes := #[dT, sT] }) (elem : TypeId) (i : TypeInfo) (hu : P.underlying dT = some (.slice elem)) (hi : P.info? elem = some i)
    (g off dLen dCap : Nat) (ad : Addr) (sLen sCap m : Nat) (hd : a.eval d = .slice (some ⟨g, off, none⟩) dLen dCap) (hs : a.eval s = .slice (some ad) sLen sCap) (hm : Nat.min sLen dLen = m)
    (cur : List Value) (t : TypeId) (hg : w.heap[g]? = some (.cells cur.toArray t (0, 0))) (cs : List Value) (hn : cs.length = m * i.size)
    (hsrc : ∀ j v, cs[j]? = some v → w.cell? (ad.add j) = some v) (hfit : off + cs.length ≤ cur.length) (h1 : ∀ v ∈ cs, v.oneCell' = true)
    (h : ∀ w', Hid (w'.heap[g]? = some (.cells (splice cur off cs).toArray t (0, 0))) → Hid (Fo (fun k => k = g) w w') → wpList P ops Q rest (a.put o.dst (goInt m)) w') : wpList P ops Q (o :: rest) a w := by
  refine wpList_plain hgd fun K hK => ?_
  have hrun := run_copy_k (P := P) w dT sT o.type elem i hu hi g off dLen dCap ad sLen sCap m cur t cs hg hm hn hsrc hfit h1
  unfold Oper.wp
  simp [execOp, ho, resolve, invoke, builtin, hd, hs, hrun, Result.andThen]
  exact hK _ _ (h _ (show _ = _ from heap_setCells cs off w cur hg hfit) (show Fo _ _ _ from Fo.setCellsK (O := fun k => k = g) (.inl rfl) cs off w (Fo.refl _ w)))

theorem step_copy_k {P : Program} {ops : Array Oper} {o : Oper} {a : Act} {w : World} {K : Act → World → Prop} {Q : Exit → Act → World → Prop} {E : Prop} (hgd : o.guard = none) (d s : Operand) (dT sT : TypeId)
    (ho : o.op = .call { callee := .builtin .copy, args := #[d, s], argTypes := #[dT, sT] }) (elem : TypeId) (i : TypeInfo) (hu : P.underlying dT = some (.slice elem)) (hi : P.info? elem = some i)
    (g off dLen dCap : Nat) (ad : Addr) (sLen sCap m : Nat) (hd : a.eval d = .slice (some ⟨g, off, none⟩) dLen dCap) (hs : a.eval s = .slice (some ad) sLen sCap) (hm : Nat.min sLen dLen = m)
    (cur : List Value) (t : TypeId) (hg : w.heap[g]? = some (.cells cur.toArray t (0, 0))) (cs : List Value) (hn : cs.length = m * i.size)
    (hsrc : ∀ j v, cs[j]? = some v → w.cell? (ad.add j) = some v) (hfit : off + cs.length ≤ cur.length) (h1 : ∀ v ∈ cs, v.oneCell' = true)
    (h : ∀ w', Hid (w'.heap[g]? = some (.cells (splice cur off cs).toArray t (0, 0))) → Hid (Fo (fun k => k = g) w w') → K (a.put o.dst (goInt m)) w') :
    if Region.wanted o (yielded ops a.tmps) = true then Oper.wp P o a w K Q else E := by
  have hw : Region.wanted o (yielded ops a.tmps) = true := by simp [Region.wanted, hgd]
  rw [if_pos hw]
  have hrun := run_copy_k (P := P) w dT sT o.type elem i hu hi g off dLen dCap ad sLen sCap m cur t cs hg hm hn hsrc hfit h1
  unfold Oper.wp
  simp [execOp, ho, resolve, invoke, builtin, hd, hs, hrun, Result.andThen]
  exact h _ (show _ = _ from heap_setCells cs off w cur hg hfit) (show Fo _ _ _ from Fo.setCellsK (O := fun k => k = g) (.inl rfl) cs off w (Fo.refl _ w))

theorem take_splice_head {cur cs : List Value} {o : Nat} (h : o ≤ cur.length) : (splice cur o cs).take (o + cs.length) = cur.take o ++ cs := by
  have hA : (cur.take o).length = o := by rw [List.length_take]; omega
  rw [splice, ← List.append_assoc]
  exact List.take_left' (by rw [List.length_append, hA])
theorem take_splice_le {cur cs : List Value} {o q : Nat} (hq : q ≤ o) (h : o ≤ cur.length) : (splice cur o cs).take q = cur.take q := by
  rw [splice, List.take_append_of_le_length (by rw [List.length_take]; omega), List.take_take, Nat.min_eq_left hq]

variable {α : Type} {E : Enc α}

theorem ins_shift {cur : List Value} {l : List α} {i : Nat} (x : α) (hi : i ≤ l.length) (hc : (l.length + 1) * E.k ≤ cur.length) (ht : cur.take (l.length * E.k) = kcs E l) :
    (splice (splice cur ((i + 1) * E.k) (kcs E (l.drop i))) (i * E.k) (E.cs x).toList).take ((l.length + 1) * E.k) = kcs E (l.take i ++ x :: l.drop i) := by
  have hx : (E.cs x).toList.length = E.k := by rw [Array.length_toList, E.size]
  have hd : (kcs E (l.drop i)).length = (l.length - i) * E.k := by rw [kcs_length, List.length_drop]
  have e1 : (i + 1) * E.k = i * E.k + E.k := by rw [Nat.succ_mul]
  have e2 : (l.length + 1) * E.k = i * E.k + E.k + (l.length - i) * E.k := by
    rw [← e1, ← Nat.add_mul]; congr 1; omega
  have e3 : l.length * E.k = i * E.k + (l.length - i) * E.k := by rw [← Nat.add_mul]; congr 1; omega
  rw [e2] at hc ⊢
  have h1 : ((splice cur ((i + 1) * E.k) (kcs E (l.drop i)))).length = cur.length := length_splice _ _ _ (by rw [hd, e1]; omega)
  have hk : cur.take (i * E.k) = kcs E (l.take i) := by
    rw [kcs_take E l i hi, ← ht, List.take_take, Nat.min_eq_left (by rw [e3]; omega)]
  have h2 : splice (splice cur ((i + 1) * E.k) (kcs E (l.drop i))) (i * E.k) (E.cs x).toList = kcs E (l.take i) ++ ((E.cs x).toList ++ (kcs E (l.drop i) ++ cur.drop ((i + 1) * E.k + (kcs E (l.drop i)).length))) := by
    conv => lhs; rw [splice]
    rw [take_splice_le (by rw [e1]; omega) (by rw [e1]; omega), hk, hx, ← e1]
    congr 2
    rw [splice, List.drop_left' (by rw [List.length_take, e1]; omega)]
  rw [h2, kcs_append, kcs, ← List.append_assoc, ← List.append_assoc, ← List.append_assoc]
  exact List.take_left' (by simp only [List.length_append, hx, hd, kcs_length, List.length_take, Nat.min_eq_left hi])

theorem ins_grow {cur : List Value} {l : List α} {i : Nat} (x : α) (hi : i ≤ l.length) (hc : (l.length + 1) * E.k ≤ cur.length) (ht : cur.take (i * E.k) = kcs E (l.take i)) :
    (splice (splice cur (i * E.k) (E.cs x).toList) ((i + 1) * E.k) (kcs E (l.drop i))).take ((l.length + 1) * E.k) = kcs E (l.take i ++ x :: l.drop i) := by
  have hx : (E.cs x).toList.length = E.k := by rw [Array.length_toList, E.size]
  have hd : (kcs E (l.drop i)).length = (l.length - i) * E.k := by rw [kcs_length, List.length_drop]
  have e1 : (i + 1) * E.k = i * E.k + (E.cs x).toList.length := by rw [Nat.succ_mul, hx]
  have e2 : (l.length + 1) * E.k = (i + 1) * E.k + (kcs E (l.drop i)).length := by
    rw [hd, ← Nat.add_mul]; congr 1; omega
  have h1 : (splice cur (i * E.k) (E.cs x).toList).length = cur.length := length_splice _ _ _ (by rw [← e1]; omega)
  rw [e2, take_splice_head (by rw [h1]; omega), e1, take_splice_head (by omega), ht, kcs_append, kcs, List.append_assoc]

end Go.Proofs.YticiofkiffgclaaGreat
