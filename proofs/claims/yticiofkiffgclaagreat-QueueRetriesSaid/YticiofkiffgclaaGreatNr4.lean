/-
  Gkb, Gkd in one text.
-/
import Derived.Test.YticiofkiffgclaaGreatNr3
import Derived.Laws.CopyOwn
import Derived.Laws.IdiomCopy
import Derived.Lib.AppendZerosOnto
import Derived.Lib.Overlaps
import Derived.Lib.SliceRun
namespace Go.Proofs.YticiofkiffgclaaGreat
set_option linter.unusedVariables false
open Go.RowKit

theorem Fo.setCellsK {O : Nat → Prop} {a : World} {g : Nat} (hg : O g ∨ a.heap.size ≤ g) : ∀ (vs : List Value) (o : Nat) (w : World), Fo O a w → Fo O a (w.setCells g o vs)
  | [], _, _, h => h
  | v :: vs, o, _, h => Fo.setCellsK hg vs (o + 1) _ (h.setCell (p := ⟨g, o, none⟩) hg v)

theorem heap_setCells {g : Nat} {t : TypeId} {fz : Nat × Nat} : ∀ (vs : List Value) (o : Nat) (w : World) (cur : List Value), w.heap[g]? = some (.cells cur.toArray t fz) → o + vs.length ≤ cur.length →
    (w.setCells g o vs).heap[g]? = some (.cells (splice cur o vs).toArray t fz)
  | [], o, w, cur, h, _ => by simpa [World.setCells, splice] using h
  | v :: vs, o, w, cur, h, hl => by
    simp only [List.length_cons] at hl
    have h1 := heap_setCell_at h o v
    rw [List.setIfInBounds_toArray] at h1
    have h2 := heap_setCells vs (o + 1) _ _ h1 (by simpa using (by omega : o + 1 + vs.length ≤ cur.length))
    rw [World.setCells, h2]
    have h3 := list_seg_step cur o v vs (by omega)
    rw [List.append_assoc, List.append_assoc] at h3
    rw [splice, h3, splice, List.length_cons]

theorem run_copy_k {P : Program} (w : World) (dT sT ty elem : TypeId) (i : TypeInfo) (hu : P.underlying dT = some (.slice elem)) (hi : P.info? elem = some i)
    (g o dLen dCap : Nat) (a : Addr) (sLen sCap m : Nat) (cur : List Value) (t : TypeId) (cs : List Value) (hg : w.heap[g]? = some (.cells cur.toArray t (0, 0))) (hm : Nat.min sLen dLen = m) (hn : cs.length = m * i.size)
    (hsrc : ∀ j v, cs[j]? = some v → w.cell? (a.add j) = some v) (hfit : o + cs.length ≤ cur.length) (h1 : ∀ v ∈ cs, v.oneCell' = true) :
    (Builtin.copy_ #[dT, sT] ty #[.slice (some ⟨g, o, none⟩) dLen dCap, .slice (some a) sLen sCap]).run P w = .ok (goInt m) (w.setCells g o cs) := by
  have hl := run_loadCells_list (P := P) w a cs hsrc
  have hst := run_storeCells_cells (P := P) g o cs 0 w (fun j hj => by
      rw [cell_of_row w g (o + 0 + j) _ _ _ hg]
      simp only [List.getElem?_toArray]
      rw [List.getElem?_eq_getElem (by omega)]; rfl) (fun j hj => frozen_of_row _ _ _ _ _ hg) h1
  simp only [Nat.add_zero] at hst
  rw [hn] at hl
  simp [Builtin.copy_, run_underlying hu, Builtin.lenOf, Builtin.firstCells, sizeOf, typeInfo, hi, hm, hl, hst]

theorem wpList_copy_k {P : Program} {w : World} {ops : Array Oper} {rest : List Oper} {o : Oper} {a : Act} {Q : Exit → Act → World → Prop} (hgd : o.guard = none) (d s : Operand) (dT sT : TypeId)
    (ho : o.op = .call { callee := .builtin .copy, args := #[d, s], argTypes := #[dT, sT] }) (elem : TypeId) (i : TypeInfo) (hu : P.underlying dT = some (.slice elem)) (hi : P.info? elem = some i)
    (g off dLen dCap : Nat) (ad : Addr) (sLen sCap m : Nat) (hd : a.eval d = .slice (some ⟨g, off, none⟩) dLen dCap) (hs : a.eval s = .slice (some ad) sLen sCap) (hm : Nat.min sLen dLen = m)
    (cur : List Value) (t : TypeId) (hg : w.heap[g]? = some (.cells cur.toArray t (0, 0))) (cs : List Value) (hn : cs.length = m * i.size)
    (hsrc : ∀ j v, cs[j]? = some v → w.cell? (ad.add j) = some v) (hfit : off + cs.length ≤ cur.length) (h1 : ∀ v ∈ cs, v.oneCell' = true)
    (h : ∀ w', Hid (w'.heap[g]? = some (.cells (splice cur off cs).toArray t (0, 0))) → Hid (Fo (fun k => k = g) w w') → wpList P ops Q rest (a.put o.dst (goInt m)) w') : wpList P ops Q (o :: rest) a w := by
  refine wpList_plain hgd fun K hK => ?_
  have hrun := run_copy_k (P := P) w dT sT o.type elem i hu hi g off dLen dCap ad sLen sCap m cur t cs hg hm hn hsrc hfit h1
  unfold Oper.wp
  simp [execOp, ho, resolve, invoke, builtin, hd, hs, hrun, Result.andThen]
  exact hK _ _ (h _ (show _ = _ from heap_setCells cs off w cur hg hfit) (show Fo _ _ _ from Fo.setCellsK (O := fun k => k = g) (.inl rfl) cs off w (Fo.refl _ w)))

theorem step_copy_k {P : Program} {ops : Array Oper} {o : Oper} {a : Act} {w : World} {K : Act → World → Prop} {Q : Exit → Act → World → Prop} {E : Prop} (hgd : o.guard = none) (d s : Operand) (dT sT : TypeId)
    (ho : o.op = .call { callee := .builtin .copy, args := #[d, s], argTypes := #[dT, sT] }) (elem : TypeId) (i : TypeInfo) (hu : P.underlying dT = some (.slice elem)) (hi : P.info? elem = some i)
    (g off dLen dCap : Nat) (ad : Addr) (sLen sCap m : Nat) (hd : a.eval d = .slice (some ⟨g, off, none⟩) dLen dCap) (hs : a.eval s = .slice (some ad) sLen sCap) (hm : Nat.min sLen dLen = m)
    (cur : List Value) (t : TypeId) (hg : w.heap[g]? = some (.cells cur.toArray t (0, 0))) (cs : List Value) (hn : cs.length = m * i.size)
    (hsrc : ∀ j v, cs[j]? = some v → w.cell? (ad.add j) = some v) (hfit : off + cs.length ≤ cur.length) (h1 : ∀ v ∈ cs, v.oneCell' = true)
    (h : ∀ w', Hid (w'.heap[g]? = some (.cells (splice cur off cs).toArray t (0, 0))) → Hid (Fo (fun k => k = g) w w') → K (a.put o.dst (goInt m)) w') :
    if Region.wanted o (yielded ops a.tmps) = true then Oper.wp P o a w K Q else E := by
  have hw : Region.wanted o (yielded ops a.tmps) = true := by simp [Region.wanted, hgd]
  rw [if_pos hw]
  have hrun := run_copy_k (P := P) w dT sT o.type elem i hu hi g off dLen dCap ad sLen sCap m cur t cs hg hm hn hsrc hfit h1
  unfold Oper.wp
  simp [execOp, ho, resolve, invoke, builtin, hd, hs, hrun, Result.andThen]
  exact h _ (show _ = _ from heap_setCells cs off w cur hg hfit) (show Fo _ _ _ from Fo.setCellsK (O := fun k => k = g) (.inl rfl) cs off w (Fo.refl _ w))

theorem step_append_k {P : Program} {ops : Array Oper} {o : Oper} {a : Act} {w : World} {K : Act → World → Prop} {Q : Exit → Act → World → Prop} {E : Prop} (hgd : o.guard = none) (s x : Operand) (t tx : TypeId)
    (ho : o.op = .call { callee := .builtin .append, args := #[s, x], argTypes := #[t, tx] }) (e : TypeId) (i : TypeInfo) (size : Nat) (ht : P.underlying t = some (.slice e)) (hi : P.info? e = some i) (hsize : i.size = size)
    (g n cap : Nat) (hs : a.eval s = .slice (some ⟨g, 0, none⟩) n cap) (xv : Value) (m : Nat) (news : List Value) (hx : a.eval x = xv) (hsrc : Src P size tx xv m news w) (hroom : n + m ≤ cap)
    (cur : List Value) (hg : w.heap[g]? = some (.cells cur.toArray e (0, 0))) (hfit : n * size + news.length ≤ cur.length)
    (h : ∀ w', Hid (w'.heap[g]? = some (.cells (splice cur (n * size) news).toArray e (0, 0))) → Hid (Fo (fun k => k = g) w w') → K (a.put o.dst (.slice (some ⟨g, 0, none⟩) (n + m) cap)) w') :
    if Region.wanted o (yielded ops a.tmps) = true then Oper.wp P o a w K Q else E := by
  have hw : Region.wanted o (yielded ops a.tmps) = true := by simp [Region.wanted, hgd]
  rw [if_pos hw]
  subst hsize
  have hrun := run_append_room_src (P := P) w t tx o.type e i ht hi g 0 n cap xv m news hsrc hroom (fun j hj => by
      rw [cell_of_row w g _ _ _ _ hg]
      simp only [List.getElem?_toArray]
      rw [List.getElem?_eq_getElem (by omega)]; rfl) (fun j hj => frozen_of_row _ _ _ _ _ hg)
  rw [Nat.zero_add] at hrun
  unfold Oper.wp
  simp [execOp, ho, resolve, invoke, builtin, hs, hx, hrun, Result.andThen]
  exact h _ (show _ = _ from heap_setCells news _ w cur hg hfit) (show Fo _ _ _ from Fo.setCellsK (O := fun k => k = g) (.inl rfl) news _ w (Fo.refl _ w))

theorem run_clear_k {P : Program} (w : World) (t e : TypeId) (z : Value) (ht : P.underlying t = some (.slice e)) (hv : ∀ w, (zeroValue e).run P w = .ok z w) (h1 : ∀ v ∈ z.cells.toList, v.oneCell' = true) (hz : 0 < z.cells.size)
    {b o n c : Nat} {cur : List Value} {te : TypeId} (hn : 0 < n) (hb : w.heap[b]? = some (.cells cur.toArray te (0, 0))) (ho : o + n * z.cells.size ≤ cur.length) :
    ∃ w', (∀ ty, (Builtin.clear_ #[t] ty #[.slice (some ⟨b, o, none⟩) n c]).run P w = .ok (.tuple #[]) w') ∧ (∃ cur' : List Value, w'.heap[b]? = some (.cells cur'.toArray te (0, 0)) ∧ cur'.length = cur.length ∧ cur'.take o = cur.take o) ∧ Fo (fun k => k = b) w w' := by
  have hl : (Builtin.zeroCells z.cells n).toList.length = n * z.cells.size := by simp [Builtin.zeroCells]
  have hc : ∀ j, j < (Builtin.zeroCells z.cells n).toList.length → (w.cell? ⟨b, o + 0 + j, none⟩).isSome = true := by
    intro j hj
    rw [hl] at hj
    rw [cell_of_row w b (o + 0 + j) _ _ _ hb]
    simp only [List.getElem?_toArray]
    rw [List.getElem?_eq_getElem (by omega)]; rfl
  have hs := run_storeCells_cells (P := P) b o _ 0 w hc (fun j hj => frozen_of_row _ _ _ _ _ hb) (by
    intro v hm
    simp only [Builtin.zeroCells, Array.toList_map, Array.toList_range, List.mem_map] at hm
    obtain ⟨i, _, rfl⟩ := hm
    have hi : i % z.cells.size < z.cells.size := Nat.mod_lt _ hz
    rw [getElem!_pos z.cells _ hi]
    exact h1 _ (by simp))
  refine ⟨w.setCells b o (Builtin.zeroCells z.cells n).toList, fun ty => ?_, ⟨_, heap_setCells _ o w cur hb (by rw [hl]; exact ho), ?_, ?_⟩, Fo.setCellsK (O := fun k => k = b) (.inl rfl) _ o w (Fo.refl _ w)⟩
  · obtain ⟨m, rfl⟩ : ∃ m, n = m + 1 := ⟨n - 1, by omega⟩
    simp only [Nat.add_zero] at hs
    simp [Builtin.clear_, run_underlying ht, hv, hs]
  · exact length_splice _ _ _ (by rw [hl]; exact ho)
  · rw [splice, List.take_left' (by rw [List.length_take]; omega)]

theorem take_splice_head {cur cs : List Value} {o : Nat} (h : o ≤ cur.length) : (splice cur o cs).take (o + cs.length) = cur.take o ++ cs := by
  have hA : (cur.take o).length = o := by rw [List.length_take]; omega
  rw [splice, ← List.append_assoc]
  exact List.take_left' (by rw [List.length_append, hA])
theorem take_splice_le {cur cs : List Value} {o q : Nat} (hq : q ≤ o) (h : o ≤ cur.length) : (splice cur o cs).take q = cur.take q := by
  rw [splice, List.take_append_of_le_length (by rw [List.length_take]; omega), List.take_take, Nat.min_eq_left hq]

variable {α : Type} {E : Enc α}

theorem ins_shift {cur : List Value} {l : List α} {i : Nat} (x : α) (hi : i ≤ l.length) (hc : (l.length + 1) * E.k ≤ cur.length) (ht : cur.take (l.length * E.k) = kcs E l) :
    (splice (splice cur ((i + 1) * E.k) (kcs E (l.drop i))) (i * E.k) (E.cs x).toList).take ((l.length + 1) * E.k) = kcs E (l.take i ++ x :: l.drop i) := by
  have hx : (E.cs x).toList.length = E.k := by rw [Array.length_toList, E.size]
  have hd : (kcs E (l.drop i)).length = (l.length - i) * E.k := by rw [kcs_length, List.length_drop]
  have e1 : (i + 1) * E.k = i * E.k + E.k := by rw [Nat.succ_mul]
  have e2 : (l.length + 1) * E.k = i * E.k + E.k + (l.length - i) * E.k := by
    rw [← e1, ← Nat.add_mul]; congr 1; omega
  have e3 : l.length * E.k = i * E.k + (l.length - i) * E.k := by rw [← Nat.add_mul]; congr 1; omega
  rw [e2] at hc ⊢
  have h1 : ((splice cur ((i + 1) * E.k) (kcs E (l.drop i)))).length = cur.length := length_splice _ _ _ (by rw [hd, e1]; omega)
  have hk : cur.take (i * E.k) = kcs E (l.take i) := by
    rw [kcs_take E l i hi, ← ht, List.take_take, Nat.min_eq_left (by rw [e3]; omega)]
  have h2 : splice (splice cur ((i + 1) * E.k) (kcs E (l.drop i))) (i * E.k) (E.cs x).toList = kcs E (l.take i) ++ ((E.cs x).toList ++ (kcs E (l.drop i) ++ cur.drop ((i + 1) * E.k + (kcs E (l.drop i)).length))) := by
    conv => lhs; rw [splice]
    rw [take_splice_le (by rw [e1]; omega) (by rw [e1]; omega), hk, hx, ← e1]
    congr 2
    rw [splice, List.drop_left' (by rw [List.length_take, e1]; omega)]
  rw [h2, kcs_append, kcs, ← List.append_assoc, ← List.append_assoc, ← List.append_assoc]
  exact List.take_left' (by simp only [List.length_append, hx, hd, kcs_length, List.length_take, Nat.min_eq_left hi])

theorem ins_grow {cur : List Value} {l : List α} {i : Nat} (x : α) (hi : i ≤ l.length) (hc : (l.length + 1) * E.k ≤ cur.length) (ht : cur.take (i * E.k) = kcs E (l.take i)) :
    (splice (splice cur (i * E.k) (E.cs x).toList) ((i + 1) * E.k) (kcs E (l.drop i))).take ((l.length + 1) * E.k) = kcs E (l.take i ++ x :: l.drop i) := by
  have hx : (E.cs x).toList.length = E.k := by rw [Array.length_toList, E.size]
  have hd : (kcs E (l.drop i)).length = (l.length - i) * E.k := by rw [kcs_length, List.length_drop]
  have e1 : (i + 1) * E.k = i * E.k + (E.cs x).toList.length := by rw [Nat.succ_mul, hx]
  have e2 : (l.length + 1) * E.k = (i + 1) * E.k + (kcs E (l.drop i)).length := by
    rw [hd, ← Nat.add_mul]; congr 1; omega
  have h1 : (splice cur (i * E.k) (E.cs x).toList).length = cur.length := length_splice _ _ _ (by rw [← e1]; omega)
  rw [e2, take_splice_head (by rw [h1]; omega), e1, take_splice_head (by omega), ht, kcs_append, kcs, List.append_assoc]

end Go.Proofs.YticiofkiffgclaaGreat

namespace Go.Proofs.YticiofkiffgclaaGreat
set_option linter.unusedVariables false
open Go.RowKit

theorem ownK_snoc {α : Type} {E : Enc α} {w : World} {B : Nat} {e : TypeId} {v : Value} {l : List α} {x : α} (h : w.ownsRow B e E.k v (l.length + 1) (kcs E l ++ (E.cs x).toList)) : OwnK E w B e v (l ++ [x]) := by
  unfold OwnK
  rw [kcs_append, kcs_single, List.length_append]
  exact h

theorem ownK_row {α : Type} {E : Enc α} {w : World} {B g cap : Nat} {e : TypeId} {l : List α} {R : List Value} (hg : w.heap[g]? = some (.cells R.toArray e (0, 0))) (hB : B ≤ g) (hl : l.length ≤ cap) (hm : cap ≤ maxLen) (hs : R.length = cap * E.k) (ht : R.take (l.length * E.k) = kcs E l) :
    OwnK E w B e (.slice (some ⟨g, 0, none⟩) l.length cap) l :=
  ⟨kcs_length E l, .inr ⟨g, cap, R.toArray, rfl, hB, hg, hl, hm, by simpa using hs, by simpa using ht⟩⟩

theorem OwnK.row {α : Type} {E : Enc α} {w : World} {B g cap n : Nat} {e : TypeId} {l : List α} (h : OwnK E w B e (.slice (some ⟨g, 0, none⟩) n cap) l) :
    ∃ R : List Value, w.heap[g]? = some (.cells R.toArray e (0, 0)) ∧ B ≤ g ∧ n = l.length ∧ l.length ≤ cap ∧ cap ≤ maxLen ∧ R.length = cap * E.k ∧ R.take (l.length * E.k) = kcs E l := by
  rcases h.2 with ⟨h0, _⟩ | ⟨g', cap', cur, h0, hbg, hg, hnc, hcm, hcs, htk⟩
  · cases h0
  · simp only [Value.slice.injEq, Option.some.injEq, Addr.mk.injEq] at h0
    obtain ⟨⟨rfl, _⟩, rfl, rfl⟩ := h0
    exact ⟨cur.toList, by simpa using hg, hbg, rfl, hnc, hcm, by simpa using hcs, htk⟩

theorem wpList_clear_run {P : Program} (w : World) {ops : Array Oper} {rest : List Oper} {o : Oper} {a : Act} {Q : Exit → Act → World → Prop} (hgd : o.guard = none) (x : Operand) (t : TypeId)
    (ho : o.op = .call { callee := .builtin .clear, args := #[x], argTypes := #[t] }) (vx : Value) (hx : a.eval x = vx) (w' : World) (hr : (Builtin.clear_ #[t] o.type #[vx]).run P w = .ok (.tuple #[]) w')
    (h : wpList P ops Q rest (a.put o.dst (.tuple #[])) w') : wpList P ops Q (o :: rest) a w := by
  refine wpList_plain hgd fun K hK => ?_
  unfold Oper.wp execOp
  simp only [ho, resolve, invoke, builtin, Sem.run_bind, Sem.run_pure, Result.andThen_ok, List.map_toArray, List.map_cons, List.map_nil, hx, hr]
  exact hK _ _ h

theorem OwnK.set1 {α : Type} {E : Enc α} {w : World} {B g n c : Nat} {e : TypeId} {l : List α} (h : OwnK E w B e (.slice (some ⟨g, 0, none⟩) n c) l) {i : Nat} {x y : α} (hx : l[i]? = some x) {j : Nat} (hj : j < E.k) {u : Value} (hy : (E.cs y).toList = (E.cs x).toList.set j u) :
    OwnK E (w.setCell ⟨g, i * E.k + j, none⟩ u) B e (.slice (some ⟨g, 0, none⟩) n c) (l.set i y) := by
  obtain ⟨R, hg, hBg, rfl, hlc, hcm, hRl, hRt⟩ := h.row
  obtain ⟨hi, rfl⟩ := List.getElem?_eq_some_iff.1 hx
  have h1 := heap_setCell_at hg (i * E.k + j) u
  rw [List.setIfInBounds_toArray] at h1
  have hh := ownK_row (E := E) (l := l.set i y) (B := B) (cap := c) h1 hBg (by rw [List.length_set]; exact hlc) hcm (by rw [List.length_set]; exact hRl) (by
    have e1 := kcs_set E l i l[i] hi
    rw [List.set_getElem_self] at e1
    have hA : ((kcs E l).take (i * E.k)).length = i * E.k := by
      rw [← kcs_take E l i (by omega), kcs_length, List.length_take, Nat.min_eq_left (by omega)]
    rw [List.length_set, List.take_set, hRt, kcs_set E l i y hi, hy]
    conv => lhs; rw [e1]
    rw [List.append_assoc, List.append_assoc, List.set_append, if_neg (by rw [hA]; omega), hA, Nat.add_sub_cancel_left, List.set_append, if_pos (by rw [Array.length_toList, E.size]; exact hj)])
  rw [List.length_set] at hh
  exact hh

theorem del_range {α : Type} {E : Enc α} {cur : List Value} {l : List α} {i j : Nat} (hij : i ≤ j) (hj : j ≤ l.length) (hc : l.length * E.k ≤ cur.length) (ht : cur.take (l.length * E.k) = kcs E l) :
    (splice cur (i * E.k) (kcs E (l.drop j))).take ((i + (l.length - j)) * E.k) = kcs E (l.take i ++ l.drop j) := by
  have hd : (kcs E (l.drop j)).length = (l.length - j) * E.k := by rw [kcs_length, List.length_drop]
  have e2 : (i + (l.length - j)) * E.k = i * E.k + (kcs E (l.drop j)).length := by rw [hd, ← Nat.add_mul]
  have e3 : i * E.k ≤ l.length * E.k := Nat.mul_le_mul_right _ (by omega)
  rw [e2, take_splice_head (by omega), kcs_append, kcs_take E l i (by omega), ← ht, List.take_take, Nat.min_eq_left e3]

end Go.Proofs.YticiofkiffgclaaGreat
