/-
  Gkb, Gkd, Gkc, Ev0, Cua, Ita, Gkf, Cub, Cus in one text.
-/
import Derived.Test.YticiofkiffgclaaGreatNa0
import Derived.Laws.CopyOwn
import Derived.Laws.IdiomCopy
import Derived.Lib.AppendZerosOnto
import Derived.Lib.Overlaps
import Derived.Lib.SliceRun
import Derived.Sort.Walk0
import Derived.Test.YticiofkiffgclaaGreatRows
import Derived.Lib.Bytealg
import Derived.LoopTactic
import Derived.Shelf.Abstract
import Derived.Deep.QuietTactic
import Derived.BigQuiet
import Derived.RegionTactic
namespace Go.Proofs.YticiofkiffgclaaGreat
set_option linter.unusedVariables false
open Go.RowKit

theorem Fo.setCellsK {O : Nat → Prop} {a : World} {g : Nat} (hg : O g ∨ a.heap.size ≤ g) : ∀ (vs : List Value) (o : Nat) (w : World), Fo O a w → Fo O a (w.setCells g o vs)
  | [], _, _, h => h
  | v :: vs, o, _, h => Fo.setCellsK hg vs (o + 1) _ (h.setCell (p := ⟨g, o, none⟩) hg v)

theorem heap_setCells {g : Nat} {t : TypeId} {fz : Nat × Nat} : ∀ (vs : List Value) (o : Nat) (w : World) (cur : List Value), w.heap[g]? = some (.cells cur.toArray t fz) → o + vs.length ≤ cur.length →
    (w.setCells g o vs).heap[g]? = some (.cells (splice cur o vs).toArray t fz)
  | [], o, w, cur, h, _ => by simpa [World.setCells, splice] using h
  | v :: vs, o, w, cur, h, hl => by
    simp only [List.length_cons] at hl
    have h1 := heap_setCell_at h o v
    rw [List.setIfInBounds_toArray] at h1
    have h2 := heap_setCells vs (o + 1) _ _ h1 (by simpa using (by omega : o + 1 + vs.length ≤ cur.length))
    rw [World.setCells, h2]
    have h3 := list_seg_step cur o v vs (by omega)
    rw [List.append_assoc, List.append_assoc] at h3
    rw [splice, h3, splice, List.length_cons]

theorem run_copy_k {P : Program} (w : World) (dT sT ty elem : TypeId) (i : TypeInfo) (hu : P.underlying dT = some (.slice elem)) (hi : P.info? elem = some i)
    (g o dLen dCap : Nat) (a : Addr) (sLen sCap m : Nat) (cur : List Value) (t : TypeId) (cs : List Value) (hg : w.heap[g]? = some (.cells cur.toArray t (0, 0))) (hm : Nat.min sLen dLen = m) (hn : cs.length = m * i.size)
    (hsrc : ∀ j v, cs[j]? = some v → w.cell? (a.add j) = some v) (hfit : o + cs.length ≤ cur.length) (h1 : ∀ v ∈ cs, v.oneCell' = true) :
    (Builtin.copy_ #[dT, sT] ty #[.slice (some ⟨g, o, none⟩) dLen dCap, .slice (some a) sLen sCap]).run P w = .ok (goInt m) (w.setCells g o cs) := by
  have hl := run_loadCells_list (P := P) w a cs hsrc
  have hst := run_storeCells_cells (P := P) g o cs 0 w (fun j hj => by
      rw [cell_of_row w g (o + 0 + j) _ _ _ hg]
      simp only [List.getElem?_toArray]
      rw [List.getElem?_eq_getElem (by omega)]; rfl) (fun j hj => frozen_of_row _ _ _ _ _ hg) h1
  simp only [Nat.add_zero] at hst
  rw [hn] at hl
  simp [Builtin.copy_, run_underlying hu, Builtin.lenOf, Builtin.firstCells, sizeOf, typeInfo, hi, hm, hl, hst]

theorem wpList_copy_k {P : Program} {w : World} {ops : Array Oper} {rest : List Oper} {o : Oper} {a : Act} {Q : Exit → Act → World → Prop} (hgd : o.guard = none) (d s : Operand) (dT sT : TypeId)
    (ho : o.op = .call { callee := .builtin .copy, args := #[d, s], argTypes := #[dT, sT] }) (elem : TypeId) (i : TypeInfo) (hu : P.underlying dT = some (.slice elem)) (hi : P.info? elem = some i)
    (g off dLen dCap : Nat) (ad : Addr) (sLen sCap m : Nat) (hd : a.eval d = .slice (some ⟨g, off, none⟩) dLen dCap) (hs : a.eval s = .slice (some ad) sLen sCap) (hm : Nat.min sLen dLen = m)
    (cur : List Value) (t : TypeId) (hg : w.heap[g]? = some (.cells cur.toArray t (0, 0))) (cs : List Value) (hn : cs.length = m * i.size)
    (hsrc : ∀ j v, cs[j]? = some v → w.cell? (ad.add j) = some v) (hfit : off + cs.length ≤ cur.length) (h1 : ∀ v ∈ cs, v.oneCell' = true)
    (h : ∀ w', Hid (w'.heap[g]? = some (.cells (splice cur off cs).toArray t (0, 0))) → Hid (Fo (fun k => k = g) w w') → wpList P ops Q rest (a.put o.dst (goInt m)) w') : wpList P ops Q (o :: rest) a w := by
  refine wpList_plain hgd fun K hK => ?_
  have hrun := run_copy_k (P := P) w dT sT o.type elem i hu hi g off dLen dCap ad sLen sCap m cur t cs hg hm hn hsrc hfit h1
  unfold Oper.wp
  simp [execOp, ho, resolve, invoke, builtin, hd, hs, hrun, Result.andThen]
  exact hK _ _ (h _ (show _ = _ from heap_setCells cs off w cur hg hfit) (show Fo _ _ _ from Fo.setCellsK (O := fun k => k = g) (.inl rfl) cs off w (Fo.refl _ w)))

theorem step_copy_k {P : Program} {ops : Array Oper} {o : Oper} {a : Act} {w : World} {K : Act → World → Prop} {Q : Exit → Act → World → Prop} {E : Prop} (hgd : o.guard = none) (d s : Operand) (dT sT : TypeId)
    (ho : o.op = .call { callee := .builtin .copy, args := #[d, s], argTypes := #[dT, sT] }) (elem : TypeId) (i : TypeInfo) (hu : P.underlying dT = some (.slice elem)) (hi : P.info? elem = some i)
    (g off dLen dCap : Nat) (ad : Addr) (sLen sCap m : Nat) (hd : a.eval d = .slice (some ⟨g, off, none⟩) dLen dCap) (hs : a.eval s = .slice (some ad) sLen sCap) (hm : Nat.min sLen dLen = m)
    (cur : List Value) (t : TypeId) (hg : w.heap[g]? = some (.cells cur.toArray t (0, 0))) (cs : List Value) (hn : cs.length = m * i.size)
    (hsrc : ∀ j v, cs[j]? = some v → w.cell? (ad.add j) = some v) (hfit : off + cs.length ≤ cur.length) (h1 : ∀ v ∈ cs, v.oneCell' = true)
    (h : ∀ w', Hid (w'.heap[g]? = some (.cells (splice cur off cs).toArray t (0, 0))) → Hid (Fo (fun k => k = g) w w') → K (a.put o.dst (goInt m)) w') :
    if Region.wanted o (yielded ops a.tmps) = true then Oper.wp P o a w K Q else E := by
  have hw : Region.wanted o (yielded ops a.tmps) = true := by simp [Region.wanted, hgd]
  rw [if_pos hw]
  have hrun := run_copy_k (P := P) w dT sT o.type elem i hu hi g off dLen dCap ad sLen sCap m cur t cs hg hm hn hsrc hfit h1
  unfold Oper.wp
  simp [execOp, ho, resolve, invoke, builtin, hd, hs, hrun, Result.andThen]
  exact h _ (show _ = _ from heap_setCells cs off w cur hg hfit) (show Fo _ _ _ from Fo.setCellsK (O := fun k => k = g) (.inl rfl) cs off w (Fo.refl _ w))

theorem take_splice_head {cur cs : List Value} {o : Nat} (h : o ≤ cur.length) : (splice cur o cs).take (o + cs.length) = cur.take o ++ cs := by
  have hA : (cur.take o).length = o := by rw [List.length_take]; omega
  rw [splice, ← List.append_assoc]
  exact List.take_left' (by rw [List.length_append, hA])
theorem take_splice_le {cur cs : List Value} {o q : Nat} (hq : q ≤ o) (h : o ≤ cur.length) : (splice cur o cs).take q = cur.take q := by
  rw [splice, List.take_append_of_le_length (by rw [List.length_take]; omega), List.take_take, Nat.min_eq_left hq]

variable {α : Type} {E : Enc α}

theorem ins_shift {cur : List Value} {l : List α} {i : Nat} (x : α) (hi : i ≤ l.length) (hc : (l.length + 1) * E.k ≤ cur.length) (ht : cur.take (l.length * E.k) = kcs E l) :
    (splice (splice cur ((i + 1) * E.k) (kcs E (l.drop i))) (i * E.k) (E.cs x).toList).take ((l.length + 1) * E.k) = kcs E (l.take i ++ x :: l.drop i) := by
  have hx : (E.cs x).toList.length = E.k := by rw [Array.length_toList, E.size]
  have hd : (kcs E (l.drop i)).length = (l.length - i) * E.k := by rw [kcs_length, List.length_drop]
  have e1 : (i + 1) * E.k = i * E.k + E.k := by rw [Nat.succ_mul]
  have e2 : (l.length + 1) * E.k = i * E.k + E.k + (l.length - i) * E.k := by
    rw [← e1, ← Nat.add_mul]; congr 1; omega
  have e3 : l.length * E.k = i * E.k + (l.length - i) * E.k := by rw [← Nat.add_mul]; congr 1; omega
  rw [e2] at hc ⊢
  have h1 : ((splice cur ((i + 1) * E.k) (kcs E (l.drop i)))).length = cur.length := length_splice _ _ _ (by rw [hd, e1]; omega)
  have hk : cur.take (i * E.k) = kcs E (l.take i) := by
    rw [kcs_take E l i hi, ← ht, List.take_take, Nat.min_eq_left (by rw [e3]; omega)]
  have h2 : splice (splice cur ((i + 1) * E.k) (kcs E (l.drop i))) (i * E.k) (E.cs x).toList = kcs E (l.take i) ++ ((E.cs x).toList ++ (kcs E (l.drop i) ++ cur.drop ((i + 1) * E.k + (kcs E (l.drop i)).length))) := by
    conv => lhs; rw [splice]
    rw [take_splice_le (by rw [e1]; omega) (by rw [e1]; omega), hk, hx, ← e1]
    congr 2
    rw [splice, List.drop_left' (by rw [List.length_take, e1]; omega)]
  rw [h2, kcs_append, kcs, ← List.append_assoc, ← List.append_assoc, ← List.append_assoc]
  exact List.take_left' (by simp only [List.length_append, hx, hd, kcs_length, List.length_take, Nat.min_eq_left hi])

theorem ins_grow {cur : List Value} {l : List α} {i : Nat} (x : α) (hi : i ≤ l.length) (hc : (l.length + 1) * E.k ≤ cur.length) (ht : cur.take (i * E.k) = kcs E (l.take i)) :
    (splice (splice cur (i * E.k) (E.cs x).toList) ((i + 1) * E.k) (kcs E (l.drop i))).take ((l.length + 1) * E.k) = kcs E (l.take i ++ x :: l.drop i) := by
  have hx : (E.cs x).toList.length = E.k := by rw [Array.length_toList, E.size]
  have hd : (kcs E (l.drop i)).length = (l.length - i) * E.k := by rw [kcs_length, List.length_drop]
  have e1 : (i + 1) * E.k = i * E.k + (E.cs x).toList.length := by rw [Nat.succ_mul, hx]
  have e2 : (l.length + 1) * E.k = (i + 1) * E.k + (kcs E (l.drop i)).length := by
    rw [hd, ← Nat.add_mul]; congr 1; omega
  have h1 : (splice cur (i * E.k) (E.cs x).toList).length = cur.length := length_splice _ _ _ (by rw [← e1]; omega)
  rw [e2, take_splice_head (by rw [h1]; omega), e1, take_splice_head (by omega), ht, kcs_append, kcs, List.append_assoc]

end Go.Proofs.YticiofkiffgclaaGreat

namespace Go.Proofs.YticiofkiffgclaaGreat
set_option linter.unusedVariables false
open Go.RowKit

theorem ownK_snoc {α : Type} {E : Enc α} {w : World} {B : Nat} {e : TypeId} {v : Value} {l : List α} {x : α} (h : w.ownsRow B e E.k v (l.length + 1) (kcs E l ++ (E.cs x).toList)) : OwnK E w B e v (l ++ [x]) := by
  unfold OwnK
  rw [kcs_append, kcs_single, List.length_append]
  exact h

theorem ownK_row {α : Type} {E : Enc α} {w : World} {B g cap : Nat} {e : TypeId} {l : List α} {R : List Value} (hg : w.heap[g]? = some (.cells R.toArray e (0, 0))) (hB : B ≤ g) (hl : l.length ≤ cap) (hm : cap ≤ maxLen) (hs : R.length = cap * E.k) (ht : R.take (l.length * E.k) = kcs E l) :
    OwnK E w B e (.slice (some ⟨g, 0, none⟩) l.length cap) l :=
  ⟨kcs_length E l, .inr ⟨g, cap, R.toArray, rfl, hB, hg, hl, hm, by simpa using hs, by simpa using ht⟩⟩

theorem OwnK.row {α : Type} {E : Enc α} {w : World} {B g cap n : Nat} {e : TypeId} {l : List α} (h : OwnK E w B e (.slice (some ⟨g, 0, none⟩) n cap) l) :
    ∃ R : List Value, w.heap[g]? = some (.cells R.toArray e (0, 0)) ∧ B ≤ g ∧ n = l.length ∧ l.length ≤ cap ∧ cap ≤ maxLen ∧ R.length = cap * E.k ∧ R.take (l.length * E.k) = kcs E l := by
  rcases h.2 with ⟨h0, _⟩ | ⟨g', cap', cur, h0, hbg, hg, hnc, hcm, hcs, htk⟩
  · cases h0
  · simp only [Value.slice.injEq, Option.some.injEq, Addr.mk.injEq] at h0
    obtain ⟨⟨rfl, _⟩, rfl, rfl⟩ := h0
    exact ⟨cur.toList, by simpa using hg, hbg, rfl, hnc, hcm, by simpa using hcs, htk⟩

end Go.Proofs.YticiofkiffgclaaGreat

namespace Go.Proofs.YticiofkiffgclaaGreat
set_option linter.unusedVariables false

variable {α : Type} {lt : α → α → Bool}

def Rise (lt : α → α → Bool) (l : List α) : Prop := l.Pairwise fun a b => lt a b = true

end Go.Proofs.YticiofkiffgclaaGreat

namespace Go.Proofs.YticiofkiffgclaaGreat
open Go.RowKit

structure Ev where
  id : Int
  tx : Int
  ow : ByteArray
  tr : Int
  tb : Int
  kd : Int
  key : Int
  t : ByteArray

def Ev.zero : Ev := ⟨0, 0, ⟨#[]⟩, 0, 0, 0, 0, ⟨#[]⟩⟩

def Ev.cs (e : Ev) : Array Value := #[.int .i64 e.id, .int .i64 e.tx, .string e.ow, .int .i64 e.tr, .int .i64 e.tb, .int .u8 e.kd, .int .i64 e.key, .string e.t]

end Go.Proofs.YticiofkiffgclaaGreat

namespace Go.Proofs.YticiofkiffgclaaGreat
set_option linter.unusedVariables false
open Go.RowKit

def ltN (a b : ByteArray) : Bool := Op.bytesLess a.toList b.toList

theorem bl_irrefl : ∀ a : List UInt8, Op.bytesLess a a = false
  | [] => rfl
  | x :: t => by
    rw [Op.bytesLess, bl_irrefl t]
    simp
theorem bl_trans : ∀ a b c : List UInt8, Op.bytesLess a b = true → Op.bytesLess b c = true → Op.bytesLess a c = true
  | [], [], _, h, _ => by simp [Op.bytesLess] at h
  | [], _ :: _, [], _, h => by simp [Op.bytesLess] at h
  | [], _ :: _, _ :: _, _, _ => by simp [Op.bytesLess]
  | _ :: _, [], _, h, _ => by simp [Op.bytesLess] at h
  | _ :: _, _ :: _, [], _, h => by simp [Op.bytesLess] at h
  | x :: a, y :: b, z :: c, h, k => by
    simp only [Op.bytesLess, Bool.or_eq_true, decide_eq_true_eq, Bool.and_eq_true, beq_iff_eq] at h k ⊢
    rcases h with h | ⟨rfl, h⟩
    · rcases k with k | ⟨rfl, k⟩
      · exact .inl (UInt8.lt_trans h k)
      · exact .inl h
    · rcases k with k | ⟨rfl, k⟩
      · exact .inl k
      · exact .inr ⟨rfl, bl_trans a b c h k⟩
theorem bl_tri : ∀ a b : List UInt8, Op.bytesLess a b = false → Op.bytesLess b a = false → a = b
  | [], [], _, _ => rfl
  | [], _ :: _, h, _ => by simp [Op.bytesLess] at h
  | _ :: _, [], _, h => by simp [Op.bytesLess] at h
  | x :: a, y :: b, h, k => by
    simp only [Op.bytesLess, Bool.or_eq_false_iff, decide_eq_false_iff_not, Bool.and_eq_false_iff, beq_eq_false_iff_ne] at h k
    have e : x = y := by
      have h1 := UInt8.not_lt.1 h.1
      have h2 := UInt8.not_lt.1 k.1
      exact UInt8.le_antisymm h2 h1
    subst e
    have h2 := h.2.resolve_left (fun n => n rfl)
    have k2 := k.2.resolve_left (fun n => n rfl)
    rw [bl_tri a b h2 k2]
theorem bl_asymm {a b : List UInt8} (h : Op.bytesLess a b = true) : Op.bytesLess b a = false := by
  cases k : Op.bytesLess b a with
  | false => rfl
  | true => have := bl_trans a b a h k; rw [bl_irrefl] at this; cases this

theorem toList_inj {a b : ByteArray} (h : a.toList = b.toList) : a = b := by
  rw [ByteArray.toList_eq, ByteArray.toList_eq] at h
  cases a; cases b
  simp only at h
  congr 1
  exact Array.toList_inj.1 h

structure Cu where
  nm : ByteArray
  la : Int
  op : Int
def Cu.cs (x : Cu) : Array Value := #[.string x.nm, .int .i64 x.la, .int .i64 x.op]
def encCu : Enc Cu where
  k := 3
  cs := Cu.cs
  size := fun _ => rfl
  one := fun x u h => by
    simp only [Cu.cs, List.mem_cons, List.not_mem_nil, or_false] at h
    rcases h with rfl | rfl | rfl <;> rfl
  pos := by decide

def Nms (l : List Cu) : Prop := l.Pairwise fun a b => ltN a.nm b.nm = true
def isN (n : ByteArray) (x : Cu) : Bool := x.nm.toList == n.toList
theorem isN_iff {n : ByteArray} {x : Cu} : isN n x = true ↔ x.nm = n := by
  simp only [isN, beq_iff_eq]
  exact ⟨toList_inj, fun h => by rw [h]⟩
def plc (l : List Cu) (n : ByteArray) : Option Nat := l.findIdx? (isN n)
theorem plc_hit {l : List Cu} {n : ByteArray} {i : Nat} {x : Cu} (hx : l[i]? = some x) (hn : isN n x = true) (hb : ∀ j y, j < i → l[j]? = some y → isN n y = false) : plc l n = some i := by
  obtain ⟨hi, rfl⟩ := List.getElem?_eq_some_iff.1 hx
  rw [plc, List.findIdx?_eq_some_iff_getElem]
  refine ⟨hi, hn, fun j hj => ?_⟩
  rw [hb j _ hj (List.getElem?_eq_getElem _)]
  simp
theorem plc_miss {l : List Cu} {n : ByteArray} (hb : ∀ j y, j < l.length → l[j]? = some y → isN n y = false) : plc l n = none := by
  rw [plc, List.findIdx?_eq_none_iff]
  intro y hy
  obtain ⟨j, hj, rfl⟩ := List.mem_iff_getElem.1 hy
  exact hb j _ hj (List.getElem?_eq_getElem hj)
theorem plc_none {l : List Cu} {n : ByteArray} (h : plc l n = none) : ∀ x ∈ l, x.nm ≠ n := by
  rw [plc, List.findIdx?_eq_none_iff] at h
  intro x hx e
  have := h x hx
  rw [isN_iff.2 e] at this
  cases this

theorem nms_one {l : List Cu} (h : Nms l) {i j : Nat} {x y : Cu} (hx : l[i]? = some x) (hy : l[j]? = some y) (e : x.nm = y.nm) : i = j := by
  obtain ⟨hi, rfl⟩ := List.getElem?_eq_some_iff.1 hx
  obtain ⟨hj, rfl⟩ := List.getElem?_eq_some_iff.1 hy
  rcases Nat.lt_trichotomy i j with c | c | c
  · have := List.pairwise_iff_getElem.1 h i j hi hj c
    rw [e, ltN, bl_irrefl] at this
    cases this
  · exact c
  · have := List.pairwise_iff_getElem.1 h j i hj hi c
    rw [e, ltN, bl_irrefl] at this
    cases this

def insC (x : Cu) : List Cu → List Cu
  | [] => [x]
  | y :: t => if ltN x.nm y.nm = true then x :: y :: t else y :: insC x t
theorem insC_at {x : Cu} {l : List Cu} (h : Nms l) {q : Nat} (hq : q ≤ l.length) (h1 : ∀ j y, q ≤ j → l[j]? = some y → ltN x.nm y.nm = true) (h2 : ∀ y, 0 < q → l[q - 1]? = some y → ltN x.nm y.nm = false) : l.take q ++ x :: l.drop q = insC x l := by
  induction l generalizing q with
  | nil => simp at hq; subst hq; rfl
  | cons y t ih =>
    obtain ⟨hy, ht⟩ := List.pairwise_cons.1 h
    cases q with
    | zero =>
      have := h1 0 y (Nat.le_refl _) rfl
      rw [insC, if_pos this]; rfl
    | succ q =>
      have hyx : ltN x.nm y.nm = false := by
        cases q with
        | zero => exact h2 y (by omega) rfl
        | succ q =>
          cases k : ltN x.nm y.nm with
          | false => rfl
          | true =>
            have hql : q < t.length := by simp at hq; omega
            have e1 : (y :: t)[q + 1 + 1 - 1]? = some t[q] := by rw [show q + 1 + 1 - 1 = q + 1 by omega, List.getElem?_cons_succ, List.getElem?_eq_getElem hql]
            have := h2 t[q] (by omega) e1
            have h3 := bl_trans _ _ _ k (hy t[q] (List.getElem_mem hql))
            rw [ltN] at this
            rw [this] at h3
            cases h3
      rw [insC, if_neg (by rw [hyx]; decide), List.take_succ_cons, List.drop_succ_cons, List.cons_append]
      congr 1
      refine ih ht (by simpa using hq) (fun j z hj hz => h1 (j + 1) z (by omega) (by simpa using hz)) (fun z hz0 hz => h2 z (by omega) ?_)
      cases q with
      | zero => omega
      | succ q => simpa using hz

def regE (l : List Cu) (n : ByteArray) (at' : Int) : Int :=
  if n.size < 1 ∨ 40 < n.size ∨ at' < 1 then 1 else if (plc l n).isSome then 5 else if 4 ≤ l.length then 8 else 0
def regL (l : List Cu) (n : ByteArray) (at' : Int) : List Cu := if regE l n at' = 0 then insC ⟨n, at', 0⟩ l else l
structure OkC (l : List Cu) : Prop where
  nms : Nms l
  few : l.length ≤ 4
  la1 : ∀ x ∈ l, 1 ≤ x.la
  op0 : ∀ x ∈ l, 0 ≤ x.op
  sz : ∀ x ∈ l, 1 ≤ x.nm.size ∧ x.nm.size ≤ 40

theorem OkC.nil : OkC [] := ⟨List.Pairwise.nil, by simp, by simp, by simp, by simp⟩
end Go.Proofs.YticiofkiffgclaaGreat

namespace Go.Proofs.YticiofkiffgclaaGreat
set_option linter.unusedVariables false
open Go.RowKit

structure It where
  a : Int
  e : Ev
def It.cs (x : It) : Array Value := #[.int .i64 x.a, .int .i64 x.e.id, .int .i64 x.e.tx, .string x.e.ow, .int .i64 x.e.tr, .int .i64 x.e.tb, .int .u8 x.e.kd, .int .i64 x.e.key, .string x.e.t]
def encIt : Enc It where
  k := 9
  cs := It.cs
  size := fun _ => rfl
  one := fun x u h => by
    simp only [It.cs, List.mem_cons, List.not_mem_nil, or_false] at h
    rcases h with rfl | rfl | rfl | rfl | rfl | rfl | rfl | rfl | rfl <;> rfl
  pos := by decide

def ltI (x y : It) : Bool := decide (x.a < y.a) || (decide (x.a = y.a) && (decide (x.e.id < y.e.id) || (decide (x.e.id = y.e.id) && ltN x.e.ow y.e.ow)))
structure OkI (l : List It) : Prop where
  rise : Rise ltI l
  uniq : l.Pairwise fun x y => ¬ (x.e.id = y.e.id ∧ x.e.ow = y.e.ow)
  few : l.length ≤ 16

theorem OkI.nil : OkI [] := ⟨List.Pairwise.nil, List.Pairwise.nil, by simp⟩
end Go.Proofs.YticiofkiffgclaaGreat

namespace Go.Proofs.YticiofkiffgclaaGreat
set_option linter.unusedVariables false
open Go.RowKit

variable {α : Type} {E : Enc α}

def lfoot (h : Nat) (V : Value) : Nat → Prop := fun k => k = h ∨ V.ownBlock = some k

variable (E) in
structure Ls (T e : TypeId) (w : World) (B h : Nat) (V : Value) (l : List α) : Prop where
  hh : w.heap[h]? = some (.cells #[V] T (0, 0))
  bh : B ≤ h
  hT : T ≠ e
  own : OwnK E w B e V l

variable {T e : TypeId} {w w' : World} {B h : Nat} {V : Value} {l : List α}

theorem Ls.lt (a : Ls E T e w B h V l) : ∀ k, lfoot h V k → B ≤ k ∧ k < w.heap.size := by
  rintro k (rfl | hk)
  · exact ⟨a.bh, heap_lt a.hh⟩
  · exact a.own.lt k hk
theorem Ls.fo (a : Ls E T e w B h V l) {O : Nat → Prop} (hf : Fo O w w') (hd : ∀ k, lfoot h V k → ¬ O k) : Ls E T e w' B h V l :=
  ⟨hf.heap (hd h (.inl rfl)) a.hh, a.bh, a.hT, a.own.fo hf (fun g hg => hd g (.inr hg))⟩
theorem Stp.ofK {O : Nat → Prop} {a b : World} (h : Kept a b []) : Stp O O a b := ⟨Fo.ofKept h O, fun _ h => .inl h⟩
theorem Stp.afterK {O O1 : Nat → Prop} {a b c : World} (h : Kept a b []) (k : Stp O O1 b c) : Stp O O1 a c := (Stp.ofK h).trans k
theorem Kept.foC {O : Nat → Prop} {a b c : World} (k : Kept a b []) (f : Fo O b c) (hB : ∀ k, O k → a.heap.size ≤ k) : Kept a c [] :=
  ⟨f.os.trans k.os, f.tape.trans k.tape, f.output.trans k.output, Nat.le_trans k.size f.size, fun i hi _ => (f.block i (Nat.lt_of_lt_of_le hi k.size) (fun ho => by have := hB i ho; omega)).trans (k.block i hi (by simp))⟩

end Go.Proofs.YticiofkiffgclaaGreat

namespace Go.Proofs.YticiofkiffgclaaGreat
set_option linter.unusedVariables false
open Go.RowKit

theorem cb_lt : ∀ l m : List UInt8, (Lib.compareBytes l m < 0 ↔ Op.bytesLess l m = true)
  | [], [] => by simp [Lib.compareBytes, Op.bytesLess]
  | [], _ :: _ => by simp [Lib.compareBytes, Op.bytesLess]
  | _ :: _, [] => by simp [Lib.compareBytes, Op.bytesLess]
  | a :: l, b :: m => by
    rw [Lib.compareBytes, Op.bytesLess]
    by_cases h : a < b
    · simp [h]
    · by_cases k : b < a
      · have e : (a == b) = false := by
          rw [beq_eq_false_iff_ne]
          rintro rfl
          exact h k
        simp [h, k, e]
      · obtain rfl : a = b := UInt8.le_antisymm (UInt8.not_lt.1 k) (UInt8.not_lt.1 h)
        simp [h, cb_lt l m]
theorem cb_zero : ∀ l m : List UInt8, (Lib.compareBytes l m = 0 ↔ l = m)
  | [], [] => by simp [Lib.compareBytes]
  | [], _ :: _ => by simp [Lib.compareBytes]
  | _ :: _, [] => by simp [Lib.compareBytes]
  | a :: l, b :: m => by
    rw [Lib.compareBytes]
    by_cases h : a < b
    · have e : a ≠ b := by rintro rfl; exact absurd h (UInt8.lt_irrefl a)
      simp [h, e]
    · by_cases k : b < a
      · have e : a ≠ b := by rintro rfl; exact h k
        simp [h, k, e]
      · obtain rfl : a = b := UInt8.le_antisymm (UInt8.not_lt.1 k) (UInt8.not_lt.1 h)
        simp [h, cb_zero l m]

def cmpN (a b : ByteArray) : Int := Lib.compareBytes a.data.toList b.data.toList
theorem cmpN_lt {a b : ByteArray} : cmpN a b < 0 ↔ ltN a b = true := by rw [cmpN, cb_lt, ltN, ByteArray.toList_eq, ByteArray.toList_eq]
theorem cmpN_zero {a b : ByteArray} : cmpN a b = 0 ↔ a = b := by
  rw [cmpN, cb_zero]
  constructor
  · intro h
    cases a; cases b
    simp only at h
    congr 1
    exact Array.toList_inj.1 h
  · intro h; rw [h]

def ahd (l : List Cu) (n : ByteArray) : Nat := l.countP fun x => ltN x.nm n
theorem ahd_le (l : List Cu) (n : ByteArray) : ahd l n ≤ l.length := List.countP_le_length
theorem ahd_eq : ∀ {l : List Cu} {n : ByteArray} {i : Nat}, i ≤ l.length → (∀ j y, j < i → l[j]? = some y → ltN y.nm n = true) → (∀ j y, i ≤ j → l[j]? = some y → ltN y.nm n = false) → ahd l n = i
  | [], n, i, hi, _, _ => by simp at hi; subst hi; rfl
  | x :: t, n, 0, hi, _, h2 => by
    unfold ahd
    rw [List.countP_eq_zero]
    intro y hy
    obtain ⟨j, hj, rfl⟩ := List.mem_iff_getElem.1 hy
    rw [h2 j _ (Nat.zero_le _) (List.getElem?_eq_getElem hj)]
    simp
  | x :: t, n, i + 1, hi, h1, h2 => by
    have hx := h1 0 x (by omega) rfl
    have ih := ahd_eq (l := t) (n := n) (i := i) (by simpa using hi) (fun j y hj hy => h1 (j + 1) y (by omega) (by simpa using hy)) (fun j y hj hy => h2 (j + 1) y (by omega) (by simpa using hy))
    unfold ahd at ih ⊢
    rw [List.countP_cons_of_pos (by exact hx), ih]

theorem nms_lt {l : List Cu} (h : Nms l) {n : ByteArray} {i j : Nat} {x y : Cu} (hij : i ≤ j) (hx : l[i]? = some x) (hy : l[j]? = some y) (hl : ltN y.nm n = true) : ltN x.nm n = true := by
  rcases Nat.lt_or_ge i j with c | c
  · obtain ⟨hi, rfl⟩ := List.getElem?_eq_some_iff.1 hx
    obtain ⟨hj, rfl⟩ := List.getElem?_eq_some_iff.1 hy
    exact bl_trans _ _ _ (List.pairwise_iff_getElem.1 h i j hi hj c) hl
  · obtain rfl : i = j := by omega
    rw [hx] at hy
    cases hy
    exact hl

theorem plc_found {l : List Cu} (h : Nms l) {n : ByteArray} {x : Cu} (hx : l[ahd l n]? = some x) (hn : x.nm = n) : plc l n = some (ahd l n) := by
  refine plc_hit hx (isN_iff.2 hn) (fun j y hj hy => ?_)
  cases hc : isN n y with
  | false => rfl
  | true => have := nms_one h hx hy (hn.trans (isN_iff.1 hc).symm); omega
theorem plc_lost {l : List Cu} (h : Nms l) {n : ByteArray} (h1 : ∀ j y, j < ahd l n → l[j]? = some y → ltN y.nm n = true) (h2 : ∀ y, l[ahd l n]? = some y → y.nm ≠ n) : plc l n = none := by
  refine plc_miss (fun j y hj hy => ?_)
  cases hc : isN n y with
  | false => rfl
  | true =>
    have e := isN_iff.1 hc
    rcases Nat.lt_trichotomy j (ahd l n) with c | c | c
    · have := h1 j y c hy
      rw [e, ltN, bl_irrefl] at this
      cases this
    · subst c; exact absurd e (h2 y hy)
    · obtain ⟨hj', rfl⟩ := List.getElem?_eq_some_iff.1 hy
      have hz := List.pairwise_iff_getElem.1 h (ahd l n) j (by omega) hj' c
      have h3 : ahd l n + 1 ≤ ahd l n := by
        have : (l.take (ahd l n + 1)).countP (fun x => ltN x.nm n) = ahd l n + 1 := by
          have hl : (l.take (ahd l n + 1)).length = ahd l n + 1 := by rw [List.length_take]; omega
          conv => rhs; rw [← hl]
          rw [List.countP_eq_length]
          intro x hx
          obtain ⟨q, hq, rfl⟩ := List.mem_iff_getElem.1 hx
          rw [List.getElem_take]
          rw [hl] at hq
          by_cases hqa : q < ahd l n
          · exact h1 q _ hqa (List.getElem?_eq_getElem _)
          · obtain rfl : q = ahd l n := by omega
            rw [e] at hz; exact hz
        conv => rhs; rw [ahd, ← List.take_append_drop (ahd l n + 1) l, List.countP_append]
        omega
      omega

theorem OwnK.three {w : World} {base : Nat} {e : TypeId} {g n c : Nat} {l : List Cu} (h : OwnK encCu w base e (.slice (some ⟨g, 0, none⟩) n c) l) {k : Nat} {x : Cu} (hx : l[k]? = some x) :
    w.cell? ⟨g, k * 3, none⟩ = some (.string x.nm) ∧ w.cell? ⟨g, k * 3 + 1, none⟩ = some (.int .i64 x.la) ∧ w.cell? ⟨g, k * 3 + 2, none⟩ = some (.int .i64 x.op) := by
  obtain ⟨g', hg, hc⟩ := h.at hx
  simp only [Option.some.injEq, Addr.mk.injEq] at hg
  obtain ⟨rfl, _⟩ := hg
  exact ⟨(hc 0 (by decide)).1, (hc 1 (by decide)).1, (hc 2 (by decide)).1⟩
set_option maxHeartbeats 1000000 in
set_option maxRecDepth 100000 in
theorem cmpstr_any (a b : ByteArray) (w : World) : Calls Tryz.prog 199 #[.string a, .string b] w fun e w' => e = .returned (.int .i64 (cmpN a b)) ∧ w' = w := by
  go_enter Tryz.func199, Tryz.ntmps199
  go_wp2
  rw [run_callFunc_extern Tryz.func218 (by kernel_rfl) (by kernel_rfl) (by kernel_rfl) (e := Extern.BytealgCompare.compare) (by kernel_rfl), Lib.run_compareString]
  simp only [Result.andThen]
  rw [Oper.upon_value]
  go_wp2
  go_ret
  exact ⟨rfl, rfl⟩

set_option maxHeartbeats 1000000 in
theorem compare_any (a b : ByteArray) (w : World) : Calls Tryz.prog 178 #[.string a, .string b] w fun e w' => e = .returned (.int .i64 (cmpN a b)) ∧ w' = w := by
  go_enter Tryz.func178, Tryz.ntmps178
  go_wp2_with (go_at_call 199; refine (cmpstr_any _ _ _).mono ?_; rintro e w' ⟨rfl, rfl⟩)
  go_ret
  exact ⟨rfl, rfl⟩

set_option maxHeartbeats 1000000 in
theorem closure_any (x : Cu) (n : ByteArray) (w : World) : Calls Tryz.prog 177 #[.agg x.cs, .string n] w fun e w' => e = .returned (.int .i64 (cmpN x.nm n)) ∧ Kept w w' [] := by
  obtain ⟨b0, b1, b2⟩ := x
  simp only [Cu.cs]
  go_enter Tryz.func177, Tryz.ntmps177
  go_wp2_with (go_at_call 178; refine (compare_any _ _ _).mono ?_; rintro e w' ⟨rfl, rfl⟩)
  go_ret
  exact ⟨rfl, (Kept.refl w []).alloc _⟩


end Go.Proofs.YticiofkiffgclaaGreat

namespace Go.Proofs.YticiofkiffgclaaGreat
set_option linter.unusedVariables false
open Go.RowKit

theorem retib {a : Int} {b c : Bool} (h : b = c) : Ending.returned (.tuple #[.int .i64 a, .bool b]) = .returned (.tuple #[.int .i64 a, .bool c]) := by rw [h]

set_option maxHeartbeats 2000000 in
set_option maxRecDepth 100000 in
theorem csearch_any (v : Value) (l : List Cu) (n : ByteArray) (w : World) {base : Nat} {e : TypeId} (h : OwnK encCu w base e v l) (hs : Nms l) (hlen : l.length ≤ 1000000) :
    Calls Tryz.prog 176 #[v, .string n, .func (.func 177) #[] #[]] w fun e w' =>
      e = .returned (.tuple #[.int .i64 (ahd l n), .bool (plc l n).isSome]) ∧ Kept w w' [] := by
  have ec : ∀ args w, (callFunc 177 args).run Tryz.prog w = .ok (.enter 177 args) w := enters_of Tryz.func177 (by kernel_rfl) rfl
  rcases id h.2 with ⟨rfl, h0⟩ | ⟨g, cap, cur, rfl, _⟩
  · obtain rfl : l = [] := List.eq_nil_of_length_eq_zero h0
    clear h
    go_enter Tryz.func176, Tryz.ntmps176
    go_wp2
    go_loop [9, 10] (fun t s => t = .int .i64 0 ∧ s = .int .i64 0) (fun _ _ => 0)
    case atStart => exact ⟨rfl, rfl⟩
    case round =>
      obtain ⟨rfl, rfl⟩ := hrel
      go_wp2
      go_ret2
      exact ⟨rfl, Kept.refl w []⟩
  · have H := Lib.hid h; have S := Lib.hid hs
    clear h hs
    go_enter Tryz.func176, Tryz.ntmps176
    go_wp2
    go_loopw [9, 10] (fun t s wr => ∃ i j : Nat, t = .int .i64 i ∧ s = .int .i64 j ∧ i ≤ j ∧ j ≤ l.length ∧ (∀ q y, q < i → l[q]? = some y → ltN y.nm n = true) ∧ (∀ q y, j ≤ q → l[q]? = some y → ltN y.nm n = false) ∧ Kept w wr []) (fun t s _ => (intOf s).toNat - (intOf t).toNat)
    case atStart =>
      refine ⟨0, l.length, rfl, rfl, Nat.zero_le _, Nat.le_refl _, fun q y hq => absurd hq (Nat.not_lt_zero _), fun q y h1 h2 => ?_, Kept.refl w []⟩
      have := (List.getElem?_eq_some_iff.1 h2).1
      omega
    case round =>
      obtain ⟨i, j, rfl, rfl, hij, hj, hL, hR, hk⟩ := hrel
      have L := Lib.hid hL; have R := Lib.hid hR; have K := Lib.hid hk
      clear hL hR hk
      by_cases hlt : i < j
      · have x1 : (i : Int) < (j : Int) := by omega
        obtain ⟨k, hk⟩ : ∃ k : Nat, k = (i + j) / 2 := ⟨_, rfl⟩
        have hk1 : i ≤ k := by omega
        have hk2 : k < j := by omega
        obtain ⟨x, hx⟩ : ∃ x, l[k]? = some x := ⟨_, List.getElem?_eq_getElem (by omega)⟩
        obtain ⟨c0, c1, c2⟩ := (H.out.kept K.out (by simp)).three hx
        have X := Lib.hid hx
        have x2 : (k : Int) < (l.length : Int) := by omega
        have e3 : ((i : Int) + (j : Int)) / 2 = (k : Int) := by omega
        have e2 : ((i : Int) + (j : Int)) % 18446744073709551616 = (i : Int) + (j : Int) := by clear c0 c1 c2; omega
        have call := closure_any x n wr
        obtain ⟨z, hz⟩ : ∃ z, z = cmpN x.nm n := ⟨_, rfl⟩
        rw [← hz] at call
        have Hz := Lib.hid hz
        obtain ⟨b0, b1, b2⟩ := x
        simp only [Cu.cs] at c0 c1 c2 call
        clear hz hk hx
        by_cases hzl : z < 0
        · go_wp2_with (go_at_fn 177; refine call.mono ?_; rintro e w2 ⟨rfl, k2⟩)
          go_roundw
          case rel => exact ⟨k + 1, j, by go_num, rfl, by omega, by omega, fun q y hq hy => nms_lt S.out (by omega) hy X.out (cmpN_lt.1 (by rw [← Hz.out]; exact hzl)), R.out, K.out.trans k2 (by simp)⟩
          case measure => simp [intOf]; omega
        · go_wp2_with (go_at_fn 177; refine call.mono ?_; rintro e w2 ⟨rfl, k2⟩)
          go_roundw
          case rel =>
            refine ⟨i, k, rfl, rfl, by omega, by omega, L.out, fun q y hq hy => ?_, K.out.trans k2 (by simp)⟩
            cases hc : ltN y.nm n with
            | false => rfl
            | true => exact absurd (cmpN_lt.2 (nms_lt S.out hq X.out hy hc)) (by rw [← Hz.out]; omega)
          case measure => simp [intOf]; omega
      · have x1 : ¬ (i : Int) < (j : Int) := by omega
        obtain rfl : i = j := by omega
        have EA := Lib.hid (ahd_eq (l := l) (n := n) hj L.out R.out)
        by_cases hil : i < l.length
        · obtain ⟨x, hx⟩ : ∃ x, l[i]? = some x := ⟨_, List.getElem?_eq_getElem hil⟩
          obtain ⟨c0, c1, c2⟩ := (H.out.kept K.out (by simp)).three hx
          have X := Lib.hid hx
          have x2 : (i : Int) < (l.length : Int) := by omega
          have call := closure_any x n wr
          have fin : ((cmpN x.nm n == 0) = (plc l n).isSome) := by
            by_cases hxn : x.nm = n
            · rw [plc_found S.out (by rw [EA.out]; exact hx) hxn, cmpN_zero.2 hxn]; rfl
            · rw [plc_lost S.out (by rw [EA.out]; exact L.out) (by rw [EA.out, hx]; rintro y hy; cases hy; exact hxn)]
              simp [cmpN_zero, hxn]
          obtain ⟨z, hz⟩ : ∃ z, z = cmpN x.nm n := ⟨_, rfl⟩
          rw [← hz] at call fin
          have FIN := Lib.hid fin
          obtain ⟨b0, b1, b2⟩ := x
          simp only [Cu.cs] at c0 c1 c2 call
          clear hx fin hz
          go_wp2_with (go_at_fn 177; refine call.mono ?_; rintro e w2 ⟨rfl, k2⟩)
          go_ret2
          rw [EA.out]
          exact ⟨retib FIN.out, K.out.trans k2 (by simp)⟩
        · have x2 : ¬ (i : Int) < (l.length : Int) := by omega
          have P0 := Lib.hid (plc_lost S.out (by rw [EA.out]; exact L.out) (by rw [EA.out]; intro y hy; have := (List.getElem?_eq_some_iff.1 hy).1; omega))
          go_wp2
          go_ret2
          rw [EA.out, P0.out]
          exact ⟨rfl, K.out⟩

end Go.Proofs.YticiofkiffgclaaGreat
