/-
  Gkd, Gkc, Gke, Ev0, Cua, Ita, Gkf in one text.
-/
import Derived.Test.YticiofkiffgclaaGreatQo2
import Derived.Test.YticiofkiffgclaaGreatQo0
import Derived.Sort.Walk0
namespace Go.Proofs.YticiofkiffgclaaGreat
set_option linter.unusedVariables false
open Go.RowKit

theorem ownK_snoc {α : Type} {E : Enc α} {w : World} {B : Nat} {e : TypeId} {v : Value} {l : List α} {x : α} (h : w.ownsRow B e E.k v (l.length + 1) (kcs E l ++ (E.cs x).toList)) : OwnK E w B e v (l ++ [x]) := by
  unfold OwnK
  rw [kcs_append, kcs_single, List.length_append]
  exact h

theorem ownK_row {α : Type} {E : Enc α} {w : World} {B g cap : Nat} {e : TypeId} {l : List α} {R : List Value} (hg : w.heap[g]? = some (.cells R.toArray e (0, 0))) (hB : B ≤ g) (hl : l.length ≤ cap) (hm : cap ≤ maxLen) (hs : R.length = cap * E.k) (ht : R.take (l.length * E.k) = kcs E l) :
    OwnK E w B e (.slice (some ⟨g, 0, none⟩) l.length cap) l :=
  ⟨kcs_length E l, .inr ⟨g, cap, R.toArray, rfl, hB, hg, hl, hm, by simpa using hs, by simpa using ht⟩⟩

theorem OwnK.row {α : Type} {E : Enc α} {w : World} {B g cap n : Nat} {e : TypeId} {l : List α} (h : OwnK E w B e (.slice (some ⟨g, 0, none⟩) n cap) l) :
    ∃ R : List Value, w.heap[g]? = some (.cells R.toArray e (0, 0)) ∧ B ≤ g ∧ n = l.length ∧ l.length ≤ cap ∧ cap ≤ maxLen ∧ R.length = cap * E.k ∧ R.take (l.length * E.k) = kcs E l := by
  rcases h.2 with ⟨h0, _⟩ | ⟨g', cap', cur, h0, hbg, hg, hnc, hcm, hcs, htk⟩
  · cases h0
  · simp only [Value.slice.injEq, Option.some.injEq, Addr.mk.injEq] at h0
    obtain ⟨⟨rfl, _⟩, rfl, rfl⟩ := h0
    exact ⟨cur.toList, by simpa using hg, hbg, rfl, hnc, hcm, by simpa using hcs, htk⟩

theorem OwnK.set1 {α : Type} {E : Enc α} {w : World} {B g n c : Nat} {e : TypeId} {l : List α} (h : OwnK E w B e (.slice (some ⟨g, 0, none⟩) n c) l) {i : Nat} {x y : α} (hx : l[i]? = some x) {j : Nat} (hj : j < E.k) {u : Value} (hy : (E.cs y).toList = (E.cs x).toList.set j u) :
    OwnK E (w.setCell ⟨g, i * E.k + j, none⟩ u) B e (.slice (some ⟨g, 0, none⟩) n c) (l.set i y) := by
  obtain ⟨R, hg, hBg, rfl, hlc, hcm, hRl, hRt⟩ := h.row
  obtain ⟨hi, rfl⟩ := List.getElem?_eq_some_iff.1 hx
  have h1 := heap_setCell_at hg (i * E.k + j) u
  rw [List.setIfInBounds_toArray] at h1
  have hh := ownK_row (E := E) (l := l.set i y) (B := B) (cap := c) h1 hBg (by rw [List.length_set]; exact hlc) hcm (by rw [List.length_set]; exact hRl) (by
    have e1 := kcs_set E l i l[i] hi
    rw [List.set_getElem_self] at e1
    have hA : ((kcs E l).take (i * E.k)).length = i * E.k := by
      rw [← kcs_take E l i (by omega), kcs_length, List.length_take, Nat.min_eq_left (by omega)]
    rw [List.length_set, List.take_set, hRt, kcs_set E l i y hi, hy]
    conv => lhs; rw [e1]
    rw [List.append_assoc, List.append_assoc, List.set_append, if_neg (by rw [hA]; omega), hA, Nat.add_sub_cancel_left, List.set_append, if_pos (by rw [Array.length_toList, E.size]; exact hj)])
  rw [List.length_set] at hh
  exact hh

end Go.Proofs.YticiofkiffgclaaGreat

namespace Go.Proofs.YticiofkiffgclaaGreat
set_option linter.unusedVariables false

variable {α : Type} {lt : α → α → Bool}

def Rise (lt : α → α → Bool) (l : List α) : Prop := l.Pairwise fun a b => lt a b = true

end Go.Proofs.YticiofkiffgclaaGreat

namespace Go.Proofs.YticiofkiffgclaaGreat
set_option linter.unusedVariables false
open Go.RowKit

variable {α : Type} {E : Enc α}

variable {w w' wr : World} {base g cap i j : Nat} {e : TypeId} {l : List α} {P : α → Bool} {r : α}

theorem Fo.oneK {O : Nat → Prop} {a b c : World} (h : Fo O a b) (k : Kept b c []) : Fo O a c := h.trans (Fo.ofKept k O)

end Go.Proofs.YticiofkiffgclaaGreat

namespace Go.Proofs.YticiofkiffgclaaGreat
open Go.RowKit

structure Ev where
  id : Int
  tx : Int
  ow : ByteArray
  tr : Int
  tb : Int
  kd : Int
  key : Int
  t : ByteArray

def Ev.zero : Ev := ⟨0, 0, ⟨#[]⟩, 0, 0, 0, 0, ⟨#[]⟩⟩

def Ev.cs (e : Ev) : Array Value := #[.int .i64 e.id, .int .i64 e.tx, .string e.ow, .int .i64 e.tr, .int .i64 e.tb, .int .u8 e.kd, .int .i64 e.key, .string e.t]

end Go.Proofs.YticiofkiffgclaaGreat

namespace Go.Proofs.YticiofkiffgclaaGreat
set_option linter.unusedVariables false
open Go.RowKit

def ltN (a b : ByteArray) : Bool := Op.bytesLess a.toList b.toList

theorem bl_irrefl : ∀ a : List UInt8, Op.bytesLess a a = false
  | [] => rfl
  | x :: t => by
    rw [Op.bytesLess, bl_irrefl t]
    simp
theorem bl_trans : ∀ a b c : List UInt8, Op.bytesLess a b = true → Op.bytesLess b c = true → Op.bytesLess a c = true
  | [], [], _, h, _ => by simp [Op.bytesLess] at h
  | [], _ :: _, [], _, h => by simp [Op.bytesLess] at h
  | [], _ :: _, _ :: _, _, _ => by simp [Op.bytesLess]
  | _ :: _, [], _, h, _ => by simp [Op.bytesLess] at h
  | _ :: _, _ :: _, [], _, h => by simp [Op.bytesLess] at h
  | x :: a, y :: b, z :: c, h, k => by
    simp only [Op.bytesLess, Bool.or_eq_true, decide_eq_true_eq, Bool.and_eq_true, beq_iff_eq] at h k ⊢
    rcases h with h | ⟨rfl, h⟩
    · rcases k with k | ⟨rfl, k⟩
      · exact .inl (UInt8.lt_trans h k)
      · exact .inl h
    · rcases k with k | ⟨rfl, k⟩
      · exact .inl k
      · exact .inr ⟨rfl, bl_trans a b c h k⟩
theorem bl_tri : ∀ a b : List UInt8, Op.bytesLess a b = false → Op.bytesLess b a = false → a = b
  | [], [], _, _ => rfl
  | [], _ :: _, h, _ => by simp [Op.bytesLess] at h
  | _ :: _, [], _, h => by simp [Op.bytesLess] at h
  | x :: a, y :: b, h, k => by
    simp only [Op.bytesLess, Bool.or_eq_false_iff, decide_eq_false_iff_not, Bool.and_eq_false_iff, beq_eq_false_iff_ne] at h k
    have e : x = y := by
      have h1 := UInt8.not_lt.1 h.1
      have h2 := UInt8.not_lt.1 k.1
      exact UInt8.le_antisymm h2 h1
    subst e
    have h2 := h.2.resolve_left (fun n => n rfl)
    have k2 := k.2.resolve_left (fun n => n rfl)
    rw [bl_tri a b h2 k2]
theorem bl_asymm {a b : List UInt8} (h : Op.bytesLess a b = true) : Op.bytesLess b a = false := by
  cases k : Op.bytesLess b a with
  | false => rfl
  | true => have := bl_trans a b a h k; rw [bl_irrefl] at this; cases this

theorem toList_inj {a b : ByteArray} (h : a.toList = b.toList) : a = b := by
  rw [ByteArray.toList_eq, ByteArray.toList_eq] at h
  cases a; cases b
  simp only at h
  congr 1
  exact Array.toList_inj.1 h

structure Cu where
  nm : ByteArray
  la : Int
  op : Int
def Cu.cs (x : Cu) : Array Value := #[.string x.nm, .int .i64 x.la, .int .i64 x.op]
def encCu : Enc Cu where
  k := 3
  cs := Cu.cs
  size := fun _ => rfl
  one := fun x u h => by
    simp only [Cu.cs, List.mem_cons, List.not_mem_nil, or_false] at h
    rcases h with rfl | rfl | rfl <;> rfl
  pos := by decide

def Nms (l : List Cu) : Prop := l.Pairwise fun a b => ltN a.nm b.nm = true
def isN (n : ByteArray) (x : Cu) : Bool := x.nm.toList == n.toList
theorem isN_iff {n : ByteArray} {x : Cu} : isN n x = true ↔ x.nm = n := by
  simp only [isN, beq_iff_eq]
  exact ⟨toList_inj, fun h => by rw [h]⟩
def plc (l : List Cu) (n : ByteArray) : Option Nat := l.findIdx? (isN n)
def getC (l : List Cu) (n : ByteArray) : Option Cu := l.find? (isN n)

theorem plc_hit {l : List Cu} {n : ByteArray} {i : Nat} {x : Cu} (hx : l[i]? = some x) (hn : isN n x = true) (hb : ∀ j y, j < i → l[j]? = some y → isN n y = false) : plc l n = some i := by
  obtain ⟨hi, rfl⟩ := List.getElem?_eq_some_iff.1 hx
  rw [plc, List.findIdx?_eq_some_iff_getElem]
  refine ⟨hi, hn, fun j hj => ?_⟩
  rw [hb j _ hj (List.getElem?_eq_getElem _)]
  simp
theorem plc_miss {l : List Cu} {n : ByteArray} (hb : ∀ j y, j < l.length → l[j]? = some y → isN n y = false) : plc l n = none := by
  rw [plc, List.findIdx?_eq_none_iff]
  intro y hy
  obtain ⟨j, hj, rfl⟩ := List.mem_iff_getElem.1 hy
  exact hb j _ hj (List.getElem?_eq_getElem hj)
theorem plc_some {l : List Cu} {n : ByteArray} {i : Nat} (h : plc l n = some i) : ∃ x, l[i]? = some x ∧ x.nm = n := by
  obtain ⟨hi, hn, _⟩ := List.findIdx?_eq_some_iff_getElem.1 h
  exact ⟨l[i], List.getElem?_eq_getElem hi, isN_iff.1 hn⟩
theorem plc_none {l : List Cu} {n : ByteArray} (h : plc l n = none) : ∀ x ∈ l, x.nm ≠ n := by
  rw [plc, List.findIdx?_eq_none_iff] at h
  intro x hx e
  have := h x hx
  rw [isN_iff.2 e] at this
  cases this

theorem nms_one {l : List Cu} (h : Nms l) {i j : Nat} {x y : Cu} (hx : l[i]? = some x) (hy : l[j]? = some y) (e : x.nm = y.nm) : i = j := by
  obtain ⟨hi, rfl⟩ := List.getElem?_eq_some_iff.1 hx
  obtain ⟨hj, rfl⟩ := List.getElem?_eq_some_iff.1 hy
  rcases Nat.lt_trichotomy i j with c | c | c
  · have := List.pairwise_iff_getElem.1 h i j hi hj c
    rw [e, ltN, bl_irrefl] at this
    cases this
  · exact c
  · have := List.pairwise_iff_getElem.1 h j i hj hi c
    rw [e, ltN, bl_irrefl] at this
    cases this

def insC (x : Cu) : List Cu → List Cu
  | [] => [x]
  | y :: t => if ltN x.nm y.nm = true then x :: y :: t else y :: insC x t
theorem insC_length (x : Cu) (l : List Cu) : (insC x l).length = l.length + 1 := by
  induction l with
  | nil => rfl
  | cons y t ih =>
    rw [insC]
    split
    · rfl
    · rw [List.length_cons, ih, List.length_cons]
theorem insC_mem (x y : Cu) (l : List Cu) : y ∈ insC x l ↔ y = x ∨ y ∈ l := by
  induction l with
  | nil => simp [insC]
  | cons z t ih =>
    rw [insC]
    split
    · simp
    · rw [List.mem_cons, ih, List.mem_cons]
      constructor
      · rintro (h | h | h)
        · exact .inr (.inl h)
        · exact .inl h
        · exact .inr (.inr h)
      · rintro (h | h | h)
        · exact .inr (.inl h)
        · exact .inl h
        · exact .inr (.inr h)
theorem insC_nms {x : Cu} {l : List Cu} (h : Nms l) (hx : ∀ y ∈ l, y.nm ≠ x.nm) : Nms (insC x l) := by
  induction l with
  | nil => exact List.pairwise_singleton _ _
  | cons y t ih =>
    obtain ⟨hy, ht⟩ := List.pairwise_cons.1 h
    rw [insC]
    split
    · rename_i c
      exact List.pairwise_cons.2 ⟨fun z hz => by
        rcases List.mem_cons.1 hz with rfl | hz
        · exact c
        · exact bl_trans _ _ _ c (hy z hz), h⟩
    · rename_i c
      refine List.pairwise_cons.2 ⟨fun z hz => ?_, ih ht (fun z hz => hx z (by simp [hz]))⟩
      rcases (insC_mem x z t).1 hz with rfl | hz
      · cases k : ltN y.nm z.nm with
        | true => rfl
        | false => exact absurd (toList_inj (bl_tri _ _ k (by simpa [ltN] using c))) (hx y (by simp))
      · exact hy z hz
theorem insC_at {x : Cu} {l : List Cu} (h : Nms l) {q : Nat} (hq : q ≤ l.length) (h1 : ∀ j y, q ≤ j → l[j]? = some y → ltN x.nm y.nm = true) (h2 : ∀ y, 0 < q → l[q - 1]? = some y → ltN x.nm y.nm = false) : l.take q ++ x :: l.drop q = insC x l := by
  induction l generalizing q with
  | nil => simp at hq; subst hq; rfl
  | cons y t ih =>
    obtain ⟨hy, ht⟩ := List.pairwise_cons.1 h
    cases q with
    | zero =>
      have := h1 0 y (Nat.le_refl _) rfl
      rw [insC, if_pos this]; rfl
    | succ q =>
      have hyx : ltN x.nm y.nm = false := by
        cases q with
        | zero => exact h2 y (by omega) rfl
        | succ q =>
          cases k : ltN x.nm y.nm with
          | false => rfl
          | true =>
            have hql : q < t.length := by simp at hq; omega
            have e1 : (y :: t)[q + 1 + 1 - 1]? = some t[q] := by rw [show q + 1 + 1 - 1 = q + 1 by omega, List.getElem?_cons_succ, List.getElem?_eq_getElem hql]
            have := h2 t[q] (by omega) e1
            have h3 := bl_trans _ _ _ k (hy t[q] (List.getElem_mem hql))
            rw [ltN] at this
            rw [this] at h3
            cases h3
      rw [insC, if_neg (by rw [hyx]; decide), List.take_succ_cons, List.drop_succ_cons, List.cons_append]
      congr 1
      refine ih ht (by simpa using hq) (fun j z hj hz => h1 (j + 1) z (by omega) (by simpa using hz)) (fun z hz0 hz => h2 z (by omega) ?_)
      cases q with
      | zero => omega
      | succ q => simpa using hz

def regE (l : List Cu) (n : ByteArray) (at' : Int) : Int :=
  if n.size < 1 ∨ 40 < n.size ∨ at' < 1 then 1 else if (plc l n).isSome then 5 else if 4 ≤ l.length then 8 else 0
def regL (l : List Cu) (n : ByteArray) (at' : Int) : List Cu := if regE l n at' = 0 then insC ⟨n, at', 0⟩ l else l
def opnE (l : List Cu) (n : ByteArray) (next : Int) : Int := match getC l n with | none => 4 | some x => if 0 < x.op then 7 else if next ≤ x.la then 1 else 0
def opnL (l : List Cu) (n : ByteArray) (next : Int) : List Cu := match plc l n, getC l n with | some i, some x => if 0 < x.op ∨ next ≤ x.la then l else l.set i ⟨n, x.la, next⟩ | _, _ => l
def finE (l : List Cu) (n : ByteArray) : Int := match getC l n with | none => 4 | some x => if x.op = 0 then 7 else 0
def finN (l : List Cu) (n : ByteArray) : Int := match getC l n with | none => 0 | some x => x.op
def finL (l : List Cu) (n : ByteArray) : List Cu := match plc l n, getC l n with | some i, some x => if x.op = 0 then l else l.set i ⟨n, x.op, 0⟩ | _, _ => l
def leaN : List Cu → Int
  | [] => 0
  | x :: t => t.foldl (fun m y => if y.la < m then y.la else m) x.la

theorem getC_plc {l : List Cu} {n : ByteArray} {i : Nat} {x : Cu} (h : plc l n = some i) (hx : l[i]? = some x) : getC l n = some x := by
  obtain ⟨hi, e⟩ := List.getElem?_eq_some_iff.1 hx
  obtain ⟨_, hn, hb⟩ := List.findIdx?_eq_some_iff_getElem.1 h
  rw [getC, List.find?_eq_some_iff_getElem]
  refine ⟨by rw [← e]; exact hn, i, hi, e, fun j hj => ?_⟩
  have := hb j hj
  simpa using this
theorem getC_none {l : List Cu} {n : ByteArray} (h : plc l n = none) : getC l n = none := by
  rw [getC, List.find?_eq_none]
  intro x hx e
  exact plc_none h x hx (isN_iff.1 e)

structure OkC (l : List Cu) : Prop where
  nms : Nms l
  few : l.length ≤ 4
  la1 : ∀ x ∈ l, 1 ≤ x.la
  op0 : ∀ x ∈ l, 0 ≤ x.op
  sz : ∀ x ∈ l, 1 ≤ x.nm.size ∧ x.nm.size ≤ 40

theorem OkC.nil : OkC [] := ⟨List.Pairwise.nil, by simp, by simp, by simp, by simp⟩
theorem nms_set {l : List Cu} (h : Nms l) {i : Nat} {x y : Cu} (hx : l[i]? = some x) (e : y.nm = x.nm) : Nms (l.set i y) := by
  obtain ⟨hi, rfl⟩ := List.getElem?_eq_some_iff.1 hx
  unfold Nms at h ⊢
  rw [List.pairwise_iff_getElem] at h ⊢
  intro a b ha hb hab
  rw [List.length_set] at ha hb
  have hab' := h a b ha hb hab
  rw [List.getElem_set, List.getElem_set]
  split
  · rename_i h1
    subst h1
    rw [if_neg (by omega), e]
    exact hab'
  · split
    · rename_i h1 h2
      subst h2
      rw [e]
      exact hab'
    · exact hab'
theorem OkC.reg {l : List Cu} (h : OkC l) (n : ByteArray) (at' : Int) : OkC (regL l n at') := by
  unfold regL
  split
  · rename_i h0
    unfold regE at h0
    split at h0
    · cases h0
    · rename_i h1
      split at h0
      · cases h0
      · rename_i h2
        split at h0
        · cases h0
        · rename_i h3
          have hp : plc l n = none := by cases hp : plc l n with | none => rfl | some i => rw [hp] at h2; exact absurd rfl h2
          refine ⟨insC_nms h.nms (fun y hy => plc_none hp y hy), by rw [insC_length]; omega, ?_, ?_, ?_⟩
          all_goals
            intro y hy
            rcases (insC_mem _ y l).1 hy with rfl | hy
          · show (1 : Int) ≤ at'; omega
          · exact h.la1 y hy
          · show (0 : Int) ≤ 0; omega
          · exact h.op0 y hy
          · show 1 ≤ n.size ∧ n.size ≤ 40; omega
          · exact h.sz y hy
  · exact h
theorem OkC.put {l : List Cu} (h : OkC l) {i : Nat} {x y : Cu} (hx : l[i]? = some x) (e : y.nm = x.nm) (h1 : 1 ≤ y.la) (h2 : 0 ≤ y.op) : OkC (l.set i y) := by
  have hm := List.mem_of_getElem? hx
  refine ⟨nms_set h.nms hx e, by rw [List.length_set]; exact h.few, ?_, ?_, ?_⟩
  all_goals
    intro z hz
    rcases List.mem_or_eq_of_mem_set hz with hz | rfl
  · exact h.la1 z hz
  · exact h1
  · exact h.op0 z hz
  · exact h2
  · exact h.sz z hz
  · rw [e]; exact h.sz x hm
theorem OkC.opn {l : List Cu} (h : OkC l) (n : ByteArray) (next : Int) : OkC (opnL l n next) := by
  unfold opnL
  split
  · rename_i i x hi hx
    split
    · exact h
    · rename_i hc
      obtain ⟨y, hy, hyn⟩ := plc_some hi
      rw [getC_plc hi hy] at hx
      obtain rfl : y = x := by simpa using hx
      have := h.la1 y (List.mem_of_getElem? hy)
      exact h.put hy hyn.symm this (by show (0 : Int) ≤ next; omega)
  · exact h
theorem OkC.fin {l : List Cu} (h : OkC l) (n : ByteArray) : OkC (finL l n) := by
  unfold finL
  split
  · rename_i i x hi hx
    split
    · exact h
    · rename_i hc
      obtain ⟨y, hy, hyn⟩ := plc_some hi
      rw [getC_plc hi hy] at hx
      obtain rfl : y = x := by simpa using hx
      have := h.op0 y (List.mem_of_getElem? hy)
      exact h.put hy hyn.symm (by show (1 : Int) ≤ y.op; omega) (by show (0 : Int) ≤ 0; omega)
  · exact h

theorem leaN_step {l : List Cu} {i : Nat} {x : Cu} (hx : l[i]? = some x) : leaN (l.take (i + 1)) = if i = 0 ∨ x.la < leaN (l.take i) then x.la else leaN (l.take i) := by
  cases l with
  | nil => simp at hx
  | cons y t =>
    cases i with
    | zero => simp at hx; subst hx; simp [leaN]
    | succ i =>
      rw [List.getElem?_cons_succ] at hx
      rw [List.take_succ_cons, List.take_succ_cons, leaN, leaN, List.take_add_one, hx, List.foldl_append]
      simp

end Go.Proofs.YticiofkiffgclaaGreat

namespace Go.Proofs.YticiofkiffgclaaGreat
set_option linter.unusedVariables false
open Go.RowKit

structure It where
  a : Int
  e : Ev
def It.cs (x : It) : Array Value := #[.int .i64 x.a, .int .i64 x.e.id, .int .i64 x.e.tx, .string x.e.ow, .int .i64 x.e.tr, .int .i64 x.e.tb, .int .u8 x.e.kd, .int .i64 x.e.key, .string x.e.t]
def encIt : Enc It where
  k := 9
  cs := It.cs
  size := fun _ => rfl
  one := fun x u h => by
    simp only [It.cs, List.mem_cons, List.not_mem_nil, or_false] at h
    rcases h with rfl | rfl | rfl | rfl | rfl | rfl | rfl | rfl | rfl <;> rfl
  pos := by decide

def ltI (x y : It) : Bool := decide (x.a < y.a) || (decide (x.a = y.a) && (decide (x.e.id < y.e.id) || (decide (x.e.id = y.e.id) && ltN x.e.ow y.e.ow)))
structure OkI (l : List It) : Prop where
  rise : Rise ltI l
  uniq : l.Pairwise fun x y => ¬ (x.e.id = y.e.id ∧ x.e.ow = y.e.ow)
  few : l.length ≤ 16

theorem OkI.nil : OkI [] := ⟨List.Pairwise.nil, List.Pairwise.nil, by simp⟩
end Go.Proofs.YticiofkiffgclaaGreat

namespace Go.Proofs.YticiofkiffgclaaGreat
set_option linter.unusedVariables false
open Go.RowKit

variable {α : Type} {E : Enc α}

def lfoot (h : Nat) (V : Value) : Nat → Prop := fun k => k = h ∨ V.ownBlock = some k

variable (E) in
structure Ls (T e : TypeId) (w : World) (B h : Nat) (V : Value) (l : List α) : Prop where
  hh : w.heap[h]? = some (.cells #[V] T (0, 0))
  bh : B ≤ h
  hT : T ≠ e
  own : OwnK E w B e V l

variable {T e : TypeId} {w w' : World} {B h : Nat} {V : Value} {l : List α}

theorem Ls.lt (a : Ls E T e w B h V l) : ∀ k, lfoot h V k → B ≤ k ∧ k < w.heap.size := by
  rintro k (rfl | hk)
  · exact ⟨a.bh, heap_lt a.hh⟩
  · exact a.own.lt k hk
theorem Ls.fo (a : Ls E T e w B h V l) {O : Nat → Prop} (hf : Fo O w w') (hd : ∀ k, lfoot h V k → ¬ O k) : Ls E T e w' B h V l :=
  ⟨hf.heap (hd h (.inl rfl)) a.hh, a.bh, a.hT, a.own.fo hf (fun g hg => hd g (.inr hg))⟩
theorem Stp.ofK {O : Nat → Prop} {a b : World} (h : Kept a b []) : Stp O O a b := ⟨Fo.ofKept h O, fun _ h => .inl h⟩
theorem Stp.afterK {O O1 : Nat → Prop} {a b c : World} (h : Kept a b []) (k : Stp O O1 b c) : Stp O O1 a c := (Stp.ofK h).trans k
theorem Kept.foC {O : Nat → Prop} {a b c : World} (k : Kept a b []) (f : Fo O b c) (hB : ∀ k, O k → a.heap.size ≤ k) : Kept a c [] :=
  ⟨f.os.trans k.os, f.tape.trans k.tape, f.output.trans k.output, Nat.le_trans k.size f.size, fun i hi _ => (f.block i (Nat.lt_of_lt_of_le hi k.size) (fun ho => by have := hB i ho; omega)).trans (k.block i hi (by simp))⟩

end Go.Proofs.YticiofkiffgclaaGreat
