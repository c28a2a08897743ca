/-
  Cua, Ita, Gev in one text.
-/
import Derived.Test.YticiofkiffgclaaGreatNr3
import Derived.Sort.Walk0
import Derived.Test.YticiofkiffgclaaGreatNr5
namespace Go.Proofs.YticiofkiffgclaaGreat
set_option linter.unusedVariables false
open Go.RowKit

def ltN (a b : ByteArray) : Bool := Op.bytesLess a.toList b.toList

theorem bl_irrefl : ∀ a : List UInt8, Op.bytesLess a a = false
  | [] => rfl
  | x :: t => by
    rw [Op.bytesLess, bl_irrefl t]
    simp
theorem bl_trans : ∀ a b c : List UInt8, Op.bytesLess a b = true → Op.bytesLess b c = true → Op.bytesLess a c = true
  | [], [], _, h, _ => by simp [Op.bytesLess] at h
  | [], _ :: _, [], _, h => by simp [Op.bytesLess] at h
  | [], _ :: _, _ :: _, _, _ => by simp [Op.bytesLess]
  | _ :: _, [], _, h, _ => by simp [Op.bytesLess] at h
  | _ :: _, _ :: _, [], _, h => by simp [Op.bytesLess] at h
  | x :: a, y :: b, z :: c, h, k => by
    simp only [Op.bytesLess, Bool.or_eq_true, decide_eq_true_eq, Bool.and_eq_true, beq_iff_eq] at h k ⊢
    rcases h with h | ⟨rfl, h⟩
    · rcases k with k | ⟨rfl, k⟩
      · exact .inl (UInt8.lt_trans h k)
      · exact .inl h
    · rcases k with k | ⟨rfl, k⟩
      · exact .inl k
      · exact .inr ⟨rfl, bl_trans a b c h k⟩
theorem bl_tri : ∀ a b : List UInt8, Op.bytesLess a b = false → Op.bytesLess b a = false → a = b
  | [], [], _, _ => rfl
  | [], _ :: _, h, _ => by simp [Op.bytesLess] at h
  | _ :: _, [], _, h => by simp [Op.bytesLess] at h
  | x :: a, y :: b, h, k => by
    simp only [Op.bytesLess, Bool.or_eq_false_iff, decide_eq_false_iff_not, Bool.and_eq_false_iff, beq_eq_false_iff_ne] at h k
    have e : x = y := by
      have h1 := UInt8.not_lt.1 h.1
      have h2 := UInt8.not_lt.1 k.1
      exact UInt8.le_antisymm h2 h1
    subst e
    have h2 := h.2.resolve_left (fun n => n rfl)
    have k2 := k.2.resolve_left (fun n => n rfl)
    rw [bl_tri a b h2 k2]
theorem bl_asymm {a b : List UInt8} (h : Op.bytesLess a b = true) : Op.bytesLess b a = false := by
  cases k : Op.bytesLess b a with
  | false => rfl
  | true => have := bl_trans a b a h k; rw [bl_irrefl] at this; cases this

theorem toList_inj {a b : ByteArray} (h : a.toList = b.toList) : a = b := by
  rw [ByteArray.toList_eq, ByteArray.toList_eq] at h
  cases a; cases b
  simp only at h
  congr 1
  exact Array.toList_inj.1 h

structure Cu where
  nm : ByteArray
  la : Int
  op : Int
def Cu.cs (x : Cu) : Array Value := #[.string x.nm, .int .i64 x.la, .int .i64 x.op]
def encCu : Enc Cu where
  k := 3
  cs := Cu.cs
  size := fun _ => rfl
  one := fun x u h => by
    simp only [Cu.cs, List.mem_cons, List.not_mem_nil, or_false] at h
    rcases h with rfl | rfl | rfl <;> rfl
  pos := by decide

def Nms (l : List Cu) : Prop := l.Pairwise fun a b => ltN a.nm b.nm = true
def isN (n : ByteArray) (x : Cu) : Bool := x.nm.toList == n.toList
theorem isN_iff {n : ByteArray} {x : Cu} : isN n x = true ↔ x.nm = n := by
  simp only [isN, beq_iff_eq]
  exact ⟨toList_inj, fun h => by rw [h]⟩
def plc (l : List Cu) (n : ByteArray) : Option Nat := l.findIdx? (isN n)
def getC (l : List Cu) (n : ByteArray) : Option Cu := l.find? (isN n)

theorem plc_hit {l : List Cu} {n : ByteArray} {i : Nat} {x : Cu} (hx : l[i]? = some x) (hn : isN n x = true) (hb : ∀ j y, j < i → l[j]? = some y → isN n y = false) : plc l n = some i := by
  obtain ⟨hi, rfl⟩ := List.getElem?_eq_some_iff.1 hx
  rw [plc, List.findIdx?_eq_some_iff_getElem]
  refine ⟨hi, hn, fun j hj => ?_⟩
  rw [hb j _ hj (List.getElem?_eq_getElem _)]
  simp
theorem plc_miss {l : List Cu} {n : ByteArray} (hb : ∀ j y, j < l.length → l[j]? = some y → isN n y = false) : plc l n = none := by
  rw [plc, List.findIdx?_eq_none_iff]
  intro y hy
  obtain ⟨j, hj, rfl⟩ := List.mem_iff_getElem.1 hy
  exact hb j _ hj (List.getElem?_eq_getElem hj)
theorem plc_some {l : List Cu} {n : ByteArray} {i : Nat} (h : plc l n = some i) : ∃ x, l[i]? = some x ∧ x.nm = n := by
  obtain ⟨hi, hn, _⟩ := List.findIdx?_eq_some_iff_getElem.1 h
  exact ⟨l[i], List.getElem?_eq_getElem hi, isN_iff.1 hn⟩
theorem plc_none {l : List Cu} {n : ByteArray} (h : plc l n = none) : ∀ x ∈ l, x.nm ≠ n := by
  rw [plc, List.findIdx?_eq_none_iff] at h
  intro x hx e
  have := h x hx
  rw [isN_iff.2 e] at this
  cases this

theorem nms_one {l : List Cu} (h : Nms l) {i j : Nat} {x y : Cu} (hx : l[i]? = some x) (hy : l[j]? = some y) (e : x.nm = y.nm) : i = j := by
  obtain ⟨hi, rfl⟩ := List.getElem?_eq_some_iff.1 hx
  obtain ⟨hj, rfl⟩ := List.getElem?_eq_some_iff.1 hy
  rcases Nat.lt_trichotomy i j with c | c | c
  · have := List.pairwise_iff_getElem.1 h i j hi hj c
    rw [e, ltN, bl_irrefl] at this
    cases this
  · exact c
  · have := List.pairwise_iff_getElem.1 h j i hj hi c
    rw [e, ltN, bl_irrefl] at this
    cases this

def insC (x : Cu) : List Cu → List Cu
  | [] => [x]
  | y :: t => if ltN x.nm y.nm = true then x :: y :: t else y :: insC x t
theorem insC_length (x : Cu) (l : List Cu) : (insC x l).length = l.length + 1 := by
  induction l with
  | nil => rfl
  | cons y t ih =>
    rw [insC]
    split
    · rfl
    · rw [List.length_cons, ih, List.length_cons]
theorem insC_mem (x y : Cu) (l : List Cu) : y ∈ insC x l ↔ y = x ∨ y ∈ l := by
  induction l with
  | nil => simp [insC]
  | cons z t ih =>
    rw [insC]
    split
    · simp
    · rw [List.mem_cons, ih, List.mem_cons]
      constructor
      · rintro (h | h | h)
        · exact .inr (.inl h)
        · exact .inl h
        · exact .inr (.inr h)
      · rintro (h | h | h)
        · exact .inr (.inl h)
        · exact .inl h
        · exact .inr (.inr h)
theorem insC_nms {x : Cu} {l : List Cu} (h : Nms l) (hx : ∀ y ∈ l, y.nm ≠ x.nm) : Nms (insC x l) := by
  induction l with
  | nil => exact List.pairwise_singleton _ _
  | cons y t ih =>
    obtain ⟨hy, ht⟩ := List.pairwise_cons.1 h
    rw [insC]
    split
    · rename_i c
      exact List.pairwise_cons.2 ⟨fun z hz => by
        rcases List.mem_cons.1 hz with rfl | hz
        · exact c
        · exact bl_trans _ _ _ c (hy z hz), h⟩
    · rename_i c
      refine List.pairwise_cons.2 ⟨fun z hz => ?_, ih ht (fun z hz => hx z (by simp [hz]))⟩
      rcases (insC_mem x z t).1 hz with rfl | hz
      · cases k : ltN y.nm z.nm with
        | true => rfl
        | false => exact absurd (toList_inj (bl_tri _ _ k (by simpa [ltN] using c))) (hx y (by simp))
      · exact hy z hz
theorem insC_at {x : Cu} {l : List Cu} (h : Nms l) {q : Nat} (hq : q ≤ l.length) (h1 : ∀ j y, q ≤ j → l[j]? = some y → ltN x.nm y.nm = true) (h2 : ∀ y, 0 < q → l[q - 1]? = some y → ltN x.nm y.nm = false) : l.take q ++ x :: l.drop q = insC x l := by
  induction l generalizing q with
  | nil => simp at hq; subst hq; rfl
  | cons y t ih =>
    obtain ⟨hy, ht⟩ := List.pairwise_cons.1 h
    cases q with
    | zero =>
      have := h1 0 y (Nat.le_refl _) rfl
      rw [insC, if_pos this]; rfl
    | succ q =>
      have hyx : ltN x.nm y.nm = false := by
        cases q with
        | zero => exact h2 y (by omega) rfl
        | succ q =>
          cases k : ltN x.nm y.nm with
          | false => rfl
          | true =>
            have hql : q < t.length := by simp at hq; omega
            have e1 : (y :: t)[q + 1 + 1 - 1]? = some t[q] := by rw [show q + 1 + 1 - 1 = q + 1 by omega, List.getElem?_cons_succ, List.getElem?_eq_getElem hql]
            have := h2 t[q] (by omega) e1
            have h3 := bl_trans _ _ _ k (hy t[q] (List.getElem_mem hql))
            rw [ltN] at this
            rw [this] at h3
            cases h3
      rw [insC, if_neg (by rw [hyx]; decide), List.take_succ_cons, List.drop_succ_cons, List.cons_append]
      congr 1
      refine ih ht (by simpa using hq) (fun j z hj hz => h1 (j + 1) z (by omega) (by simpa using hz)) (fun z hz0 hz => h2 z (by omega) ?_)
      cases q with
      | zero => omega
      | succ q => simpa using hz

def regE (l : List Cu) (n : ByteArray) (at' : Int) : Int :=
  if n.size < 1 ∨ 40 < n.size ∨ at' < 1 then 1 else if (plc l n).isSome then 5 else if 4 ≤ l.length then 8 else 0
def regL (l : List Cu) (n : ByteArray) (at' : Int) : List Cu := if regE l n at' = 0 then insC ⟨n, at', 0⟩ l else l
def opnE (l : List Cu) (n : ByteArray) (next : Int) : Int := match getC l n with | none => 4 | some x => if 0 < x.op then 7 else if next ≤ x.la then 1 else 0
def opnL (l : List Cu) (n : ByteArray) (next : Int) : List Cu := match plc l n, getC l n with | some i, some x => if 0 < x.op ∨ next ≤ x.la then l else l.set i ⟨n, x.la, next⟩ | _, _ => l
def finE (l : List Cu) (n : ByteArray) : Int := match getC l n with | none => 4 | some x => if x.op = 0 then 7 else 0
def finN (l : List Cu) (n : ByteArray) : Int := match getC l n with | none => 0 | some x => x.op
def finL (l : List Cu) (n : ByteArray) : List Cu := match plc l n, getC l n with | some i, some x => if x.op = 0 then l else l.set i ⟨n, x.op, 0⟩ | _, _ => l
theorem getC_plc {l : List Cu} {n : ByteArray} {i : Nat} {x : Cu} (h : plc l n = some i) (hx : l[i]? = some x) : getC l n = some x := by
  obtain ⟨hi, e⟩ := List.getElem?_eq_some_iff.1 hx
  obtain ⟨_, hn, hb⟩ := List.findIdx?_eq_some_iff_getElem.1 h
  rw [getC, List.find?_eq_some_iff_getElem]
  refine ⟨by rw [← e]; exact hn, i, hi, e, fun j hj => ?_⟩
  have := hb j hj
  simpa using this
theorem getC_none {l : List Cu} {n : ByteArray} (h : plc l n = none) : getC l n = none := by
  rw [getC, List.find?_eq_none]
  intro x hx e
  exact plc_none h x hx (isN_iff.1 e)

structure OkC (l : List Cu) : Prop where
  nms : Nms l
  few : l.length ≤ 4
  la1 : ∀ x ∈ l, 1 ≤ x.la
  op0 : ∀ x ∈ l, 0 ≤ x.op
  sz : ∀ x ∈ l, 1 ≤ x.nm.size ∧ x.nm.size ≤ 40

theorem OkC.nil : OkC [] := ⟨List.Pairwise.nil, by simp, by simp, by simp, by simp⟩
theorem nms_set {l : List Cu} (h : Nms l) {i : Nat} {x y : Cu} (hx : l[i]? = some x) (e : y.nm = x.nm) : Nms (l.set i y) := by
  obtain ⟨hi, rfl⟩ := List.getElem?_eq_some_iff.1 hx
  unfold Nms at h ⊢
  rw [List.pairwise_iff_getElem] at h ⊢
  intro a b ha hb hab
  rw [List.length_set] at ha hb
  have hab' := h a b ha hb hab
  rw [List.getElem_set, List.getElem_set]
  split
  · rename_i h1
    subst h1
    rw [if_neg (by omega), e]
    exact hab'
  · split
    · rename_i h1 h2
      subst h2
      rw [e]
      exact hab'
    · exact hab'
theorem OkC.reg {l : List Cu} (h : OkC l) (n : ByteArray) (at' : Int) : OkC (regL l n at') := by
  unfold regL
  split
  · rename_i h0
    unfold regE at h0
    split at h0
    · cases h0
    · rename_i h1
      split at h0
      · cases h0
      · rename_i h2
        split at h0
        · cases h0
        · rename_i h3
          have hp : plc l n = none := by cases hp : plc l n with | none => rfl | some i => rw [hp] at h2; exact absurd rfl h2
          refine ⟨insC_nms h.nms (fun y hy => plc_none hp y hy), by rw [insC_length]; omega, ?_, ?_, ?_⟩
          all_goals
            intro y hy
            rcases (insC_mem _ y l).1 hy with rfl | hy
          · show (1 : Int) ≤ at'; omega
          · exact h.la1 y hy
          · show (0 : Int) ≤ 0; omega
          · exact h.op0 y hy
          · show 1 ≤ n.size ∧ n.size ≤ 40; omega
          · exact h.sz y hy
  · exact h
theorem OkC.put {l : List Cu} (h : OkC l) {i : Nat} {x y : Cu} (hx : l[i]? = some x) (e : y.nm = x.nm) (h1 : 1 ≤ y.la) (h2 : 0 ≤ y.op) : OkC (l.set i y) := by
  have hm := List.mem_of_getElem? hx
  refine ⟨nms_set h.nms hx e, by rw [List.length_set]; exact h.few, ?_, ?_, ?_⟩
  all_goals
    intro z hz
    rcases List.mem_or_eq_of_mem_set hz with hz | rfl
  · exact h.la1 z hz
  · exact h1
  · exact h.op0 z hz
  · exact h2
  · exact h.sz z hz
  · rw [e]; exact h.sz x hm
theorem OkC.opn {l : List Cu} (h : OkC l) (n : ByteArray) (next : Int) : OkC (opnL l n next) := by
  unfold opnL
  split
  · rename_i i x hi hx
    split
    · exact h
    · rename_i hc
      obtain ⟨y, hy, hyn⟩ := plc_some hi
      rw [getC_plc hi hy] at hx
      obtain rfl : y = x := by simpa using hx
      have := h.la1 y (List.mem_of_getElem? hy)
      exact h.put hy hyn.symm this (by show (0 : Int) ≤ next; omega)
  · exact h
theorem OkC.fin {l : List Cu} (h : OkC l) (n : ByteArray) : OkC (finL l n) := by
  unfold finL
  split
  · rename_i i x hi hx
    split
    · exact h
    · rename_i hc
      obtain ⟨y, hy, hyn⟩ := plc_some hi
      rw [getC_plc hi hy] at hx
      obtain rfl : y = x := by simpa using hx
      have := h.op0 y (List.mem_of_getElem? hy)
      exact h.put hy hyn.symm (by show (1 : Int) ≤ y.op; omega) (by show (0 : Int) ≤ 0; omega)
  · exact h

end Go.Proofs.YticiofkiffgclaaGreat

namespace Go.Proofs.YticiofkiffgclaaGreat
set_option linter.unusedVariables false
open Go.RowKit

structure It where
  a : Int
  e : Ev
def It.cs (x : It) : Array Value := #[.int .i64 x.a, .int .i64 x.e.id, .int .i64 x.e.tx, .string x.e.ow, .int .i64 x.e.tr, .int .i64 x.e.tb, .int .u8 x.e.kd, .int .i64 x.e.key, .string x.e.t]
def encIt : Enc It where
  k := 9
  cs := It.cs
  size := fun _ => rfl
  one := fun x u h => by
    simp only [It.cs, List.mem_cons, List.not_mem_nil, or_false] at h
    rcases h with rfl | rfl | rfl | rfl | rfl | rfl | rfl | rfl | rfl <;> rfl
  pos := by decide

def ltI (x y : It) : Bool := decide (x.a < y.a) || (decide (x.a = y.a) && (decide (x.e.id < y.e.id) || (decide (x.e.id = y.e.id) && ltN x.e.ow y.e.ow)))
theorem ltI_iff {x y : It} : ltI x y = true ↔ x.a < y.a ∨ (x.a = y.a ∧ (x.e.id < y.e.id ∨ (x.e.id = y.e.id ∧ ltN x.e.ow y.e.ow = true))) := by
  simp only [ltI, Bool.or_eq_true, Bool.and_eq_true, decide_eq_true_eq]
theorem ltI_ord : Ord ltI where
  irr := fun a => by
    cases h : ltI a a with
    | false => rfl
    | true =>
      rw [ltI_iff, ltN, bl_irrefl] at h
      simp at h
  tr := fun a b c h k => by
    rw [ltI_iff] at h k ⊢
    rcases h with h | ⟨h1, h⟩
    · rcases k with k | ⟨k1, k⟩
      · exact .inl (by omega)
      · exact .inl (by omega)
    · rcases k with k | ⟨k1, k⟩
      · exact .inl (by omega)
      · refine .inr ⟨by omega, ?_⟩
        rcases h with h | ⟨h2, h⟩
        · rcases k with k | ⟨k2, k⟩
          · exact .inl (by omega)
          · exact .inl (by omega)
        · rcases k with k | ⟨k2, k⟩
          · exact .inl (by omega)
          · exact .inr ⟨by omega, bl_trans _ _ _ h k⟩
theorem ltI_tri {x y : It} (h : ltI x y = false) (k : ltI y x = false) : x.a = y.a ∧ x.e.id = y.e.id ∧ x.e.ow = y.e.ow := by
  have h' : ¬ (ltI x y = true) := by rw [h]; decide
  have k' : ¬ (ltI y x = true) := by rw [k]; decide
  rw [ltI_iff] at h' k'
  have e1 : x.a = y.a := by
    rcases Int.lt_trichotomy x.a y.a with c | c | c
    · exact absurd (.inl c) h'
    · exact c
    · exact absurd (.inl c) k'
  have e2 : x.e.id = y.e.id := by
    rcases Int.lt_trichotomy x.e.id y.e.id with c | c | c
    · exact absurd (.inr ⟨e1, .inl c⟩) h'
    · exact c
    · exact absurd (.inr ⟨e1.symm, .inl c⟩) k'
  refine ⟨e1, e2, toList_inj (bl_tri _ _ ?_ ?_)⟩
  · cases c : Op.bytesLess x.e.ow.toList y.e.ow.toList with
    | false => rfl
    | true => exact absurd (.inr ⟨e1, .inr ⟨e2, c⟩⟩) h'
  · cases c : Op.bytesLess y.e.ow.toList x.e.ow.toList with
    | false => rfl
    | true => exact absurd (.inr ⟨e1.symm, .inr ⟨e2.symm, c⟩⟩) k'

def isK (id : Int) (ow : ByteArray) (x : It) : Bool := (x.e.id == id) && (x.e.ow.toList == ow.toList)
theorem isK_iff {id : Int} {ow : ByteArray} {x : It} : isK id ow x = true ↔ x.e.id = id ∧ x.e.ow = ow := by
  simp only [isK, Bool.and_eq_true, beq_iff_eq]
  exact ⟨fun ⟨h1, h2⟩ => ⟨h1, toList_inj h2⟩, fun ⟨h1, h2⟩ => ⟨h1, by rw [h2]⟩⟩

def trN (n : Int) : Int := if n < 2147483647 then n + 1 else n
def addX (e : Ev) (ow : ByteArray) (at' : Int) : It := ⟨at', ⟨e.id, e.tx, ow, trN e.tr, e.tb, e.kd, e.key, e.t⟩⟩
def adiE (l : List It) (id : Int) (ow : ByteArray) : Int := if ow.size < 1 then 1 else if l.any (isK id ow) then 5 else if 16 ≤ l.length then 8 else 0
def adiL (l : List It) (e : Ev) (ow : ByteArray) (at' : Int) : List It := if adiE l e.id ow = 0 then insG ltI (addX e ow at') l else l
def dueI (l : List It) (now : Int) : List It := l.filter fun x => decide (x.a ≤ now)
def lftI (l : List It) (now : Int) : List It := l.filter fun x => !decide (x.a ≤ now)
structure OkI (l : List It) : Prop where
  rise : Rise ltI l
  uniq : l.Pairwise fun x y => ¬ (x.e.id = y.e.id ∧ x.e.ow = y.e.ow)
  few : l.length ≤ 16

theorem OkI.nil : OkI [] := ⟨List.Pairwise.nil, List.Pairwise.nil, by simp⟩
theorem OkI.sub {l m : List It} (h : OkI l) (hs : m.Sublist l) : OkI m := ⟨h.rise.sublist hs, h.uniq.sublist hs, Nat.le_trans hs.length_le h.few⟩
theorem OkI.lft {l : List It} (h : OkI l) (now : Int) : OkI (lftI l now) := h.sub List.filter_sublist
theorem adiE_zero {l : List It} {id : Int} {ow : ByteArray} (h : adiE l id ow = 0) : 1 ≤ ow.size ∧ (∀ x ∈ l, ¬ (x.e.id = id ∧ x.e.ow = ow)) ∧ l.length < 16 := by
  unfold adiE at h
  split at h
  · cases h
  · rename_i h1
    split at h
    · cases h
    · rename_i h2
      split at h
      · cases h
      · rename_i h3
        refine ⟨by omega, fun x hx hc => h2 ?_, by omega⟩
        rw [List.any_eq_true]
        exact ⟨x, hx, isK_iff.2 hc⟩
theorem OkI.add {l : List It} (h : OkI l) (e : Ev) (ow : ByteArray) (at' : Int) : OkI (adiL l e ow at') := by
  unfold adiL
  split
  · rename_i h0
    obtain ⟨_, h2, h3⟩ := adiE_zero h0
    refine ⟨insG_rise ltI_ord h.rise (fun y hy hc => ?_), insG_pairwise h.uniq (fun y hy => ⟨fun hc => h2 y hy ⟨hc.1.symm, hc.2.symm⟩, fun hc => h2 y hy hc⟩), by rw [insG_length]; omega⟩
    cases hk : ltI y (addX e ow at') with
    | true => rfl
    | false =>
      obtain ⟨_, e2, e3⟩ := ltI_tri hc hk
      exact absurd ⟨e2.symm, e3.symm⟩ (h2 y hy)
  · exact h

theorem due_cut {l : List It} (h : Rise ltI l) (now : Int) : Cutp (fun x : It => decide (x.a ≤ now)) l := by
  refine List.Pairwise.imp (fun {x y} hxy => ?_) h
  intro hy
  have := ltI_iff.1 hxy
  simp only [decide_eq_true_eq] at hy ⊢
  omega
theorem due_take {l : List It} (h : Rise ltI l) (now : Int) : l.take (dueI l now).length = dueI l now ∧ l.drop (dueI l now).length = lftI l now := by
  have hc : (dueI l now).length = l.countP fun x => decide (x.a ≤ now) := by rw [dueI, List.countP_eq_length_filter]
  rw [hc]
  exact cut_take (due_cut h now)
theorem due_stop {l : List It} (h : Rise ltI l) {now : Int} {i : Nat} (h1 : ∀ j y, j < i → l[j]? = some y → y.a ≤ now) (h2 : ∀ y, l[i]? = some y → ¬ y.a ≤ now) (hi : i ≤ l.length) : (dueI l now).length = i := by
  have hc : (dueI l now).length = l.countP fun x => decide (x.a ≤ now) := by rw [dueI, List.countP_eq_length_filter]
  obtain ⟨s1, s2⟩ := cut_spec (due_cut h now)
  rw [hc]
  rcases Nat.lt_trichotomy (l.countP fun x => decide (x.a ≤ now)) i with c | c | c
  · obtain ⟨y, hy⟩ : ∃ y, l[l.countP fun x => decide (x.a ≤ now)]? = some y := ⟨_, List.getElem?_eq_getElem (by omega)⟩
    have := s2 _ y (Nat.le_refl _) hy
    have h3 := h1 _ y c hy
    simp at this
    omega
  · exact c
  · have hil : i < l.length := Nat.lt_of_lt_of_le c List.countP_le_length
    have h3 := s1 i l[i] c (List.getElem?_eq_getElem hil)
    have h4 := h2 l[i] (List.getElem?_eq_getElem hil)
    simp at h3
    omega

end Go.Proofs.YticiofkiffgclaaGreat

namespace Go.Proofs.YticiofkiffgclaaGreat
open Go.RowKit

def encEv : Enc Ev where
  k := 8
  cs := Ev.cs
  size := fun _ => rfl
  one := fun x u h => by
    simp only [Ev.cs, List.mem_cons, List.not_mem_nil, or_false] at h
    rcases h with rfl | rfl | rfl | rfl | rfl | rfl | rfl | rfl <;> rfl
  pos := by decide

end Go.Proofs.YticiofkiffgclaaGreat
