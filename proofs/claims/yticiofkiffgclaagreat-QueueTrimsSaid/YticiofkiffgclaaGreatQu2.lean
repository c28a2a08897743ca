/-
 Gke, Ev0, Cua, Ita, Gev, Gkf, Gkg, Txs in one text.
-/
import Derived.Test.YticiofkiffgclaaGreatQu1
import Derived.Test.YticiofkiffgclaaGreatQu0
import Derived.Sort.Walk0
import Derived.Test.YticiofkiffgclaaGreatRows
set_option linter.unusedVariables false
namespace Go.Proofs.YticiofkiffgclaaGreat
open Go.RowKit
variable {α : Type} {E : Enc α}
def gidx (P : α -> Bool) (l : List α) : Int := match l.findIdx? P with | some i => i | none => -1
theorem gidx_hit {P : α -> Bool} {l : List α} {k : Nat} {r : α} (hr : l[k]? = some r) (hp : P r = true) (hb : ∀ j s, j < k -> l[j]? = some s -> P s = false) : l.findIdx? P = some k := by
 obtain ⟨hk, e⟩ := List.getElem?_eq_some_iff.1 hr
 rw [List.findIdx?_eq_some_iff_getElem]
 refine ⟨hk, by rw [e]; exact hp, fun j hj => ?_⟩
 rw [hb j l[j] hj (List.getElem?_eq_getElem _)]
 simp
theorem gidx_miss {P : α -> Bool} {l : List α} (hb : ∀ j s, j < l.length -> l[j]? = some s -> P s = false) : l.findIdx? P = none := by
 rw [List.findIdx?_eq_none_iff]
 intro s hs
 obtain ⟨j, hj, e⟩ := List.mem_iff_getElem.1 hs
 exact hb j s hj (by rw [List.getElem?_eq_getElem hj, e])
theorem gfind_lt {P : α -> Bool} {l : List α} {k : Nat} (h : l.findIdx? P = some k) : k < l.length := (List.findIdx?_eq_some_iff_getElem.1 h).1
theorem gidx_any (P : α -> Bool) (l : List α) : decide (0 <= gidx P l) = l.any P := by
 unfold gidx
 cases h : l.findIdx? P with
 | some i =>
 obtain ⟨h1, h2, _⟩ := List.findIdx?_eq_some_iff_getElem.1 h
 have : l.any P = true := List.any_eq_true.2 ⟨l[i], List.getElem_mem h1, h2⟩
 rw [this]
 simp
 | none =>
 rw [List.findIdx?_eq_none_iff] at h
 have : l.any P = false := by
  rw [List.any_eq_false]
  intro x hx
  rw [h x hx]; decide
 rw [this]
 rfl
def keptG (P : α -> Bool) (l : List α) (j : Nat) : List α := (l.take j).filter fun r => !P r
theorem keptG_hit {P : α -> Bool} {l : List α} {j : Nat} {r : α} (h : l[j]? = some r) (hp : P r = false) : keptG P l (j + 1) = keptG P l j ++ [r] := by
 simp [keptG, List.take_add_one, h, hp]
theorem keptG_miss {P : α -> Bool} {l : List α} {j : Nat} {r : α} (h : l[j]? = some r) (hp : P r = true) : keptG P l (j + 1) = keptG P l j := by
 simp [keptG, List.take_add_one, h, hp]
theorem keptG_all {P : α -> Bool} {l : List α} : keptG P l l.length = l.filter fun r => !P r := by simp [keptG]
theorem keptG_first {P : α -> Bool} {l : List α} {k : Nat} (hi : l.findIdx? P = some k) : keptG P l k = l.take k /\ keptG P l (k + 1) = l.take k := by
 rw [List.findIdx?_eq_some_iff_getElem] at hi
 obtain ⟨h1, h2, h3⟩ := hi
 have hk : keptG P l k = l.take k := by
  rw [keptG, List.filter_eq_self]
  intro r hr
  obtain ⟨m, hm, e⟩ := List.mem_iff_getElem.1 hr
  rw [List.getElem_take] at e
  simp only [List.length_take] at hm
  have := h3 m (by omega)
  rw [e] at this
  simpa using this
 exact ⟨hk, by rw [keptG_miss (List.getElem?_eq_getElem h1) h2, hk]⟩
variable (E) in
structure GMid (wr : World) (base g cap : Nat) (e : TypeId) (l : List α) (P : α -> Bool) (i j : Nat) : Prop where
 row : ∃ X, OwnK E wr base e (.slice (some ⟨g, 0, none⟩) l.length cap) X /\ X.take i = keptG P l j /\ X.drop j = l.drop j /\ X.length = l.length
 len : i = (keptG P l j).length
 lt : i < j
 le : j <= l.length
variable {w w' wr : World} {base g cap i j : Nat} {e : TypeId} {l : List α} {P : α -> Bool} {r : α}
theorem GMid.start {k : Nat} (ho : OwnK E w base e (.slice (some ⟨g, 0, none⟩) l.length cap) l) (hi : l.findIdx? P = some k) : GMid E w base g cap e l P k (k + 1) := by
 have h1 := gfind_lt hi
 obtain ⟨hk, hk1⟩ := keptG_first hi
 exact ⟨⟨l, ho, by rw [hk1], rfl, rfl⟩, by rw [hk1]; simp; omega, by omega, by omega⟩
theorem GMid.cells (a : GMid E wr base g cap e l P i j) (hr : l[j]? = some r) : ∃ X, OwnK E wr base e (.slice (some ⟨g, 0, none⟩) l.length cap) X /\ X[j]? = some r := by
 obtain ⟨X, h1, _, h3, _⟩ := a.row
 refine ⟨X, h1, ?_⟩
 have := congrArg (fun m => m[0]?) h3
 simp only [List.getElem?_drop, Nat.add_zero] at this
 rw [this, hr]
theorem GMid.spot (a : GMid E wr base g cap e l P i j) : ∃ X s, OwnK E wr base e (.slice (some ⟨g, 0, none⟩) l.length cap) X /\ X[i]? = some s := by
 obtain ⟨X, h1, _, _, h4⟩ := a.row
 have := a.lt; have := a.le
 exact ⟨X, X[i]'(by omega), h1, List.getElem?_eq_getElem (by omega)⟩
theorem GMid.skip (a : GMid E wr base g cap e l P i j) (hr : l[j]? = some r) (hp : P r = true) (hk : Kept wr w' []) : GMid E w' base g cap e l P i (j + 1) := by
 obtain ⟨X, h1, h2, h3, h4⟩ := a.row
 have hj : j < l.length := (List.getElem?_eq_some_iff.1 hr).1
 exact ⟨⟨X, h1.keep hk, by rw [keptG_miss hr hp]; exact h2, by rw [<- List.drop_drop, h3, List.drop_drop], h4⟩, by rw [keptG_miss hr hp]; exact a.len, by have := a.lt; omega, hj⟩
theorem GMid.put (a : GMid E wr base g cap e l P i j) (hr : l[j]? = some r) (hp : P r = false) (hk : Kept wr w' []) :
 GMid E (xqo w' g (i * E.k) (E.cs r).toList) base g cap e l P (i + 1) (j + 1) := by
 obtain ⟨X, h1, h2, h3, h4⟩ := a.row
 have hj : j < l.length := (List.getElem?_eq_some_iff.1 hr).1
 have hlt := a.lt
 refine ⟨⟨X.set i r, (h1.keep hk).put i (by omega) r, ?_, ?_, by rw [List.length_set, h4]⟩, by rw [keptG_hit hr hp, List.length_append, <- a.len]; rfl, by omega, hj⟩
 ·rw [keptG_hit hr hp, <- h2, List.take_add_one, List.take_set_of_le (Nat.le_refl _), List.getElem?_set_self (by omega)]
  rfl
 ·rw [List.drop_set_of_lt (by omega), <- List.drop_drop, h3, List.drop_drop]
theorem GMid.fin {Q : Program} (a : GMid E wr base g cap e l P i l.length) (t : TypeId) (z : Value) (ht : Q.underlying t = some (.slice e)) (hv : ∀ w, (zeroValue e).run Q w = .ok z w) (h1 : ∀ v ∈ z.cells.toList, v.oneCell' = true) (hz : z.cells.size = E.k) :
 ∃ w3, (∀ ty, (Builtin.clear_ #[t] ty #[.slice (some ⟨g, i * E.k, none⟩) (l.length - i) (cap - i)]).run Q wr = .ok (.tuple #[]) w3) /\ i = (l.filter fun r => !P r).length /\
  OwnK E w3 base e (.slice (some ⟨g, 0, none⟩) i cap) (l.filter fun r => !P r) /\ Fo (fun k => k = g) wr w3 := by
 obtain ⟨X, o1, h2, _, h4⟩ := a.row
 have hl := a.len
 have hlt := a.lt
 rw [keptG_all] at h2 hl
 obtain ⟨R, hg, hBg, _, hlc, hcm, hRl, hRt⟩ := o1.row
 have hX : i * E.k + (l.length - i) * E.k = X.length * E.k := by rw [<- Nat.add_mul, h4]; congr 1; omega
 have hcx : X.length * E.k <= R.length := by rw [hRl]; exact Nat.mul_le_mul_right _ hlc
 obtain ⟨w3, hr, ⟨R3, h3, hl3, ht3⟩, hf3⟩ := run_clear_k (P := Q) wr t e z ht hv h1 (by rw [hz]; exact E.pos) (n := l.length - i) (c := cap - i) (o := i * E.k) (by omega) hg (by rw [hz]; omega)
 refine ⟨w3, hr, hl, ?_, hf3⟩
 have hh := yqt (E := E) (l := l.filter fun r => !P r) (B := base) (cap := cap) h3 hBg (by rw [<- hl]; omega) hcm (by rw [hl3]; exact hRl) (by
  rw [<- hl, ht3, <- h2, yqk E X i (by omega), <- hRt, List.take_take, Nat.min_eq_left (Nat.mul_le_mul_right _ (by omega))])
 rw [<- hl] at hh
 exact hh
theorem Fo.oneK {O : Nat -> Prop} {a b c : World} (h : Fo O a b) (k : Kept b c []) : Fo O a c := h.trans (Fo.ofKept k O)
structure Ev where
 id : Int
 tx : Int
 ow : ByteArray
 tr : Int
 tb : Int
 kd : Int
 key : Int
 t : ByteArray
def Ev.zero : Ev := ⟨0, 0, ⟨#[]⟩, 0, 0, 0, 0, ⟨#[]⟩⟩
def Ev.cs (e : Ev) : Array Value := #[.int .i64 e.id, .int .i64 e.tx, .string e.ow, .int .i64 e.tr, .int .i64 e.tb, .int .u8 e.kd, .int .i64 e.key, .string e.t]
def ltN (a b : ByteArray) : Bool := Op.bytesLess a.toList b.toList
theorem yqe : ∀ a : List UInt8, Op.bytesLess a a = false
 | [] => rfl
 | x :: t => by
  rw [Op.bytesLess, yqe t]
  simp
theorem yqP : ∀ a b c : List UInt8, Op.bytesLess a b = true -> Op.bytesLess b c = true -> Op.bytesLess a c = true
 | [], [], _, h, _ => by simp [Op.bytesLess] at h
 | [], _ :: _, [], _, h => by simp [Op.bytesLess] at h
 | [], _ :: _, _ :: _, _, _ => by simp [Op.bytesLess]
 | _ :: _, [], _, h, _ => by simp [Op.bytesLess] at h
 | _ :: _, _ :: _, [], _, h => by simp [Op.bytesLess] at h
 | x :: a, y :: b, z :: c, h, k => by
  simp only [Op.bytesLess, Bool.or_eq_true, decide_eq_true_eq, Bool.and_eq_true, beq_iff_eq] at h k ⊢
  rcases h with h | ⟨rfl, h⟩
  ·rcases k with k | ⟨rfl, k⟩
   ·exact .inl (UInt8.lt_trans h k)
   exact .inl h
  rcases k with k | ⟨rfl, k⟩
  ·exact .inl k
  exact .inr ⟨rfl, yqP a b c h k⟩
theorem bl_tri : ∀ a b : List UInt8, Op.bytesLess a b = false -> Op.bytesLess b a = false -> a = b
 | [], [], _, _ => rfl
 | [], _ :: _, h, _ => by simp [Op.bytesLess] at h
 | _ :: _, [], _, h => by simp [Op.bytesLess] at h
 | x :: a, y :: b, h, k => by
  simp only [Op.bytesLess, Bool.or_eq_false_iff, decide_eq_false_iff_not, Bool.and_eq_false_iff, beq_eq_false_iff_ne] at h k
  have e : x = y := by
   have h1 := UInt8.not_lt.1 h.1
   have h2 := UInt8.not_lt.1 k.1
   exact UInt8.le_antisymm h2 h1
  subst e
  have h2 := h.2.resolve_left (fun n => n rfl)
  have k2 := k.2.resolve_left (fun n => n rfl)
  rw [bl_tri a b h2 k2]
theorem bl_asymm {a b : List UInt8} (h : Op.bytesLess a b = true) : Op.bytesLess b a = false := by
 cases k : Op.bytesLess b a with
 | false => rfl
 | true => have := yqP a b a h k; rw [yqe] at this; cases this
theorem toList_inj {a b : ByteArray} (h : a.toList = b.toList) : a = b := by
 rw [ByteArray.toList_eq, ByteArray.toList_eq] at h
 cases a; cases b
 simp only at h
 congr 1
 exact Array.toList_inj.1 h
structure Cu where
 nm : ByteArray
 la : Int
 op : Int
def Cu.cs (x : Cu) : Array Value := #[.string x.nm, .int .i64 x.la, .int .i64 x.op]
def encCu : Enc Cu where
 k := 3
 cs := Cu.cs
 size := fun _ => rfl
 one := fun x u h => by
  simp only [Cu.cs, List.mem_cons, List.not_mem_nil, or_false] at h
  rcases h with rfl | rfl | rfl <;> rfl
 pos := by decide
def Nms (l : List Cu) : Prop := l.Pairwise fun a b => ltN a.nm b.nm = true
def isN (n : ByteArray) (x : Cu) : Bool := x.nm.toList == n.toList
theorem isN_iff {n : ByteArray} {x : Cu} : isN n x = true ↔ x.nm = n := by
 simp only [isN, beq_iff_eq]
 exact ⟨toList_inj, fun h => by rw [h]⟩
def plc (l : List Cu) (n : ByteArray) : Option Nat := l.findIdx? (isN n)
def getC (l : List Cu) (n : ByteArray) : Option Cu := l.find? (isN n)
theorem plc_hit {l : List Cu} {n : ByteArray} {i : Nat} {x : Cu} (hx : l[i]? = some x) (hn : isN n x = true) (hb : ∀ j y, j < i -> l[j]? = some y -> isN n y = false) : plc l n = some i := by
 obtain ⟨hi, rfl⟩ := List.getElem?_eq_some_iff.1 hx
 rw [plc, List.findIdx?_eq_some_iff_getElem]
 refine ⟨hi, hn, fun j hj => ?_⟩
 rw [hb j _ hj (List.getElem?_eq_getElem _)]
 simp
theorem plc_miss {l : List Cu} {n : ByteArray} (hb : ∀ j y, j < l.length -> l[j]? = some y -> isN n y = false) : plc l n = none := by
 rw [plc, List.findIdx?_eq_none_iff]
 intro y hy
 obtain ⟨j, hj, rfl⟩ := List.mem_iff_getElem.1 hy
 exact hb j _ hj (List.getElem?_eq_getElem hj)
theorem xqV {l : List Cu} {n : ByteArray} {i : Nat} (h : plc l n = some i) : ∃ x, l[i]? = some x /\ x.nm = n := by
 obtain ⟨hi, hn, _⟩ := List.findIdx?_eq_some_iff_getElem.1 h
 exact ⟨l[i], List.getElem?_eq_getElem hi, isN_iff.1 hn⟩
theorem plc_none {l : List Cu} {n : ByteArray} (h : plc l n = none) : ∀ x ∈ l, x.nm ≠ n := by
 rw [plc, List.findIdx?_eq_none_iff] at h
 intro x hx e
 have := h x hx
 rw [isN_iff.2 e] at this
 cases this
theorem nms_one {l : List Cu} (h : Nms l) {i j : Nat} {x y : Cu} (hx : l[i]? = some x) (hy : l[j]? = some y) (e : x.nm = y.nm) : i = j := by
 obtain ⟨hi, rfl⟩ := List.getElem?_eq_some_iff.1 hx
 obtain ⟨hj, rfl⟩ := List.getElem?_eq_some_iff.1 hy
 rcases Nat.lt_trichotomy i j with c | c | c
 ·have := List.pairwise_iff_getElem.1 h i j hi hj c
  rw [e, ltN, yqe] at this
  cases this
 ·exact c
 have := List.pairwise_iff_getElem.1 h j i hj hi c
 rw [e, ltN, yqe] at this
 cases this
def insC (x : Cu) : List Cu -> List Cu
 | [] => [x]
 | y :: t => if ltN x.nm y.nm = true then x :: y :: t else y :: insC x t
theorem insC_length (x : Cu) (l : List Cu) : (insC x l).length = l.length + 1 := by
 induction l with
 | nil => rfl
 | cons y t ih =>
 rw [insC]
 split
 ·rfl
 rw [List.length_cons, ih, List.length_cons]
theorem insC_mem (x y : Cu) (l : List Cu) : y ∈ insC x l ↔ y = x ∨ y ∈ l := by
 induction l with
 | nil => simp [insC]
 | cons z t ih =>
 rw [insC]
 split
 ·simp
 rw [List.mem_cons, ih, List.mem_cons]
 constructor
 ·rintro (h | h | h)
  ·exact .inr (.inl h)
  ·exact .inl h
  exact .inr (.inr h)
 rintro (h | h | h)
 ·exact .inr (.inl h)
 ·exact .inl h
 exact .inr (.inr h)
theorem insC_nms {x : Cu} {l : List Cu} (h : Nms l) (hx : ∀ y ∈ l, y.nm ≠ x.nm) : Nms (insC x l) := by
 induction l with
 | nil => exact List.pairwise_singleton _ _
 | cons y t ih =>
 obtain ⟨hy, ht⟩ := List.pairwise_cons.1 h
 rw [insC]
 split
 ·rename_i c
  exact List.pairwise_cons.2 ⟨fun z hz => by
   rcases List.mem_cons.1 hz with rfl | hz
   ·exact c
   ·exact yqP _ _ _ c (hy z hz), h⟩
 rename_i c
 refine List.pairwise_cons.2 ⟨fun z hz => ?_, ih ht (fun z hz => hx z (by simp [hz]))⟩
 rcases (insC_mem x z t).1 hz with rfl | hz
 ·cases k : ltN y.nm z.nm with
  | true => rfl
  | false => exact absurd (toList_inj (bl_tri _ _ k (by simpa [ltN] using c))) (hx y (by simp))
 exact hy z hz
theorem insC_at {x : Cu} {l : List Cu} (h : Nms l) {q : Nat} (hq : q <= l.length) (h1 : ∀ j y, q <= j -> l[j]? = some y -> ltN x.nm y.nm = true) (h2 : ∀ y, 0 < q -> l[q - 1]? = some y -> ltN x.nm y.nm = false) : l.take q ++ x :: l.drop q = insC x l := by
 induction l generalizing q with
 | nil => simp at hq; subst hq; rfl
 | cons y t ih =>
 obtain ⟨hy, ht⟩ := List.pairwise_cons.1 h
 cases q with
 | zero =>
 have := h1 0 y (Nat.le_refl _) rfl
 rw [insC, if_pos this]; rfl
 | succ q =>
 have hyx : ltN x.nm y.nm = false := by
  cases q with
  | zero => exact h2 y (by omega) rfl
  | succ q =>
  cases k : ltN x.nm y.nm with
  | false => rfl
  | true =>
  have hql : q < t.length := by simp at hq; omega
  have e1 : (y :: t)[q + 1 + 1 - 1]? = some t[q] := by rw [show q + 1 + 1 - 1 = q + 1 by omega, List.getElem?_cons_succ, List.getElem?_eq_getElem hql]
  have := h2 t[q] (by omega) e1
  have h3 := yqP _ _ _ k (hy t[q] (List.getElem_mem hql))
  rw [ltN] at this
  rw [this] at h3
  cases h3
 rw [insC, if_neg (by rw [hyx]; decide), List.take_succ_cons, List.drop_succ_cons, List.cons_append]
 congr 1
 refine ih ht (by simpa using hq) (fun j z hj hz => h1 (j + 1) z (by omega) (by simpa using hz)) (fun z hz0 hz => h2 z (by omega) ?_)
 cases q with
 | zero => omega
 | succ q => simpa using hz
def regE (l : List Cu) (n : ByteArray) (at' : Int) : Int :=
 if n.size < 1 ∨ 40 < n.size ∨ at' < 1 then 1 else if (plc l n).isSome then 5 else if 4 <= l.length then 8 else 0
def regL (l : List Cu) (n : ByteArray) (at' : Int) : List Cu := if regE l n at' = 0 then insC ⟨n, at', 0⟩ l else l
def unrE (l : List Cu) (n : ByteArray) : Int := if (plc l n).isSome then 0 else 4
def unrL (l : List Cu) (n : ByteArray) : List Cu := match plc l n with | some i => l.eraseIdx i | none => l
def opnE (l : List Cu) (n : ByteArray) (next : Int) : Int := match getC l n with | none => 4 | some x => if 0 < x.op then 7 else if next <= x.la then 1 else 0
def opnL (l : List Cu) (n : ByteArray) (next : Int) : List Cu := match plc l n, getC l n with | some i, some x => if 0 < x.op ∨ next <= x.la then l else l.set i ⟨n, x.la, next⟩ | _, _ => l
def finE (l : List Cu) (n : ByteArray) : Int := match getC l n with | none => 4 | some x => if x.op = 0 then 7 else 0
def finN (l : List Cu) (n : ByteArray) : Int := match getC l n with | none => 0 | some x => x.op
def finL (l : List Cu) (n : ByteArray) : List Cu := match plc l n, getC l n with | some i, some x => if x.op = 0 then l else l.set i ⟨n, x.op, 0⟩ | _, _ => l
def leaN : List Cu -> Int
 | [] => 0
 | x :: t => t.foldl (fun m y => if y.la < m then y.la else m) x.la
theorem yql {l : List Cu} {n : ByteArray} {i : Nat} {x : Cu} (h : plc l n = some i) (hx : l[i]? = some x) : getC l n = some x := by
 obtain ⟨hi, e⟩ := List.getElem?_eq_some_iff.1 hx
 obtain ⟨_, hn, hb⟩ := List.findIdx?_eq_some_iff_getElem.1 h
 rw [getC, List.find?_eq_some_iff_getElem]
 refine ⟨by rw [<- e]; exact hn, i, hi, e, fun j hj => ?_⟩
 have := hb j hj
 simpa using this
theorem xq0 {l : List Cu} {n : ByteArray} (h : plc l n = none) : getC l n = none := by
 rw [getC, List.find?_eq_none]
 intro x hx e
 exact plc_none h x hx (isN_iff.1 e)
structure OkC (l : List Cu) : Prop where
 nms : Nms l
 few : l.length <= 4
 la1 : ∀ x ∈ l, 1 <= x.la
 op0 : ∀ x ∈ l, 0 <= x.op
 sz : ∀ x ∈ l, 1 <= x.nm.size /\ x.nm.size <= 40
theorem OkC.nil : OkC [] := ⟨List.Pairwise.nil, by simp, by simp, by simp, by simp⟩
theorem nms_set {l : List Cu} (h : Nms l) {i : Nat} {x y : Cu} (hx : l[i]? = some x) (e : y.nm = x.nm) : Nms (l.set i y) := by
 obtain ⟨hi, rfl⟩ := List.getElem?_eq_some_iff.1 hx
 unfold Nms at h ⊢
 rw [List.pairwise_iff_getElem] at h ⊢
 intro a b ha hb hab
 rw [List.length_set] at ha hb
 have hab' := h a b ha hb hab
 rw [List.getElem_set, List.getElem_set]
 split
 ·rename_i h1
  subst h1
  rw [if_neg (by omega), e]
  exact hab'
 split
 ·rename_i h1 h2
  subst h2
  rw [e]
  exact hab'
 exact hab'
theorem OkC.reg {l : List Cu} (h : OkC l) (n : ByteArray) (at' : Int) : OkC (regL l n at') := by
 unfold regL
 split
 ·rename_i h0
  unfold regE at h0
  split at h0
  ·cases h0
  rename_i h1
  split at h0
  ·cases h0
  rename_i h2
  split at h0
  ·cases h0
  rename_i h3
  have hp : plc l n = none := by cases hp : plc l n with | none => rfl | some i => rw [hp] at h2; exact absurd rfl h2
  refine ⟨insC_nms h.nms (fun y hy => plc_none hp y hy), by rw [insC_length]; omega, ?_, ?_, ?_⟩
  all_goals
   intro y hy
   rcases (insC_mem _ y l).1 hy with rfl | hy
  ·show (1 : Int) <= at'; omega
  ·exact h.la1 y hy
  ·show (0 : Int) <= 0; omega
  ·exact h.op0 y hy
  ·show 1 <= n.size /\ n.size <= 40; omega
  exact h.sz y hy
 exact h
theorem OkC.unr {l : List Cu} (h : OkC l) (n : ByteArray) : OkC (unrL l n) := by
 unfold unrL
 split
 ·rename_i i hi
  have hs := List.eraseIdx_sublist l i
  exact ⟨h.nms.sublist hs, Nat.le_trans hs.length_le h.few, fun x hx => h.la1 x (hs.mem hx), fun x hx => h.op0 x (hs.mem hx), fun x hx => h.sz x (hs.mem hx)⟩
 exact h
theorem OkC.put {l : List Cu} (h : OkC l) {i : Nat} {x y : Cu} (hx : l[i]? = some x) (e : y.nm = x.nm) (h1 : 1 <= y.la) (h2 : 0 <= y.op) : OkC (l.set i y) := by
 have hm := List.mem_of_getElem? hx
 refine ⟨nms_set h.nms hx e, by rw [List.length_set]; exact h.few, ?_, ?_, ?_⟩
 all_goals
  intro z hz
  rcases List.mem_or_eq_of_mem_set hz with hz | rfl
 ·exact h.la1 z hz
 ·exact h1
 ·exact h.op0 z hz
 ·exact h2
 ·exact h.sz z hz
 rw [e]; exact h.sz x hm
theorem OkC.opn {l : List Cu} (h : OkC l) (n : ByteArray) (next : Int) : OkC (opnL l n next) := by
 unfold opnL
 split
 ·rename_i i x hi hx
  split
  ·exact h
  rename_i hc
  obtain ⟨y, hy, hyn⟩ := xqV hi
  rw [yql hi hy] at hx
  obtain rfl : y = x := by simpa using hx
  have := h.la1 y (List.mem_of_getElem? hy)
  exact h.put hy hyn.symm this (by show (0 : Int) <= next; omega)
 exact h
theorem OkC.fin {l : List Cu} (h : OkC l) (n : ByteArray) : OkC (finL l n) := by
 unfold finL
 split
 ·rename_i i x hi hx
  split
  ·exact h
  rename_i hc
  obtain ⟨y, hy, hyn⟩ := xqV hi
  rw [yql hi hy] at hx
  obtain rfl : y = x := by simpa using hx
  have := h.op0 y (List.mem_of_getElem? hy)
  exact h.put hy hyn.symm (by show (1 : Int) <= y.op; omega) (by show (0 : Int) <= 0; omega)
 exact h
theorem leaN_step {l : List Cu} {i : Nat} {x : Cu} (hx : l[i]? = some x) : leaN (l.take (i + 1)) = if i = 0 ∨ x.la < leaN (l.take i) then x.la else leaN (l.take i) := by
 cases l with
 | nil => simp at hx
 | cons y t =>
 cases i with
 | zero => simp at hx; subst hx; simp [leaN]
 | succ i =>
 rw [List.getElem?_cons_succ] at hx
 rw [List.take_succ_cons, List.take_succ_cons, leaN, leaN, List.take_add_one, hx, List.foldl_append]
 simp
structure It where
 a : Int
 e : Ev
def It.cs (x : It) : Array Value := #[.int .i64 x.a, .int .i64 x.e.id, .int .i64 x.e.tx, .string x.e.ow, .int .i64 x.e.tr, .int .i64 x.e.tb, .int .u8 x.e.kd, .int .i64 x.e.key, .string x.e.t]
def encIt : Enc It where
 k := 9
 cs := It.cs
 size := fun _ => rfl
 one := fun x u h => by
  simp only [It.cs, List.mem_cons, List.not_mem_nil, or_false] at h
  rcases h with rfl | rfl | rfl | rfl | rfl | rfl | rfl | rfl | rfl <;> rfl
 pos := by decide
def ltI (x y : It) : Bool := decide (x.a < y.a) || (decide (x.a = y.a) && (decide (x.e.id < y.e.id) || (decide (x.e.id = y.e.id) && ltN x.e.ow y.e.ow)))
theorem ltI_iff {x y : It} : ltI x y = true ↔ x.a < y.a ∨ (x.a = y.a /\ (x.e.id < y.e.id ∨ (x.e.id = y.e.id /\ ltN x.e.ow y.e.ow = true))) := by
 simp only [ltI, Bool.or_eq_true, Bool.and_eq_true, decide_eq_true_eq]
theorem ltI_ord : Ord ltI where
 irr := fun a => by
  cases h : ltI a a with
  | false => rfl
  | true =>
  rw [ltI_iff, ltN, yqe] at h
  simp at h
 tr := fun a b c h k => by
  rw [ltI_iff] at h k ⊢
  rcases h with h | ⟨h1, h⟩
  ·rcases k with k | ⟨k1, k⟩
   ·exact .inl (by omega)
   exact .inl (by omega)
  ·rcases k with k | ⟨k1, k⟩
   ·exact .inl (by omega)
   refine .inr ⟨by omega, ?_⟩
   rcases h with h | ⟨h2, h⟩
   ·rcases k with k | ⟨k2, k⟩
    ·exact .inl (by omega)
    exact .inl (by omega)
   rcases k with k | ⟨k2, k⟩
   ·exact .inl (by omega)
   exact .inr ⟨by omega, yqP _ _ _ h k⟩
theorem ltI_tri {x y : It} (h : ltI x y = false) (k : ltI y x = false) : x.a = y.a /\ x.e.id = y.e.id /\ x.e.ow = y.e.ow := by
 have h' : ¬ (ltI x y = true) := by rw [h]; decide
 have k' : ¬ (ltI y x = true) := by rw [k]; decide
 rw [ltI_iff] at h' k'
 have e1 : x.a = y.a := by
  rcases Int.lt_trichotomy x.a y.a with c | c | c
  ·exact absurd (.inl c) h'
  ·exact c
  exact absurd (.inl c) k'
 have e2 : x.e.id = y.e.id := by
  rcases Int.lt_trichotomy x.e.id y.e.id with c | c | c
  ·exact absurd (.inr ⟨e1, .inl c⟩) h'
  ·exact c
  exact absurd (.inr ⟨e1.symm, .inl c⟩) k'
 refine ⟨e1, e2, toList_inj (bl_tri _ _ ?_ ?_)⟩
 ·cases c : Op.bytesLess x.e.ow.toList y.e.ow.toList with
  | false => rfl
  | true => exact absurd (.inr ⟨e1, .inr ⟨e2, c⟩⟩) h'
 cases c : Op.bytesLess y.e.ow.toList x.e.ow.toList with
 | false => rfl
 | true => exact absurd (.inr ⟨e1.symm, .inr ⟨e2.symm, c⟩⟩) k'
def isK (id : Int) (ow : ByteArray) (x : It) : Bool := (x.e.id == id) && (x.e.ow.toList == ow.toList)
theorem isK_iff {id : Int} {ow : ByteArray} {x : It} : isK id ow x = true ↔ x.e.id = id /\ x.e.ow = ow := by
 simp only [isK, Bool.and_eq_true, beq_iff_eq]
 exact ⟨fun ⟨h1, h2⟩ => ⟨h1, toList_inj h2⟩, fun ⟨h1, h2⟩ => ⟨h1, by rw [h2]⟩⟩
def trN (n : Int) : Int := if n < 2147483647 then n + 1 else n
def addX (e : Ev) (ow : ByteArray) (at' : Int) : It := ⟨at', ⟨e.id, e.tx, ow, trN e.tr, e.tb, e.kd, e.key, e.t⟩⟩
def adiE (l : List It) (id : Int) (ow : ByteArray) : Int := if ow.size < 1 then 1 else if l.any (isK id ow) then 5 else if 16 <= l.length then 8 else 0
def adiL (l : List It) (e : Ev) (ow : ByteArray) (at' : Int) : List It := if adiE l e.id ow = 0 then insG ltI (addX e ow at') l else l
def dueI (l : List It) (now : Int) : List It := l.filter fun x => decide (x.a <= now)
def lftI (l : List It) (now : Int) : List It := l.filter fun x => !decide (x.a <= now)
def drpI (l : List It) (ow : ByteArray) : List It := l.filter fun x => !(x.e.ow.toList == ow.toList)
structure OkI (l : List It) : Prop where
 rise : Rise ltI l
 uniq : l.Pairwise fun x y => ¬ (x.e.id = y.e.id /\ x.e.ow = y.e.ow)
 few : l.length <= 16
theorem OkI.nil : OkI [] := ⟨List.Pairwise.nil, List.Pairwise.nil, by simp⟩
theorem OkI.sub {l m : List It} (h : OkI l) (hs : m.Sublist l) : OkI m := ⟨h.rise.sublist hs, h.uniq.sublist hs, Nat.le_trans hs.length_le h.few⟩
theorem OkI.lft {l : List It} (h : OkI l) (now : Int) : OkI (lftI l now) := h.sub List.filter_sublist
theorem OkI.drp {l : List It} (h : OkI l) (ow : ByteArray) : OkI (drpI l ow) := h.sub List.filter_sublist
theorem adiE_zero {l : List It} {id : Int} {ow : ByteArray} (h : adiE l id ow = 0) : 1 <= ow.size /\ (∀ x ∈ l, ¬ (x.e.id = id /\ x.e.ow = ow)) /\ l.length < 16 := by
 unfold adiE at h
 split at h
 ·cases h
 rename_i h1
 split at h
 ·cases h
 rename_i h2
 split at h
 ·cases h
 rename_i h3
 refine ⟨by omega, fun x hx hc => h2 ?_, by omega⟩
 rw [List.any_eq_true]
 exact ⟨x, hx, isK_iff.2 hc⟩
theorem OkI.add {l : List It} (h : OkI l) (e : Ev) (ow : ByteArray) (at' : Int) : OkI (adiL l e ow at') := by
 unfold adiL
 split
 ·rename_i h0
  obtain ⟨_, h2, h3⟩ := adiE_zero h0
  refine ⟨insG_rise ltI_ord h.rise (fun y hy hc => ?_), insG_pairwise h.uniq (fun y hy => ⟨fun hc => h2 y hy ⟨hc.1.symm, hc.2.symm⟩, fun hc => h2 y hy hc⟩), by rw [insG_length]; omega⟩
  cases hk : ltI y (addX e ow at') with
  | true => rfl
  | false =>
  obtain ⟨_, e2, e3⟩ := ltI_tri hc hk
  exact absurd ⟨e2.symm, e3.symm⟩ (h2 y hy)
 exact h
theorem due_cut {l : List It} (h : Rise ltI l) (now : Int) : Cutp (fun x : It => decide (x.a <= now)) l := by
 refine List.Pairwise.imp (fun {x y} hxy => ?_) h
 intro hy
 have := ltI_iff.1 hxy
 simp only [decide_eq_true_eq] at hy ⊢
 omega
theorem due_take {l : List It} (h : Rise ltI l) (now : Int) : l.take (dueI l now).length = dueI l now /\ l.drop (dueI l now).length = lftI l now := by
 have hc : (dueI l now).length = l.countP fun x => decide (x.a <= now) := by rw [dueI, List.countP_eq_length_filter]
 rw [hc]
 exact cut_take (due_cut h now)
theorem due_stop {l : List It} (h : Rise ltI l) {now : Int} {i : Nat} (h1 : ∀ j y, j < i -> l[j]? = some y -> y.a <= now) (h2 : ∀ y, l[i]? = some y -> ¬ y.a <= now) (hi : i <= l.length) : (dueI l now).length = i := by
 have hc : (dueI l now).length = l.countP fun x => decide (x.a <= now) := by rw [dueI, List.countP_eq_length_filter]
 obtain ⟨s1, s2⟩ := cut_spec (due_cut h now)
 rw [hc]
 rcases Nat.lt_trichotomy (l.countP fun x => decide (x.a <= now)) i with c | c | c
 ·obtain ⟨y, hy⟩ : ∃ y, l[l.countP fun x => decide (x.a <= now)]? = some y := ⟨_, List.getElem?_eq_getElem (by omega)⟩
  have := s2 _ y (Nat.le_refl _) hy
  have h3 := h1 _ y c hy
  simp at this
  omega
 ·exact c
 have hil : i < l.length := Nat.lt_of_lt_of_le c List.countP_le_length
 have h3 := s1 i l[i] c (List.getElem?_eq_getElem hil)
 have h4 := h2 l[i] (List.getElem?_eq_getElem hil)
 simp at h3
 omega
def encEv : Enc Ev where
 k := 8
 cs := Ev.cs
 size := fun _ => rfl
 one := fun x u h => by
  simp only [Ev.cs, List.mem_cons, List.not_mem_nil, or_false] at h
  rcases h with rfl | rfl | rfl | rfl | rfl | rfl | rfl | rfl <;> rfl
 pos := by decide
variable {α : Type} {E : Enc α}
theorem RdK.fo {w w' : World} {v : Value} {l : List α} {O : Nat -> Prop} (h : RdK E w v l) (hf : Fo O w w') (hb : ∀ b, v.ownBlock = some b -> ¬ O b) : RdK E w' v l := by
 obtain ⟨a, c, rfl, hc, ha, hl⟩ := h
 refine ⟨a, c, rfl, hc, ha, fun hne => ?_⟩
 obtain ⟨b, o, rfl, hcell⟩ := hl hne
 refine ⟨b, o, rfl, fun j hj => ?_⟩
 obtain ⟨u, hu⟩ := kcs_some E l j hj
 have h1 := hcell j hj
 rw [hu] at h1 ⊢
 exact (World.cell?_of_block (hf.block b (World.block_lt_of_cell? w _ h1) (hb b rfl))).trans h1
def xqJ (h : Nat) (V : Value) : Nat -> Prop := fun k => k = h ∨ V.ownBlock = some k
variable (E) in
structure Ls (T e : TypeId) (w : World) (B h : Nat) (V : Value) (l : List α) : Prop where
 hh : w.heap[h]? = some (.cells #[V] T (0, 0))
 bh : B <= h
 hT : T ≠ e
 own : OwnK E w B e V l
variable {T e : TypeId} {w w' : World} {B h : Nat} {V : Value} {l : List α}
theorem Ls.cell (a : Ls E T e w B h V l) : w.cell? ⟨h, 0, none⟩ = some V /\ w.frozen? ⟨h, 0, none⟩ = false :=
 ⟨by rw [cell_of_row _ _ _ _ _ _ a.hh]; rfl, frozen_of_row _ _ _ _ _ a.hh⟩
theorem Ls.lt (a : Ls E T e w B h V l) : ∀ k, xqJ h V k -> B <= k /\ k < w.heap.size := by
 rintro k (rfl | hk)
 ·exact ⟨a.bh, xqh a.hh⟩
 exact a.own.lt k hk
theorem Ls.size (a : Ls E T e w B h V l) : B <= w.heap.size := by have := xqh a.hh; have := a.bh; omega
theorem Ls.shape (a : Ls E T e w B h V l) : ∃ u c, V = .slice u l.length c := a.own.shape
theorem Ls.apart (a : Ls E T e w B h V l) : V.ownBlock ≠ some h := a.own.apart a.hh a.hT
theorem Ls.fo (a : Ls E T e w B h V l) {O : Nat -> Prop} (hf : Fo O w w') (hd : ∀ k, xqJ h V k -> ¬ O k) : Ls E T e w' B h V l :=
 ⟨hf.heap (hd h (.inl rfl)) a.hh, a.bh, a.hT, a.own.fo hf (fun g hg => hd g (.inr hg))⟩
theorem Ls.keep (a : Ls E T e w B h V l) (hk : Kept w w' []) : Ls E T e w' B h V l := a.fo (Fo.ofKept hk (fun _ => False)) (fun _ _ h => h)
theorem Ls.lay (a : Ls E T e w B h V l) {w1 : World} (f : Fo (fun k => V.ownBlock = some k) w w1) {v : Value} {m : List α} (x : OwnK E w1 B e v m) (hv : ∀ k, v.ownBlock = some k -> V.ownBlock = some k ∨ w.heap.size <= k) :
 (w1.cell? ⟨h, 0, none⟩ = some V /\ w1.frozen? ⟨h, 0, none⟩ = false) /\ Ls E T e (w1.setCell ⟨h, 0, none⟩ v) B h v m /\ Stp (xqJ h V) (xqJ h v) w (w1.setCell ⟨h, 0, none⟩ v) := by
 have hh : w1.heap[h]? = _ := f.heap a.apart a.hh
 have f2 : Fo (xqJ h V) w w1 := f.mono (fun k hk => .inr hk)
 have f3 : Fo (fun k => k = h) w1 (w1.setCell ⟨h, 0, none⟩ v) := Fo.setCell (O := fun k => k = h) (Fo.refl _ w1) (p := ⟨h, 0, none⟩) (.inl rfl) v
 have hvh : v.ownBlock ≠ some h := by
  intro hk
  rcases hv h hk with h1 | h1
  ·exact a.apart h1
  have := xqh a.hh; omega
 refine ⟨⟨by rw [cell_of_row _ _ _ _ _ _ hh]; rfl, frozen_of_row _ _ _ _ _ hh⟩, ⟨?_, a.bh, a.hT, x.fo f3 (fun g hg e => by subst e; exact hvh hg)⟩, f2.setCell (.inl (.inl rfl)) v, ?_⟩
 ·rw [xqb hh]
  rfl
 ·rintro k (rfl | hk)
  ·exact .inl (.inl rfl)
  exact (hv k hk).imp (fun h => .inr h) id
theorem Ls.hit (a : Ls E T e w B h V l) {i : Nat} {x : α} (hx : l[i]? = some x) : ∃ g c, V = .slice (some ⟨g, 0, none⟩) l.length c := by
 obtain ⟨u, c, e⟩ := a.shape
 have o1 := a.own
 rw [e] at o1
 obtain ⟨g, rfl, _⟩ := o1.at hx
 exact ⟨g, c, e⟩
theorem Stp.ofK {O : Nat -> Prop} {a b : World} (h : Kept a b []) : Stp O O a b := ⟨Fo.ofKept h O, fun _ h => .inl h⟩
theorem Stp.afterK {O O1 : Nat -> Prop} {a b c : World} (h : Kept a b []) (k : Stp O O1 b c) : Stp O O1 a c := (Stp.ofK h).trans k
theorem Kept.foC {O : Nat -> Prop} {a b c : World} (k : Kept a b []) (f : Fo O b c) (hB : ∀ k, O k -> a.heap.size <= k) : Kept a c [] :=
 ⟨f.os.trans k.os, f.tape.trans k.tape, f.output.trans k.output, Nat.le_trans k.size f.size, fun i hi _ => (f.block i (Nat.lt_of_lt_of_le hi k.size) (fun ho => by have := hB i ho; omega)).trans (k.block i hi (by simp))⟩
variable {α : Type} {E : Enc α}
theorem getElem?_set_here {R : List Value} {o : Nat} {V : Value} (h : R[o]? = some V) (v : Value) : (R.set o v)[o]? = some v := by
 rw [List.getElem?_set_self (List.getElem?_eq_some_iff.1 h).1]
variable (E) in
structure Lw (T e : TypeId) (w : World) (B h o : Nat) (R : List Value) (V : Value) (l : List α) : Prop where
 hh : w.heap[h]? = some (.cells R.toArray T (0, 0))
 ho : R[o]? = some V
 bh : B <= h
 hT : T ≠ e
 own : OwnK E w B e V l
variable (E) in
structure Lo (T e : TypeId) (w : World) (B h o : Nat) (R : List Value) (V : Value) (l : List α) : Prop where
 hh : w.heap[h]? = some (.cells R.toArray T (0, 0))
 ho : R[o]? = some V
 bh : B <= h
 hT : T ≠ e
 rd : RdK E w V l
 tag : ∀ k, V.ownBlock = some k -> B <= k /\ ∃ cur, w.heap[k]? = some (.cells cur e (0, 0))
variable {T e : TypeId} {w w' : World} {B h o : Nat} {R : List Value} {V : Value} {l : List α}
theorem Lw.cell (a : Lw E T e w B h o R V l) : w.cell? ⟨h, o, none⟩ = some V /\ w.frozen? ⟨h, o, none⟩ = false :=
 ⟨by rw [cell_of_row _ _ _ _ _ _ a.hh]; simpa using a.ho, frozen_of_row _ _ _ _ _ a.hh⟩
theorem Lw.size (a : Lw E T e w B h o R V l) : B <= w.heap.size := by have := xqh a.hh; have := a.bh; omega
theorem Lw.shape (a : Lw E T e w B h o R V l) : ∃ u c, V = .slice u l.length c := a.own.shape
theorem Lw.apart (a : Lw E T e w B h o R V l) : V.ownBlock ≠ some h := a.own.apart a.hh a.hT
theorem Lw.fo (a : Lw E T e w B h o R V l) {O : Nat -> Prop} (hf : Fo O w w') (hd : ∀ k, xqJ h V k -> ¬ O k) : Lw E T e w' B h o R V l :=
 ⟨hf.heap (hd h (.inl rfl)) a.hh, a.ho, a.bh, a.hT, a.own.fo hf (fun g hg => hd g (.inr hg))⟩
theorem Lw.keep (a : Lw E T e w B h o R V l) (hk : Kept w w' []) : Lw E T e w' B h o R V l := a.fo (Fo.ofKept hk (fun _ => False)) (fun _ _ h => h)
theorem Lw.lay (a : Lw E T e w B h o R V l) {w1 : World} (f : Fo (fun k => V.ownBlock = some k) w w1) {v : Value} {m : List α} (x : OwnK E w1 B e v m) (hv : ∀ k, v.ownBlock = some k -> V.ownBlock = some k ∨ w.heap.size <= k) :
 (w1.cell? ⟨h, o, none⟩ = some V /\ w1.frozen? ⟨h, o, none⟩ = false) /\ Lw E T e (w1.setCell ⟨h, o, none⟩ v) B h o (R.set o v) v m /\ Stp (xqJ h V) (xqJ h v) w (w1.setCell ⟨h, o, none⟩ v) := by
 have hh : w1.heap[h]? = _ := f.heap a.apart a.hh
 have f2 : Fo (xqJ h V) w w1 := f.mono (fun k hk => .inr hk)
 have f3 : Fo (fun k => k = h) w1 (w1.setCell ⟨h, o, none⟩ v) := Fo.setCell (O := fun k => k = h) (Fo.refl _ w1) (p := ⟨h, o, none⟩) (.inl rfl) v
 have hvh : v.ownBlock ≠ some h := by
  intro hk
  rcases hv h hk with h1 | h1
  ·exact a.apart h1
  have := xqh a.hh; omega
 refine ⟨⟨by rw [cell_of_row _ _ _ _ _ _ hh]; simpa using a.ho, frozen_of_row _ _ _ _ _ hh⟩, ⟨?_, getElem?_set_here a.ho v, a.bh, a.hT, x.fo f3 (fun g hg e => by subst e; exact hvh hg)⟩, f2.setCell (.inl (.inl rfl)) v, ?_⟩
 ·rw [xqb hh, List.setIfInBounds_toArray]
 ·rintro k (rfl | hk)
  ·exact .inl (.inl rfl)
  exact (hv k hk).imp (fun h => .inr h) id
theorem Lo.cell (a : Lo E T e w B h o R V l) : w.cell? ⟨h, o, none⟩ = some V /\ w.frozen? ⟨h, o, none⟩ = false :=
 ⟨by rw [cell_of_row _ _ _ _ _ _ a.hh]; simpa using a.ho, frozen_of_row _ _ _ _ _ a.hh⟩
theorem Lo.lt (a : Lo E T e w B h o R V l) : ∀ k, xqJ h V k -> B <= k /\ k < w.heap.size := by
 rintro k (rfl | hk)
 ·exact ⟨a.bh, xqh a.hh⟩
 obtain ⟨h1, cur, h2⟩ := a.tag k hk
 exact ⟨h1, xqh h2⟩
theorem Lo.size (a : Lo E T e w B h o R V l) : B <= w.heap.size := by have := xqh a.hh; have := a.bh; omega
theorem Lo.shape (a : Lo E T e w B h o R V l) : ∃ u c, V = .slice u l.length c := a.rd.shape
theorem Lo.fo (a : Lo E T e w B h o R V l) {O : Nat -> Prop} (hf : Fo O w w') (hd : ∀ k, xqJ h V k -> ¬ O k) : Lo E T e w' B h o R V l :=
 ⟨hf.heap (hd h (.inl rfl)) a.hh, a.ho, a.bh, a.hT, a.rd.fo hf (fun g hg => hd g (.inr hg)), fun k hk => by
  obtain ⟨h1, cur, h2⟩ := a.tag k hk
  exact ⟨h1, cur, hf.heap (hd k (.inr hk)) h2⟩⟩
theorem Lo.keep (a : Lo E T e w B h o R V l) (hk : Kept w w' []) : Lo E T e w' B h o R V l := a.fo (Fo.ofKept hk (fun _ => False)) (fun _ _ h => h)
theorem Lo.lay (a : Lo E T e w B h o R V l) {w1 : World} (k1 : Kept w w1 []) {v : Value} {m : List α} (x : RdK E w1 v m) (ht : ∀ k, v.ownBlock = some k -> B <= k /\ ∃ cur, w1.heap[k]? = some (.cells cur e (0, 0))) (hv : ∀ k, v.ownBlock = some k -> V.ownBlock = some k ∨ w.heap.size <= k) :
 (w1.cell? ⟨h, o, none⟩ = some V /\ w1.frozen? ⟨h, o, none⟩ = false) /\ Lo E T e (w1.setCell ⟨h, o, none⟩ v) B h o (R.set o v) v m /\ Stp (xqJ h V) (xqJ h v) w (w1.setCell ⟨h, o, none⟩ v) := by
 have hh : w1.heap[h]? = _ := k1.heap (by simp) a.hh
 have f2 : Fo (xqJ h V) w w1 := Fo.ofKept k1 _
 have f3 : Fo (fun k => k = h) w1 (w1.setCell ⟨h, o, none⟩ v) := Fo.setCell (O := fun k => k = h) (Fo.refl _ w1) (p := ⟨h, o, none⟩) (.inl rfl) v
 have hvh : v.ownBlock ≠ some h := by
  intro hk
  obtain ⟨_, cur, h2⟩ := ht h hk
  rw [hh] at h2
  simp only [Option.some.injEq, Obj.cells.injEq] at h2
  exact a.hT h2.2.1
 have hn : ∀ k, v.ownBlock = some k -> ¬ k = h := fun k hk e => hvh (by rw [<- e]; exact hk)
 refine ⟨⟨by rw [cell_of_row _ _ _ _ _ _ hh]; simpa using a.ho, frozen_of_row _ _ _ _ _ hh⟩, ⟨?_, getElem?_set_here a.ho v, a.bh, a.hT, x.fo f3 hn, fun k hk => ?_⟩, f2.setCell (.inl (.inl rfl)) v, ?_⟩
 ·rw [xqb hh, List.setIfInBounds_toArray]
 ·obtain ⟨h1, cur, h2⟩ := ht k hk
  exact ⟨h1, cur, f3.heap (hn k hk) h2⟩
 ·rintro k (rfl | hk)
  ·exact .inl (.inl rfl)
  exact (hv k hk).imp (fun h => .inr h) id
theorem Lo.layNew (a : Lo E T e w B h o R V l) {w1 : World} (k1 : Kept w w1 []) {v : Value} {m : List α} (x : OwnK E w1 w.heap.size e v m) :
 (w1.cell? ⟨h, o, none⟩ = some V /\ w1.frozen? ⟨h, o, none⟩ = false) /\ Lo E T e (w1.setCell ⟨h, o, none⟩ v) B h o (R.set o v) v m /\ Stp (xqJ h V) (xqJ h v) w (w1.setCell ⟨h, o, none⟩ v) :=
 a.lay k1 x.rd (fun k hk => ⟨Nat.le_trans a.size (x.lt k hk).1, x.tag hk⟩) (fun k hk => .inr (x.lt k hk).1)
theorem set_self {R : List Value} {o : Nat} {V : Value} (h : R[o]? = some V) : R.set o V = R := by
 obtain ⟨hi, e⟩ := List.getElem?_eq_some_iff.1 h
 rw [<- e, List.set_getElem_self]
theorem Lw.self (a : Lw E T e w B h o R V l) : Lw E T e w B h o (R.set o V) V l := by rw [set_self a.ho]; exact a
theorem Lo.self (a : Lo E T e w B h o R V l) : Lo E T e w B h o (R.set o V) V l := by rw [set_self a.ho]; exact a
theorem Lo.hit (a : Lo E T e w B h o R V l) {i : Nat} {x : α} (hx : l[i]? = some x) : ∃ g og c, V = .slice (some ⟨g, og, none⟩) l.length c := by
 obtain ⟨u, c, e⟩ := a.shape
 have o1 := a.rd
 rw [e] at o1
 obtain ⟨g, og, rfl, _⟩ := o1.at hx
 exact ⟨g, og, c, e⟩
theorem foldl_push (l : List UInt8) : ∀ (s : ByteArray), ((l.map fun b => (b.toNat : Int)).foldl (fun r n => r.push (UInt8.ofNat n.toNat)) s).data.toList = s.data.toList ++ l := by
 induction l with
 | nil => intro s; simp
 | cons b r ih =>
 intro s
 rw [List.map_cons, List.foldl_cons, ih]
 simp [ByteArray.push]
theorem run_str {P : Program} (w : World) (src dst e : TypeId) (hs : P.underlying src = some (.slice e)) (he : P.underlying e = some (.int .u8)) (hd : P.underlying dst = some .string) (a : Addr) (c : Nat) (l : List UInt8) (n : Nat) (hn : n = l.length) (h : ∀ j u, (bc l)[j]? = some u -> w.cell? (a.add j) = some u) :
 (convert src dst (.slice (some a) n c)).run P w = .ok (.string ⟨l.toArray⟩) w := by
 subst hn
 have hl : (loadCells a l.length).run P w = .ok (bc l).toArray w := by
  have := run_loadCells_list (P := P) w a (bc l) h
  rwa [bc_length] at this
 have hm : (bc l).toArray = ((l.map fun b => (b.toNat : Int)).map (Value.int .u8)).toArray := by simp [bc]
 rw [run_convert_bytes_string w src dst e _ _ _ hs he hd, run_bytesToString w a l.length c (l.map fun b => (b.toNat : Int)) (by rw [hl, hm])]
 congr 2
 have h2 := foldl_push l ByteArray.empty
 generalize (l.map fun b => (b.toNat : Int)).foldl (fun r n => r.push (UInt8.ofNat n.toNat)) ByteArray.empty = s at h2
 cases s with
 | mk d =>
  congr 1
  apply Array.ext'
  simpa using h2
def bN (x : Int) : ByteArray := ⟨#[UInt8.ofNat x.toNat]⟩
theorem bc_one8 {x : Int} (h0 : 0 <= x) (h1 : x < 256) : bc [UInt8.ofNat x.toNat] = [.int .u8 x] := by
 have := bc_nat (n := x.toNat) (by omega)
 rw [this, Int.toNat_of_nonneg h0]
theorem str1 {x : Int} (h0 : 0 <= x) (h1 : x < 256) (w : World) (g : Nat) (hg : w.heap.size = g) : (convert 104 9 (.slice (some ⟨g, 0, none⟩) 1 1)).run Tryz.prog (w.alloc (.cells #[.int .u8 x] 5)) = .ok (.string (bN x)) (w.alloc (.cells #[.int .u8 x] 5)) := by
 subst hg
 refine run_str (P := Tryz.prog) _ 104 9 5 Tryz.underlying104 Tryz.underlying5 Tryz.underlying9 _ 1 [UInt8.ofNat x.toNat] 1 rfl (fun j u hu => ?_)
 rw [bc_one8 h0 h1] at hu
 rw [Addr.add_lit, cell_of_row _ _ _ _ _ _ (heap_alloc_new w _), Nat.zero_add]
 simpa using hu
end Go.Proofs.YticiofkiffgclaaGreat
