/-
 Evl, Sta, Soa, Sob, Soc in one text.
-/
import Derived.Test.YticiofkiffgclaaGreatQu2
import Derived.Sort.LotA
import Derived.Test.YticiofkiffgclaaGreatProg
import Derived.Shelf.SlSortCmp.KitK
import Derived.Sort.WalkB2
import Derived.Sort.WalkB12
import Derived.Deep.LoopGhost
import Derived.Lib.Hide
import Derived.Test.YticiofkiffgclaaGreatQu0
set_option linter.unusedVariables false
set_option maxHeartbeats 16000000
set_option maxRecDepth 100000
namespace Go.Proofs.YticiofkiffgclaaGreat
open Go.RowKit
theorem Ev.cs_size (e : Ev) : e.cs.size = 8 := rfl
def ecs : List Ev -> List Value
 | [] => []
 | e :: t => e.cs.toList ++ ecs t
theorem xqE (l : List Ev) : (ecs l).length = l.length * 8 := by
 induction l with
 | nil => rfl
 | cons e t ih =>
 rw [ecs, List.length_append, ih, List.length_cons, Array.length_toList, Ev.cs_size]
 omega
theorem xqB (l m : List Ev) : ecs (l ++ m) = ecs l ++ ecs m := by
 induction l with
 | nil => rfl
 | cons e t ih => rw [List.cons_append, ecs, ecs, ih, List.append_assoc]
theorem ecs_one (l : List Ev) : ∀ u ∈ ecs l, u.oneCell' = true := by
 induction l with
 | nil => intro u hu; simp [ecs] at hu
 | cons e t ih =>
 intro u hu
 rcases List.mem_append.1 hu with h | h
 ·simp only [Ev.cs, List.mem_cons, List.not_mem_nil, or_false] at h
  rcases h with rfl | rfl | rfl | rfl | rfl | rfl | rfl | rfl <;> rfl
 exact ih u h
theorem ecs_get (l : List Ev) : ∀ (i j : Nat) (h : i < l.length), j < 8 -> (ecs l)[i * 8 + j]? = (l[i]).cs[j]? := by
 induction l with
 | nil => intro i j h; simp at h
 | cons e t ih =>
 intro i j h hj
 rw [ecs]
 cases i with
 | zero =>
 rw [Nat.zero_mul, Nat.zero_add, List.getElem?_append_left (by rw [Array.length_toList, Ev.cs_size]; exact hj), Array.getElem?_toList]
 rfl
 | succ i =>
 rw [List.getElem?_append_right (by rw [Array.length_toList, Ev.cs_size]; omega), Array.length_toList, Ev.cs_size, show (i + 1) * 8 + j - 8 = i * 8 + j by omega]
 exact ih i j (by simpa using h) hj
theorem ecs_set (l : List Ev) : ∀ (i : Nat) (e : Ev), i < l.length -> ecs (l.set i e) = (ecs l).take (i * 8) ++ e.cs.toList ++ (ecs l).drop (i * 8 + 8) := by
 induction l with
 | nil => intro i e h; simp at h
 | cons a t ih =>
 intro i e h
 have ha : a.cs.toList.length = 8 := rfl
 cases i with
 | zero =>
 rw [List.set_cons_zero, ecs, ecs, Nat.zero_mul, Nat.zero_add, List.take_zero, List.nil_append, List.drop_append_of_le_length (by omega), List.drop_of_length_le (by omega), List.nil_append]
 | succ i =>
 rw [List.set_cons_succ, ecs, ecs, ih i e (by simpa using h), show (i + 1) * 8 = 8 + i * 8 by omega, List.take_append, ha, List.take_of_length_le (l := a.cs.toList) (by omega), show 8 + i * 8 - 8 = i * 8 by omega, show 8 + i * 8 + 8 = 8 + (i * 8 + 8) by omega, List.drop_append, ha, List.drop_of_length_le (l := a.cs.toList) (by omega), List.nil_append, show 8 + (i * 8 + 8) - 8 = i * 8 + 8 by omega]
 simp
def RdE (w : World) (v : Value) (l : List Ev) : Prop :=
 ∃ a c, v = .slice a l.length c /\ l.length <= c /\ (a = none -> c = 0) /\
  (l ≠ [] -> ∃ b o, a = some ⟨b, o, none⟩ /\ ∀ k, k < l.length * 8 -> w.cell? ⟨b, o + k, none⟩ = (ecs l)[k]?)
theorem RdE.nil (w : World) : RdE w (.slice none 0 0) [] := ⟨none, 0, rfl, Nat.le_refl _, fun _ => rfl, fun h => absurd rfl h⟩
theorem ecs_some (l : List Ev) (k : Nat) (h : k < l.length * 8) : ∃ u, (ecs l)[k]? = some u := ⟨_, List.getElem?_eq_getElem (by rw [xqE]; exact h)⟩
theorem RdE.kept {w w' : World} {v : Value} {l : List Ev} {bs : List Nat} (h : RdE w v l) (hk : Kept w w' bs) (hb : ∀ b, v.ownBlock = some b -> b ∉ bs) : RdE w' v l := by
 obtain ⟨a, c, rfl, hc, ha, hl⟩ := h
 refine ⟨a, c, rfl, hc, ha, fun hne => ?_⟩
 obtain ⟨b, o, rfl, hcell⟩ := hl hne
 refine ⟨b, o, rfl, fun k hk' => ?_⟩
 obtain ⟨u, hu⟩ := ecs_some l k hk'
 have h1 := hcell k hk'
 rw [hu] at h1 ⊢
 exact hk.cell (p := ⟨b, o + k, none⟩) (hb b rfl) h1
theorem RdE.shape3 {w : World} {v : Value} {l : List Ev} (h : RdE w v l) : ∃ a c, v = .slice a l.length c := by
 obtain ⟨a, c, h, _⟩ := h
 exact ⟨a, c, h⟩
theorem RdE.at {w : World} {a : Option Addr} {n c : Nat} {l : List Ev} (h : RdE w (.slice a n c) l) (i : Nat) (hi : i < l.length) : ∃ b o, a = some ⟨b, o, none⟩ /\ ∀ j, j < 8 -> w.cell? ⟨b, o + i * 8 + j, none⟩ = (l[i]).cs[j]? := by
 obtain ⟨a', c', hv, _, _, hl⟩ := h
 simp only [Value.slice.injEq] at hv
 obtain ⟨rfl, _, _⟩ := hv
 obtain ⟨b, o, rfl, hcell⟩ := hl (by rintro rfl; simp at hi)
 refine ⟨b, o, rfl, fun j hj => ?_⟩
 rw [<- ecs_get l i j hi hj, Nat.add_assoc]
 exact hcell _ (by omega)
theorem RdE.src {P : Program} {w : World} {v : Value} {l : List Ev} (h : RdE w v l) {tx e' : TypeId} (hk : P.underlying tx = some (.slice e')) : Src P 8 tx v l.length (ecs l) w := by
 obtain ⟨a, c, rfl, hc, ha, hl⟩ := h
 by_cases hne : l = []
 ·subst hne
  cases a with
  | none => obtain rfl := ha rfl; exact Src.ofNil w hk 0
  | some x => exact Src.ofSlice w hk x 0 c [] rfl (by simp) (by simp)
 obtain ⟨b, o, rfl, hcell⟩ := hl hne
 refine Src.ofSlice w hk ⟨b, o, none⟩ l.length c (ecs l) (xqE l) (fun j u hu => ?_) (ecs_one l)
 have hj := (List.getElem?_eq_some_iff.1 hu).1
 rw [xqE] at hj
 rw [Addr.add_lit, hcell j hj]
 exact hu
def OwnE (w : World) (base : Nat) (e : TypeId) (v : Value) (l : List Ev) : Prop := w.ownsRow base e 8 v l.length (ecs l)
theorem OwnE.nil (w : World) (base : Nat) (e : TypeId) : OwnE w base e (.slice none 0 0) [] := World.ownsRow_nil w base e 8
theorem OwnE.rd {w : World} {base : Nat} {e : TypeId} {v : Value} {l : List Ev} (h : OwnE w base e v l) : RdE w v l := by
 rcases h.2 with ⟨rfl, hn⟩ | ⟨g, cap, cur, rfl, hb, hg, hnc, hcm, hcs, ht⟩
 ·have : l = [] := List.eq_nil_of_length_eq_zero hn
  subst this
  exact RdE.nil w
 refine ⟨some ⟨g, 0, none⟩, cap, rfl, hnc, by simp, fun _ => ⟨g, 0, rfl, fun k hk => ?_⟩⟩
 obtain ⟨u, hu⟩ := ecs_some l k hk
 have := World.ownsRow.cells h (g := g) rfl k u hu
 rw [hu]
 simpa [Addr.add_lit] using this
theorem OwnE.kept {w w' : World} {base : Nat} {e : TypeId} {v : Value} {l : List Ev} {bs : List Nat} (h : OwnE w base e v l) (hk : Kept w w' bs) (hb : ∀ b, v.ownBlock = some b -> b ∉ bs) : OwnE w' base e v l := by
 refine ⟨h.1, ?_⟩
 rcases h.2 with h2 | ⟨g, cap, cur, rfl, hbg, hg, rest⟩
 ·exact .inl h2
 exact .inr ⟨g, cap, cur, rfl, hbg, hk.heap (hb g rfl) hg, rest⟩
theorem OwnE.mono {w : World} {base base' : Nat} {e : TypeId} {v : Value} {l : List Ev} (h : OwnE w base e v l) (hb : base' <= base) : OwnE w base' e v l := by
 refine ⟨h.1, ?_⟩
 rcases h.2 with h2 | ⟨g, cap, cur, rfl, hbg, r⟩
 ·exact .inl h2
 exact .inr ⟨g, cap, cur, rfl, by omega, r⟩
theorem OwnE.lt {w : World} {base : Nat} {e : TypeId} {v : Value} {l : List Ev} (h : OwnE w base e v l) : ∀ b, v.ownBlock = some b -> base <= b /\ b < w.heap.size := World.ownsRow.lt h
theorem OwnE.shape {w : World} {base : Nat} {e : TypeId} {v : Value} {l : List Ev} (h : OwnE w base e v l) : ∃ a c, v = .slice a l.length c := by
 rcases h.2 with ⟨rfl, hn⟩ | ⟨g, cap, cur, rfl, _⟩
 ·exact ⟨none, 0, by rw [hn]⟩
 exact ⟨_, _, rfl⟩
theorem OwnE.at {w : World} {base : Nat} {e : TypeId} {a : Option Addr} {n c : Nat} {l : List Ev} (h : OwnE w base e (.slice a n c) l) (i : Nat) (hi : i < l.length) :
 ∃ g, a = some ⟨g, 0, none⟩ /\ ∀ j, j < 8 -> w.cell? ⟨g, i * 8 + j, none⟩ = (l[i]).cs[j]? /\ w.frozen? ⟨g, i * 8 + j, none⟩ = false := by
 rcases h.2 with ⟨h1, hn⟩ | ⟨g, cap, cur, hv, hb, hg, hnc, hcm, hcs, ht⟩
 ·simp at hn; subst hn; simp at hi
 ·simp only [Value.slice.injEq] at hv
  obtain ⟨rfl, _, _⟩ := hv
  refine ⟨g, rfl, fun j hj => ⟨?_, frozen_of_row _ _ _ _ _ hg⟩⟩
  obtain ⟨u, hu⟩ := ecs_some l (i * 8 + j) (by omega)
  have := World.ownsRow.cells h (g := g) rfl _ u hu
  rw [Addr.add_lit, Nat.zero_add] at this
  rw [this, <- hu, ecs_get l i j hi hj]
theorem heap_set8 {w : World} {g : Nat} {cs : Array Value} {t : TypeId} {fz : Nat × Nat} (h : w.heap[g]? = some (.cells cs t fz)) (k : Nat) (u0 u1 u2 u3 u4 u5 u6 u7 : Value) :
 ((((((((w.setCell ⟨g, k + 0, none⟩ u0).setCell ⟨g, k + 1, none⟩ u1).setCell ⟨g, k + 2, none⟩ u2).setCell ⟨g, k + 3, none⟩ u3).setCell ⟨g, k + 4, none⟩ u4).setCell ⟨g, k + 5, none⟩ u5).setCell ⟨g, k + 6, none⟩ u6).setCell ⟨g, k + 7, none⟩ u7).heap[g]? =
  some (.cells ((((((((cs.setIfInBounds (k + 0) u0).setIfInBounds (k + 1) u1).setIfInBounds (k + 2) u2).setIfInBounds (k + 3) u3).setIfInBounds (k + 4) u4).setIfInBounds (k + 5) u5).setIfInBounds (k + 6) u6).setIfInBounds (k + 7) u7) t fz) :=
 xqb (xqb (xqb (xqb (xqb (xqb (xqb (xqb h _ u0) _ u1) _ u2) _ u3) _ u4) _ u5) _ u6) _ u7
theorem set8_list (xs : List Value) (k : Nat) (u0 u1 u2 u3 u4 u5 u6 u7 : Value) (h : k + 8 <= xs.length) :
 ((((((((xs.set (k + 0) u0).set (k + 1) u1).set (k + 2) u2).set (k + 3) u3).set (k + 4) u4).set (k + 5) u5).set (k + 6) u6).set (k + 7) u7) = xs.take k ++ [u0, u1, u2, u3, u4, u5, u6, u7] ++ xs.drop (k + 8) := by
 have e : xs = xs.take k ++ (xs.drop k) := (List.take_append_drop k xs).symm
 obtain ⟨A, hA⟩ : ∃ A, A = xs.take k := ⟨_, rfl⟩
 obtain ⟨B, hB⟩ : ∃ B, B = xs.drop k := ⟨_, rfl⟩
 have hl : A.length = k := by rw [hA, List.length_take]; omega
 have hB8 : 8 <= B.length := by rw [hB, List.length_drop]; omega
 have hd : xs.drop (k + 8) = B.drop 8 := by rw [hB, List.drop_drop]
 rw [hd, <- hA]
 rw [<- hA, <- hB] at e
 rw [e]
 match B, hB8 with
 | b0 :: b1 :: b2 :: b3 :: b4 :: b5 :: b6 :: b7 :: r, _ =>
  subst hl
  simp
theorem OwnE.put {w : World} {base g n c : Nat} {e : TypeId} {l : List Ev} (h : OwnE w base e (.slice (some ⟨g, 0, none⟩) n c) l) (i : Nat) (hi : i < l.length) (x : Ev) :
 OwnE ((((((((w.setCell ⟨g, i * 8, none⟩ (.int .i64 x.id)).setCell ⟨g, i * 8 + 1, none⟩ (.int .i64 x.tx)).setCell ⟨g, i * 8 + 2, none⟩ (.string x.ow)).setCell ⟨g, i * 8 + 3, none⟩ (.int .i64 x.tr)).setCell ⟨g, i * 8 + 4, none⟩ (.int .i64 x.tb)).setCell ⟨g, i * 8 + 5, none⟩ (.int .u8 x.kd)).setCell ⟨g, i * 8 + 6, none⟩ (.int .i64 x.key)).setCell ⟨g, i * 8 + 7, none⟩ (.string x.t))
  base e (.slice (some ⟨g, 0, none⟩) n c) (l.set i x) := by
 refine ⟨by rw [xqE, List.length_set], ?_⟩
 rcases h.2 with ⟨h1, _⟩ | ⟨g', cap, cur, hv, hb, hg, hnc, hcm, hcs, ht⟩
 ·simp at h1
 ·simp only [Value.slice.injEq, Option.some.injEq, Addr.mk.injEq] at hv
  obtain ⟨⟨rfl, _⟩, rfl, rfl⟩ := hv
  refine .inr ⟨g, c, _, by rw [List.length_set], hb, heap_set8 hg (i * 8) (.int .i64 x.id) (.int .i64 x.tx) (.string x.ow) (.int .i64 x.tr) (.int .i64 x.tb) (.int .u8 x.kd) (.int .i64 x.key) (.string x.t), by rw [List.length_set]; exact hnc, hcm, by simpa using hcs, ?_⟩
  have hl1 : cur.toList.length = cur.size := Array.length_toList
  have hl : l.length * 8 <= cur.toList.length := by omega
  simp only [Array.toList_setIfInBounds, List.length_set]
  rw [set8_list _ _ _ _ _ _ _ _ _ _ (by omega), ecs_set l i x hi, <- ht]
  have hA : (cur.toList.take (i * 8)).length = i * 8 := by rw [List.length_take]; omega
  rw [List.take_take, Nat.min_eq_left (by omega), List.take_append, List.take_of_length_le (by rw [List.length_append, hA]; simp; omega)]
  congr 1
  rw [List.length_append, hA, List.drop_take]
  rfl
end Go.Proofs.YticiofkiffgclaaGreat
namespace Go.Proofs.YticiofkiffgclaaGreat
variable {α : Type}
structure Tot (c : α -> α -> Bool) : Prop where
 refl : ∀ x, c x x = true
 trans : ∀ x y z, c x y = true -> c y z = true -> c x z = true
 total : ∀ x y, c x y = true ∨ c y x = true
def eqv (c : α -> α -> Bool) (x y : α) : Bool := c x y && c y x
def Srt (c : α -> α -> Bool) (l : List α) : Prop := l.Pairwise fun a b => c a b = true
def Stab (c : α -> α -> Bool) (l l' : List α) : Prop := ∀ x, l'.filter (eqv c x) = l.filter (eqv c x)
theorem Stab.refl (c : α -> α -> Bool) (l : List α) : Stab c l l := fun _ => rfl
theorem Stab.symm {c : α -> α -> Bool} {l m : List α} (h : Stab c l m) : Stab c m l := fun x => (h x).symm
theorem Stab.trans {c : α -> α -> Bool} {l m n : List α} (h : Stab c l m) (k : Stab c m n) : Stab c l n := fun x => (k x).trans (h x)
theorem Stab.append {c : α -> α -> Bool} {l m l' m' : List α} (h : Stab c l l') (k : Stab c m m') : Stab c (l ++ m) (l' ++ m') := fun x => by rw [List.filter_append, List.filter_append, h x, k x]
theorem eqv_self {c : α -> α -> Bool} (T : Tot c) (x : α) : eqv c x x = true := by simp [eqv, T.refl x]
theorem Stab.mem {c : α -> α -> Bool} (T : Tot c) {l m : List α} (h : Stab c l m) (x : α) : x ∈ m ↔ x ∈ l := by
 have h1 := h x
 constructor
 ·intro hx
  have : x ∈ m.filter (eqv c x) := List.mem_filter.2 ⟨hx, eqv_self T x⟩
  rw [h1] at this
  exact (List.mem_filter.1 this).1
 intro hx
 have : x ∈ l.filter (eqv c x) := List.mem_filter.2 ⟨hx, eqv_self T x⟩
 rw [<- h1] at this
 exact (List.mem_filter.1 this).1
theorem Stab.swap {c : α -> α -> Bool} (T : Tot c) {X Y : List α} (h : ∀ x ∈ X, ∀ y ∈ Y, eqv c x y = false) : Stab c (X ++ Y) (Y ++ X) := by
 intro z
 rw [List.filter_append, List.filter_append]
 by_cases hx : X.filter (eqv c z) = []
 ·rw [hx]; simp
 have hy : Y.filter (eqv c z) = [] := by
  rw [List.filter_eq_nil_iff]
  intro y hy hz
  obtain ⟨x, hxm⟩ := List.exists_mem_of_ne_nil _ hx
  obtain ⟨hx1, hx2⟩ := List.mem_filter.1 hxm
  have hn := h x hx1 y hy
  simp only [eqv, Bool.and_eq_true] at hz hx2
  simp only [eqv, Bool.and_eq_false_iff] at hn
  rcases hn with hn | hn
  ·rw [T.trans x z y hx2.2 hz.1] at hn; simp at hn
  rw [T.trans y z x hz.2 hx2.1] at hn; simp at hn
 rw [hy]; simp
theorem stab_unique {c : α -> α -> Bool} (T : Tot c) (l : List α) : ∀ m : List α, Srt c l -> Srt c m -> Stab c l m -> m = l := by
 induction l with
 | nil =>
  intro m _ _ h
  cases m with
  | nil => rfl
  | cons b t =>
  have := (h.mem T b).1 (by simp)
  simp at this
 | cons a s ih =>
 intro m hl hm h
 cases m with
 | nil =>
 have := (h.mem T a).2 (by simp)
 simp at this
 | cons b t =>
 have hab : c a b = true := by
  have hb := (h.mem T b).1 (by simp)
  rcases List.mem_cons.1 hb with rfl | hb
  ·exact T.refl _
  exact (List.pairwise_cons.1 hl).1 b hb
 have hba : c b a = true := by
  have ha := (h.mem T a).2 (by simp)
  rcases List.mem_cons.1 ha with rfl | ha
  ·exact T.refl _
  exact (List.pairwise_cons.1 hm).1 a ha
 have h1 := h a
 rw [List.filter_cons_of_pos (by simp [eqv, hab, hba]), List.filter_cons_of_pos (eqv_self T a)] at h1
 obtain ⟨rfl, _⟩ := List.cons.inj h1
 congr 1
 refine ih t (List.pairwise_cons.1 hl).2 (List.pairwise_cons.1 hm).2 (fun x => ?_)
 have h2 := h x
 by_cases hx : eqv c x b = true
 ·rw [List.filter_cons_of_pos hx, List.filter_cons_of_pos hx] at h2
  exact (List.cons.inj h2).2
 rw [List.filter_cons_of_neg hx, List.filter_cons_of_neg hx] at h2
 exact h2
theorem insert_at {c : α -> α -> Bool} (T : Tot c) {p q : List α} {x : α} (h : Srt c (p ++ q)) (hp : ∀ y ∈ p, c y x = true) (hq : ∀ y ∈ q, c y x = false) : Srt c (p ++ x :: q) /\ Stab c (p ++ q ++ [x]) (p ++ x :: q) := by
 obtain ⟨h1, h2, h3⟩ := List.pairwise_append.1 h
 have hxq : ∀ y ∈ q, c x y = true := fun y hy => (T.total x y).resolve_right (by rw [hq y hy]; simp)
 refine ⟨List.pairwise_append.2 ⟨h1, List.pairwise_cons.2 ⟨hxq, h2⟩, ?_⟩, ?_⟩
 ·intro a ha b hb
  rcases List.mem_cons.1 hb with rfl | hb
  ·exact hp a ha
  exact h3 a ha b hb
 rw [List.append_assoc]
 refine (Stab.refl c p).append ?_
 exact Stab.swap T (fun y hy z hz => by simp only [List.mem_singleton] at hz; subst hz; simp [eqv, hq y hy])
def ins (c : α -> α -> Bool) (x : α) : List α -> List α
 | [] => [x]
 | y :: t => if c y x = true then y :: ins c x t else x :: y :: t
def srt (c : α -> α -> Bool) (l : List α) : List α := l.foldl (fun o x => ins c x o) []
theorem ins_parts {c : α -> α -> Bool} (T : Tot c) (x : α) (l : List α) (h : Srt c l) : ∃ p q, l = p ++ q /\ ins c x l = p ++ x :: q /\ (∀ y ∈ p, c y x = true) /\ (∀ y ∈ q, c y x = false) := by
 induction l with
 | nil => exact ⟨[], [], rfl, rfl, by simp, by simp⟩
 | cons y t ih =>
 obtain ⟨hy, ht⟩ := List.pairwise_cons.1 h
 by_cases hc : c y x = true
 ·obtain ⟨p, q, h1, h2, h3, h4⟩ := ih ht
  refine ⟨y :: p, q, by rw [h1]; rfl, by rw [ins, if_pos hc, h2]; rfl, ?_, h4⟩
  intro z hz
  rcases List.mem_cons.1 hz with rfl | hz
  ·exact hc
  exact h3 z hz
 refine ⟨[], y :: t, rfl, by rw [ins, if_neg hc]; rfl, by simp, ?_⟩
 intro z hz
 rcases List.mem_cons.1 hz with rfl | hz
 ·simpa using hc
 cases hzx : c z x with
 | false => rfl
 | true => exact absurd (T.trans y z x (hy z hz) hzx) hc
theorem srt_fold {c : α -> α -> Bool} (T : Tot c) (l : List α) : ∀ o : List α, Srt c o -> Srt c (l.foldl (fun o x => ins c x o) o) /\ Stab c (o ++ l) (l.foldl (fun o x => ins c x o) o) := by
 induction l with
 | nil => intro o h; exact ⟨h, by rw [List.append_nil]; exact Stab.refl c o⟩
 | cons x t ih =>
 intro o h
 obtain ⟨p, q, h1, h2, h3, h4⟩ := ins_parts T x o h
 rw [h1] at h
 obtain ⟨s1, s2⟩ := insert_at T h h3 h4
 obtain ⟨k1, k2⟩ := ih (ins c x o) (by rw [h2]; exact s1)
 refine ⟨k1, Stab.trans ?_ k2⟩
 rw [h2, h1, show p ++ q ++ x :: t = (p ++ q ++ [x]) ++ t by simp]
 exact s2.append (Stab.refl c t)
theorem xq3 {c : α -> α -> Bool} (T : Tot c) (l : List α) : Srt c (srt c l) := (srt_fold T l [] List.Pairwise.nil).1
theorem yqJ {c : α -> α -> Bool} (T : Tot c) (l : List α) : Stab c l (srt c l) := by simpa [srt] using (srt_fold T l [] List.Pairwise.nil).2
theorem srt_is {c : α -> α -> Bool} (T : Tot c) {l m : List α} (h : Srt c m) (k : Stab c l m) : m = srt c l :=
 stab_unique T (srt c l) m (xq3 T l) h ((yqJ T l).symm.trans k)
theorem ins_length (c : α -> α -> Bool) (x : α) (l : List α) : (ins c x l).length = l.length + 1 := by
 induction l with
 | nil => rfl
 | cons y t ih =>
 rw [ins]
 split
 ·rw [List.length_cons, ih, List.length_cons]
 simp
theorem xqs (c : α -> α -> Bool) (l : List α) : (srt c l).length = l.length := by
 have : ∀ o : List α, (l.foldl (fun o x => ins c x o) o).length = o.length + l.length := by
  induction l with
  | nil => intro o; simp
  | cons x t ih => intro o; rw [List.foldl_cons, ih, ins_length, List.length_cons]; omega
 simpa [srt] using this []
theorem srt_self {c : α -> α -> Bool} (T : Tot c) {l : List α} (h : Srt c l) : srt c l = l := (srt_is T h (Stab.refl c l)).symm
theorem srt_halves {c : α -> α -> Bool} (T : Tot c) {P X Y S : List α} (h1 : Srt c (P ++ X)) (h2 : Srt c (Y ++ S)) (hxy : ∀ x ∈ X, ∀ y ∈ Y, c x y = false) (hps : ∀ p ∈ P, ∀ s ∈ S, c p s = true) :
 srt c ((P ++ X) ++ (Y ++ S)) = srt c (P ++ Y) ++ srt c (X ++ S) := by
 obtain ⟨_, _, px⟩ := List.pairwise_append.1 h1
 obtain ⟨_, _, ys⟩ := List.pairwise_append.1 h2
 refine (srt_is T ?_ ?_).symm
 ·refine List.pairwise_append.2 ⟨xq3 T _, xq3 T _, ?_⟩
  intro a ha b hb
  rcases List.mem_append.1 (((yqJ T _).mem T a).1 ha) with ha | ha <;> rcases List.mem_append.1 (((yqJ T _).mem T b).1 hb) with hb | hb
  ·exact px a ha b hb
  ·exact hps a ha b hb
  ·exact (T.total a b).resolve_right (by rw [hxy b hb a ha]; simp)
  exact ys a ha b hb
 ·have sw : Stab c (X ++ Y) (Y ++ X) := Stab.swap T (fun x hx y hy => by simp [eqv, hxy x hx y hy])
  have e : Stab c ((P ++ X) ++ (Y ++ S)) ((P ++ Y) ++ (X ++ S)) := by
   have := ((Stab.refl c P).append sw).append (Stab.refl c S)
   simpa only [List.append_assoc] using this
  exact e.trans ((yqJ T _).append (yqJ T _))
theorem tot_key (f : α -> Int) : Tot (fun a b => decide (f a <= f b)) := by
 refine ⟨?_, ?_, ?_⟩
 ·intro x; simp
 ·intro x y z; simp; omega
 intro x y; simp; omega
end Go.Proofs.YticiofkiffgclaaGreat
namespace Go.Proofs.YticiofkiffgclaaGreat
open Go.Sort
variable {α : Type} [Inhabited α]
theorem xqD {d : Array α} {P R : List α} {x : α} {i : Nat} (h : d.toList = P ++ x :: R) (hi : i = P.length) : i < d.size /\ d[i]! = x := by
 have hs : i < d.size := by rw [<- Array.length_toList, h]; simp; omega
 refine ⟨hs, ?_⟩
 rw [getElem!_pos d i hs, <- Array.getElem_toList (h := by simpa using hs)]
 subst hi
 simp [h]
theorem swp_list {d : Array α} {P Q R : List α} {x y : α} {i j : Nat} (h : d.toList = P ++ x :: (Q ++ y :: R)) (hi : i = P.length) (hj : j = P.length + 1 + Q.length) : (swp d i j).toList = P ++ y :: (Q ++ x :: R) := by
 obtain ⟨_, h1⟩ := xqD h hi
 obtain ⟨_, h2⟩ := xqD (d := d) (P := P ++ x :: Q) (R := R) (x := y) (i := j) (by rw [h]; simp) (by rw [hj]; simp; omega)
 rw [swp, h1, h2, Array.toList_setIfInBounds, Array.toList_setIfInBounds, h]
 subst hi hj
 rw [List.set_append_right _ _ (Nat.le_refl _), Nat.sub_self, List.set_cons_zero, List.set_append_right _ _ (by omega), show P.length + 1 + Q.length - P.length = Q.length + 1 by omega, List.set_cons_succ, List.set_append_right _ _ (Nat.le_refl _), Nat.sub_self, List.set_cons_zero]
theorem swp_list' {d : Array α} {P Q R : List α} {x y : α} {i j : Nat} (h : d.toList = P ++ x :: (Q ++ y :: R)) (hi : i = P.length) (hj : j = P.length + 1 + Q.length) : (swp d j i).toList = P ++ y :: (Q ++ x :: R) := by
 obtain ⟨_, h1⟩ := xqD h hi
 obtain ⟨_, h2⟩ := xqD (d := d) (P := P ++ x :: Q) (R := R) (x := y) (i := j) (by rw [h]; simp) (by rw [hj]; simp; omega)
 rw [swp, h1, h2, Array.toList_setIfInBounds, Array.toList_setIfInBounds, h]
 subst hi hj
 rw [List.set_append_right _ _ (by omega), show P.length + 1 + Q.length - P.length = Q.length + 1 by omega, List.set_cons_succ, List.set_append_right _ _ (Nat.le_refl _), Nat.sub_self, List.set_cons_zero, List.set_append_right _ _ (Nat.le_refl _), Nat.sub_self, List.set_cons_zero]
variable {c : α -> α -> Bool}
def ltB {β : Type} (c : β -> β -> Bool) (x y : β) : Bool := !c y x
theorem swo_lt {β : Type} {c : β -> β -> Bool} (T : Tot c) : SWO (ltB c) := by
 constructor
 all_goals simp only [ltB, Bool.not_eq_true', Bool.not_eq_false']
 ·intro x; exact T.refl x
 ·intro x y z h1 h2
  cases h : c z x with
  | false => rfl
  | true =>
  rcases T.total y z with h3 | h3
  ·rw [T.trans y z x h3 h] at h1; simp at h1
  rw [h3] at h2; simp at h2
 intro x y z h1 h2
 exact T.trans z y x h2 h1
theorem stab_pair {β : Type} {c : β -> β -> Bool} (T : Tot c) {P R : List β} {u v : β} (h : ltB c v u = true) : Stab c (P ++ u :: v :: R) (P ++ v :: u :: R) := by
 have sw : Stab c ([u] ++ [v]) ([v] ++ [u]) := Stab.swap T (fun x hx y hy => by
  simp only [List.mem_singleton] at hx hy
  subst hx hy
  simp only [ltB, Bool.not_eq_true'] at h
  simp [eqv, h])
 exact (Stab.refl c P).append (sw.append (Stab.refl c R))
theorem mid_split {β : Type} (M : List β) {i : Nat} (h : i < M.length) : ∃ P R x, M = P ++ x :: R /\ P.length = i /\ x = M[i] :=
 ⟨M.take i, M.drop (i + 1), M[i], by conv => lhs; rw [<- List.take_append_drop i M, List.drop_eq_getElem_cons h], by rw [List.length_take]; omega, rfl⟩
theorem insInner_list (T : Tot c) {A B : List α} : ∀ (j : Nat) (d : Array α) (M : List α), d.toList = A ++ M ++ B -> j < A.length + M.length ->
 ∃ M', (insInner (ltB c) A.length j d).toList = A ++ M' ++ B /\ M'.length = M.length /\ Stab c M M' := by
 intro j
 induction j with
 | zero => intro d M h _; exact ⟨M, h, rfl, Stab.refl c M⟩
 | succ j ih =>
  intro d M h hj
  rw [insInner]
  split
  ·rename_i hc
   simp only [Bool.and_eq_true, decide_eq_true_eq] at hc
   obtain ⟨ha, hl⟩ := hc
   have hm1 : j - A.length < M.length := by omega
   have hm2 : j - A.length + 1 < M.length := by omega
   have hM : M = M.take (j - A.length) ++ M[j - A.length] :: M[j - A.length + 1] :: M.drop (j - A.length + 2) := by
    conv => lhs; rw [<- List.take_append_drop (j - A.length) M, List.drop_eq_getElem_cons hm1, List.drop_eq_getElem_cons hm2]
   obtain ⟨P, hP⟩ : ∃ P, P = M.take (j - A.length) := ⟨_, rfl⟩
   obtain ⟨u, hu⟩ : ∃ u, u = M[j - A.length] := ⟨_, rfl⟩
   obtain ⟨v, hv⟩ : ∃ v, v = M[j - A.length + 1] := ⟨_, rfl⟩
   obtain ⟨R, hR⟩ : ∃ R, R = M.drop (j - A.length + 2) := ⟨_, rfl⟩
   rw [<- hP, <- hu, <- hv, <- hR] at hM
   have hPl : P.length = j - A.length := by rw [hP, List.length_take]; omega
   have hd : d.toList = (A ++ P) ++ u :: ([] ++ v :: (R ++ B)) := by rw [h, hM]; simp
   obtain ⟨_, e1⟩ := xqD (i := j) hd (by simp; omega)
   obtain ⟨_, e2⟩ := xqD (d := d) (P := A ++ P ++ [u]) (R := R ++ B) (x := v) (i := j + 1) (by rw [hd]; simp) (by simp; omega)
   rw [e1, e2] at hl
   have hs := swp_list' (i := j) (j := j + 1) hd (by simp; omega) (by simp; omega)
   obtain ⟨M', k1, k2, k3⟩ := ih (swp d (j + 1) j) (P ++ v :: u :: R) (by rw [hs]; simp) (by rw [hM] at hj; simp at hj ⊢; omega)
   refine ⟨M', k1, by rw [k2, hM]; simp, ?_⟩
   refine Stab.trans ?_ k3
   rw [hM]
   exact stab_pair T hl
  exact ⟨M, h, rfl, Stab.refl c M⟩
theorem insOuter_list (T : Tot c) {A B : List α} {b : Nat} : ∀ (n i : Nat) (d : Array α) (M : List α), b - i = n -> d.toList = A ++ M ++ B -> b = A.length + M.length ->
 ∃ M', (insOuter (ltB c) A.length b i d).toList = A ++ M' ++ B /\ M'.length = M.length /\ Stab c M M' := by
 intro n
 induction n with
 | zero =>
 intro i d M h1 h2 _
 rw [insOuter, if_neg (by omega)]
 exact ⟨M, h2, rfl, Stab.refl c M⟩
 | succ n ih =>
  intro i d M h1 h2 h3
  rw [insOuter, if_pos (by omega)]
  obtain ⟨M1, k1, k2, k3⟩ := insInner_list T i d M h2 (by omega)
  obtain ⟨M2, m1, m2, m3⟩ := ih (i + 1) _ M1 (by omega) k1 (by omega)
  exact ⟨M2, m1, by omega, k3.trans m3⟩
theorem yqa (T : Tot c) {A M B : List α} {d : Array α} (h : d.toList = A ++ M ++ B) : (insertionSort (ltB c) d A.length (A.length + M.length)).toList = A ++ srt c M ++ B := by
 obtain ⟨M', k1, k2, k3⟩ := insOuter_list T (A := A) (B := B) (b := A.length + M.length) _ (A.length + 1) d M rfl h rfl
 have hd : A.length + M.length <= d.size := by rw [<- Array.length_toList, h]; simp
 have hs := (insertionSort_holds (swo_lt T) d A.length (A.length + M.length) (by omega) hd).2
 rw [insertionSort] at hs ⊢
 rw [k1]
 congr 2
 refine srt_is T ?_ k3
 rw [Srt, List.pairwise_iff_getElem]
 intro i j hi hj hij
 obtain ⟨Pi, Ri, xi, qi, li, gi⟩ := mid_split M' hi
 obtain ⟨_, ei⟩ := xqD (P := A ++ Pi) (R := Ri ++ B) (x := xi) (i := A.length + i) (k1.trans (by rw [qi]; simp)) (by simp; omega)
 obtain ⟨Pj, Rj, xj, qj, lj, gj⟩ := mid_split M' hj
 obtain ⟨_, ej⟩ := xqD (P := A ++ Pj) (R := Rj ++ B) (x := xj) (i := A.length + j) (k1.trans (by rw [qj]; simp)) (by simp; omega)
 have := hs (A.length + i) (A.length + j) (by omega) (by omega) (by omega)
 rw [ei, ej] at this
 rw [<- gi, <- gj]
 simpa [ltB] using this
end Go.Proofs.YticiofkiffgclaaGreat
namespace Go.Proofs.YticiofkiffgclaaGreat
open Go.Shelf Go.RowKit Go.Lib Go.Sort
structure SL (P : Program) (k : Nat) : Prop where
 mixed : P.follows .mixedOrders = true
 fs : P.funcs[145]? = some Tryz.f145
 fm : P.funcs[186]? = some Tryz.f186
 fr : P.funcs[212]? = some Tryz.f212
 fw : P.funcs[225]? = some Tryz.f225
 eI : ∀ args w, (callFunc 185 args).run P w = .ok (.enter 185 args) w
 t0 : P.underlying 0 = some (TypeDesc.tuple #[])
 a0 : ∀ w, (isAgg 0).run P w = .ok false w
 z0 : ∀ w, (Go.sizeOf 0).run P w = .ok 1 w
 v0 : ∀ w, (zeroValue 0).run P w = .ok (Value.tuple #[]) w
 t3 : P.underlying 3 = some (TypeDesc.int IntKind.i64)
 a3 : ∀ w, (isAgg 3).run P w = .ok false w
 z3 : ∀ w, (Go.sizeOf 3).run P w = .ok 1 w
 v3 : ∀ w, (zeroValue 3).run P w = .ok (Value.int IntKind.i64 0) w
 t4 : P.underlying 4 = some (TypeDesc.bool)
 a4 : ∀ w, (isAgg 4).run P w = .ok false w
 z4 : ∀ w, (Go.sizeOf 4).run P w = .ok 1 w
 v4 : ∀ w, (zeroValue 4).run P w = .ok (Value.bool false) w
 t5 : P.underlying 217 = some (TypeDesc.int IntKind.u64)
 a5 : ∀ w, (isAgg 217).run P w = .ok false w
 z5 : ∀ w, (Go.sizeOf 217).run P w = .ok 1 w
 v5 : ∀ w, (zeroValue 217).run P w = .ok (Value.int IntKind.u64 0) w
 t6 : P.underlying 57 = some (TypeDesc.slice 50)
 a6 : ∀ w, (isAgg 57).run P w = .ok false w
 z6 : ∀ w, (Go.sizeOf 57).run P w = .ok 1 w
 v6 : ∀ w, (zeroValue 57).run P w = .ok (Value.slice none 0 0) w
 t7 : P.underlying 135 = some (TypeDesc.func #[50, 50] #[3] false)
 a7 : ∀ w, (isAgg 135).run P w = .ok false w
 z7 : ∀ w, (Go.sizeOf 135).run P w = .ok 1 w
 v7 : ∀ w, (zeroValue 135).run P w = .ok (Value.nilFunc) w
 aE : ∀ w, (isAgg 50).run P w = .ok true w
 zE : ∀ w, (Go.sizeOf 50).run P w = .ok k w
variable {P : Program} {α : Type} [Inhabited α] {k : Nat} {enc : α -> List Value} {w0 : World} {blk off : Nat} {d0 : Array α}
theorem yqF (L : SL P k) (R : RowK enc k w0 blk off d0) (g : Nat) (cb : Array Value) (cap : Nat) (A X M Y B : List α) (d : Array α) (w : World) (hd : d.toList = A ++ X ++ M ++ Y ++ B) (hxy : Y.length = X.length) (hs : d.size = d0.size) (S : SWK enc k w0 blk off d w) (hsz : d.size < 4611686018427387904)
 (sz a b n : Nat) (hz : sz = d.size) (ha : a = A.length) (hb : b = A.length + X.length + M.length) (hn : n = X.length) :
 Calls P 225 #[.slice (some ⟨blk, off, none⟩) sz cap, .int .i64 a, .int .i64 b, .int .i64 n, .func (.func g) #[] cb] w fun e w' => e = .returned (.tuple #[]) /\ ∃ d' : Array α, d'.toList = A ++ Y ++ M ++ X ++ B /\ SWK enc k w0 blk off d' w' := by
 have mixed := L.mixed; have t0 := L.t0; have a0 := L.a0; have z0 := L.z0; have v0 := L.v0; have t3 := L.t3; have a3 := L.a3; have z3 := L.z3; have v3 := L.v3; have t4 := L.t4; have a4 := L.a4; have z4 := L.z4; have v4 := L.v4; have t6 := L.t6; have a6 := L.a6; have z6 := L.z6; have v6 := L.v6; have t7 := L.t7; have a7 := L.a7; have z7 := L.z7; have v7 := L.v7; have aE := L.aE; have zE := L.zE
 have S0 : Aside (SWK enc k w0 blk off d w) := S
 have HD : Hid (d.toList = A ++ X ++ M ++ Y ++ B) := hd
 have HN : Hid (a = A.length /\ b = A.length + X.length + M.length /\ n = X.length /\ Y.length = X.length /\ sz = d0.size) := ⟨ha, hb, hn, hxy, by omega⟩
 have hfit : b + n <= sz /\ a + n <= b := by
  have := congrArg List.length hd
  simp at this
  omega
 have hszi : sz < 4611686018427387904 := by omega
 clear S hd ha hb hn hxy hz hsz
 obtain ⟨hf1, hf2⟩ := hfit
 go_enter L.fw, Tryz.ntmps225
 go_wp2
 go_loopg [10] n (fun kx s10 wr => ∃ (i : Nat) (dk : Array α), s10 = .int .i64 i /\ i <= n /\ n - i <= kx /\ dk.size = d0.size /\ Aside (SWK enc k w0 blk off dk wr) /\ Hid (∃ X1 X2 Y1 Y2, X = X1 ++ X2 /\ Y = Y1 ++ Y2 /\ X1.length = i /\ Y1.length = i /\ dk.toList = A ++ Y1 ++ X2 ++ M ++ X1 ++ Y2 ++ B))
 case atStart => exact ⟨0, d, rfl, by omega, by omega, hs, S0, [], X, [], Y, rfl, rfl, rfl, rfl, by rw [HD.out]; simp⟩
 case round =>
  clear S0
  obtain ⟨i, dk, rfl, hi, hkx, hds, S1, HL⟩ := hrel
  by_cases hlt : i < n
  ·have hlz : (i : Int) < (n : Int) := by omega
   obtain ⟨x, y, V1, V2, V3, q0, q1, q2, X1, X2, Y1, Y2, hX, hY, l1, l2⟩ : ∃ x y V1 V2 V3, dk.toList = V1 ++ x :: (V2 ++ y :: V3) /\ a + i = V1.length /\ b + i = V1.length + 1 + V2.length /\
    ∃ X1 X2 Y1 Y2, X = X1 ++ x :: X2 /\ Y = Y1 ++ y :: Y2 /\ X1.length = i /\ Y1.length = i /\ V1 ++ y :: (V2 ++ x :: V3) = A ++ (Y1 ++ [y]) ++ X2 ++ M ++ (X1 ++ [x]) ++ Y2 ++ B := by
    obtain ⟨h1, h2, h3, h4, _⟩ := HN.out
    obtain ⟨X1, X2, Y1, Y2, hX, hY, l1, l2, e⟩ := HL.out
    cases X2 with
    | nil => rw [hX] at h3; simp at h3; omega
    | cons x X2 =>
     cases Y2 with
     | nil => rw [hY] at h4; simp at h4; omega
     | cons y Y2 =>
     refine ⟨x, y, A ++ Y1, X2 ++ M ++ X1, Y2 ++ B, by rw [e]; simp, by simp; omega, ?_, X1, X2, Y1, Y2, hX, hY, l1, l2, by simp⟩
     rw [h2, hX]; simp; omega
   have T1 := swp_list (i := a + i) (j := b + i) q0 q1 q2
   obtain ⟨i1, e1⟩ := xqD q0 q1
   obtain ⟨i2, e2⟩ := xqD (P := V1 ++ x :: V2) (R := V3) (x := y) (i := b + i) (by rw [q0]; simp) (by simp; omega)
   have ea : ((a : Int) + (i : Int)).toNat = a + i := by omega
   have pa : (0 : Int) <= (a : Int) + (i : Int) := by omega
   have ba : (a : Int) + (i : Int) < (sz : Int) := by omega
   have ra : IntKind.i64.wrap ((a : Int) + (i : Int)) = (a : Int) + (i : Int) := by rw [IntKind.wrap_i64]; omega
   have ec : ((b : Int) + (i : Int)).toNat = b + i := by omega
   have pc : (0 : Int) <= (b : Int) + (i : Int) := by omega
   have bc : (b : Int) + (i : Int) < (sz : Int) := by omega
   have rc : IntKind.i64.wrap ((b : Int) + (i : Int)) = (b : Int) + (i : Int) := by rw [IntKind.wrap_i64]; omega
   have S2 : Aside (SWK enc k w0 blk off (swp dk (a + i) (b + i)) ((wr.drew.setCells blk (off + (a + i) * k) (enc y)).setCells blk (off + (b + i) * k) (enc x))) := by
    have := S1.out.swapped R (a + i) (b + i) i1 i2
    rwa [e1, e2] at this
   have la := S1.out.ld1 R hds P (a + i) i1
   have lb := S1.out.ld1 R hds P (b + i) i2
   have sa := S1.out.st1 R hds P (a + i) i1 y
   have sb := S1.out.st2 R hds P (a + i) (b + i) i1 i2 y x
   have na : (enc x).length = k := R.hk _
   have nb : (enc y).length = k := R.hk _
   rw [e1] at la
   rw [e2] at lb
   generalize enc x = cI at S2 la sb na
   generalize enc y = cJ at S2 lb sa sb nb
   have HR : Hid (∃ X1 X2 Y1 Y2, X = X1 ++ X2 /\ Y = Y1 ++ Y2 /\ X1.length = i + 1 /\ Y1.length = i + 1 /\ (swp dk (a + i) (b + i)).toList = A ++ Y1 ++ X2 ++ M ++ X1 ++ Y2 ++ B) :=
    ⟨X1 ++ [x], X2, Y1 ++ [y], Y2, by rw [hX]; simp, by rw [hY]; simp, by simp [l1], by simp [l2.1], by rw [T1, l2.2]⟩
   clear S1 HL q0 q1 q2 hX hY l1 l2 T1 e1 e2 i1 i2
   go_wp2_with fail
   go_big_region_o
   clear la lb sa sb
   generalize (wr.drew.setCells blk (off + (a + i) * k) cJ).setCells blk (off + (b + i) * k) cI = w2 at S2 ⊢
   go_wp2
   go_roundg (n - (i + 1))
   case measure => omega
   case rel => exact ⟨i + 1, _, by go_num, by omega, Nat.le_refl _, by rw [size_swp]; exact hds, S2, HR⟩
  have hlz : ¬ (i : Int) < (n : Int) := by omega
  obtain rfl : i = n := by omega
  go_wp2
  go_end0
  obtain ⟨h1, h2, h3, h4, _⟩ := HN.out
  obtain ⟨X1, X2, Y1, Y2, hX, hY, l1, l2, e⟩ := HL.out
  have : X2 = [] := List.eq_nil_of_length_eq_zero (by rw [hX] at h3; simp at h3; omega)
  subst this
  have : Y2 = [] := List.eq_nil_of_length_eq_zero (by rw [hY] at h4; simp at h4; omega)
  subst this
  refine ⟨rfl, dk, ?_, S1.out⟩
  rw [e, hX, hY]
  simp
variable {P : Program} {α : Type} [Inhabited α] {k : Nat} {enc : α -> List Value} {w0 : World} {blk off : Nat} {d0 : Array α}
theorem yqL {β : Type} (l : List β) (n : Nat) (h : n <= l.length) : ∃ U V, l = U ++ V /\ U.length = n /\ V.length = l.length - n :=
 ⟨l.take n, l.drop n, (List.take_append_drop n l).symm, by rw [List.length_take]; omega, by rw [List.length_drop]⟩
theorem rotate_any (L : SL P k) (R : RowK enc k w0 blk off d0) (g : Nat) (cb : Array Value) (cap : Nat) (A X Y B : List α) (d : Array α) (w : World) (hd : d.toList = A ++ X ++ Y ++ B) (hs : d.size = d0.size) (S : SWK enc k w0 blk off d w) (hsz : d.size < 4611686018427387904)
 (sz a m b : Nat) (hz : sz = d.size) (ha : a = A.length) (hm : m = A.length + X.length) (hb : b = A.length + X.length + Y.length) (hX : 0 < X.length) (hY : 0 < Y.length) :
 Calls P 212 #[.slice (some ⟨blk, off, none⟩) sz cap, .int .i64 a, .int .i64 m, .int .i64 b, .func (.func g) #[] cb] w fun e w' => e = .returned (.tuple #[]) /\ ∃ d' : Array α, d'.toList = A ++ Y ++ X ++ B /\ SWK enc k w0 blk off d' w' := by
 have mixed := L.mixed; have t0 := L.t0; have a0 := L.a0; have z0 := L.z0; have v0 := L.v0; have t3 := L.t3; have a3 := L.a3; have z3 := L.z3; have v3 := L.v3; have t4 := L.t4; have a4 := L.a4; have z4 := L.z4; have v4 := L.v4; have t6 := L.t6; have a6 := L.a6; have z6 := L.z6; have v6 := L.v6; have t7 := L.t7; have a7 := L.a7; have z7 := L.z7; have v7 := L.v7; have aE := L.aE; have zE := L.zE
 have ew : ∀ args w, (callFunc 225 args).run P w = .ok (.enter 225 args) w := enters_of L.fw (by kernel_rfl) rfl
 have S0 : Aside (SWK enc k w0 blk off d w) := S
 have HD : Hid (d.toList = A ++ X ++ Y ++ B) := hd
 have hfit : b <= sz /\ a < m /\ m < b /\ sz = d0.size := by
  have := congrArg List.length hd
  simp at this
  omega
 have HN : Hid (a = A.length /\ m = A.length + X.length /\ b = A.length + X.length + Y.length) := ⟨ha, hm, hb⟩
 have hszi : sz < 4611686018427387904 := by omega
 have HS : Hid (d.size = d0.size) := hs
 clear S hd ha hm hb hX hY hz hs hsz
 obtain ⟨hf1, hf2, hf3, hf4⟩ := hfit
 have HF : Hid (sz = d0.size) := hf4
 clear hf4
 go_enter L.fr, Tryz.ntmps212
 go_wp2
 go_loopg [10, 11] (b - a) (fun kx s10 s11 wr => ∃ (i j : Nat) (dk : Array α), s10 = .int .i64 i /\ s11 = .int .i64 j /\ 0 < i /\ 0 < j /\ i <= m /\ m + j <= sz /\ i + j <= kx /\ Aside (SWK enc k w0 blk off dk wr) /\ Hid (dk.size = d0.size /\ ∃ A1 X1 Y1 B1, X1.length = i /\ Y1.length = j /\ A1.length + i = m /\ dk.toList = A1 ++ X1 ++ Y1 ++ B1 /\ A ++ Y ++ X ++ B = A1 ++ Y1 ++ X1 ++ B1))
 case atStart =>
  obtain ⟨h1, h2, h3⟩ := HN.out
  exact ⟨m - a, b - m, d, by go_num, by go_num, by omega, by omega, by omega, by omega, by omega, S0, HS.out, A, X, Y, B, by omega, by omega, by omega, HD.out, rfl⟩
 case round =>
  clear S0
  obtain ⟨i, j, dk, rfl, rfl, hi, hj, him, hjm, hkx, S1, HL⟩ := hrel
  obtain ⟨hds, A1, X1, Y1, B1, lx, ly, la, e1, e2⟩ := HL.out
  have xm : (m : Int) - (i : Int) = ((m - i : Nat) : Int) := by omega
  have xs : dk.size < 4611686018427387904 := by have := HF.out; omega
  have xz : sz = dk.size := by have := HF.out; omega
  by_cases hij : i = j
  ·subst hij
   have hc := yqF L R g cb cap A1 X1 [] Y1 B1 dk wr (by rw [e1]; simp) (by omega) hds S1.out xs sz (m - i) m i xz (by omega) (by simp; omega) (by omega)
   have HE : Hid (A ++ Y ++ X ++ B = A1 ++ Y1 ++ [] ++ X1 ++ B1) := iH (by rw [e2]; simp)
   have HC := iH hc
   clear hc e1 e2 lx ly la hds HL xs xz S1
   go_wp2_with (go_at_fn 225; refine HC.out.mono ?_; rintro e w' ⟨rfl, d', hd', S'⟩)
   go_end0
   exact ⟨rfl, d', by rw [hd', HE.out], S'⟩
  have x1 : ¬ (i : Int) = (j : Int) := by omega
  by_cases hgt : j < i
  ·have x2 : (j : Int) < (i : Int) := by omega
   obtain ⟨U, V, eU, lU, lV⟩ := yqL X1 j (by omega)
   have hc := yqF L R g cb cap A1 U V Y1 B1 dk wr (by rw [e1, eU]; simp) (by omega) hds S1.out xs sz (m - i) m j xz (by omega) (by omega) (by omega)
   have HE : Hid (∀ d' : Array α, d'.toList = A1 ++ Y1 ++ V ++ U ++ B1 -> d'.size = d0.size /\ ∃ A1 X1 Y1 B1, X1.length = i - j /\ Y1.length = j /\ A1.length + (i - j) = m /\ d'.toList = A1 ++ X1 ++ Y1 ++ B1 /\ A ++ Y ++ X ++ B = A1 ++ Y1 ++ X1 ++ B1) := by
    intro d' h
    refine ⟨?_, A1 ++ Y1, V, U, B1, by omega, lU, by simp; omega, h, by rw [e2, eU]; simp⟩
    rw [<- hds, <- Array.length_toList, <- Array.length_toList, h, e1, eU]
    simp; omega
   have HC := iH hc
   clear hc e1 e2 lx ly la hds HL xs xz S1 eU lU lV
   go_wp2_with (go_at_fn 225; refine HC.out.mono ?_; rintro e w' ⟨rfl, d', hd', S'⟩)
   have G := HE.out d' hd'
   have HG := iH G
   have SA : Aside (SWK enc k w0 blk off d' w') := S'
   clear hd' S' G
   go_wp2
   go_roundg (i - j + j)
   case measure => omega
   case rel => exact ⟨i - j, j, d', by go_num, rfl, by omega, hj, by omega, hjm, Nat.le_refl _, SA, HG⟩
  have x2 : ¬ (j : Int) < (i : Int) := by omega
  have xj : (m : Int) + (j : Int) - (i : Int) = ((m + j - i : Nat) : Int) := by omega
  obtain ⟨U, V, eU, lU, lV⟩ := yqL Y1 (j - i) (by omega)
  have hc := yqF L R g cb cap A1 X1 U V B1 dk wr (by rw [e1, eU]; simp) (by omega) hds S1.out xs sz (m - i) (m + j - i) i xz (by omega) (by omega) (by omega)
  have HE : Hid (∀ d' : Array α, d'.toList = A1 ++ V ++ U ++ X1 ++ B1 -> d'.size = d0.size /\ ∃ A1 X1 Y1 B1, X1.length = i /\ Y1.length = j - i /\ A1.length + i = m /\ d'.toList = A1 ++ X1 ++ Y1 ++ B1 /\ A ++ Y ++ X ++ B = A1 ++ Y1 ++ X1 ++ B1) := by
   intro d' h
   refine ⟨?_, A1, V, U, X1 ++ B1, by omega, lU, la, by rw [h]; simp, by rw [e2, eU]; simp⟩
   rw [<- hds, <- Array.length_toList, <- Array.length_toList, h, e1, eU]
   simp; omega
  have HC := iH hc
  clear hc e1 e2 lx ly la hds HL xs xz S1 eU lU lV
  go_wp2_with (go_at_fn 225; refine HC.out.mono ?_; rintro e w' ⟨rfl, d', hd', S'⟩)
  have G := HE.out d' hd'
  have HG := iH G
  have SA : Aside (SWK enc k w0 blk off d' w') := S'
  clear hd' S' G
  go_wp2
  go_roundg (i + (j - i))
  case measure => omega
  case rel => exact ⟨i, j - i, d', rfl, by go_num, hi, by omega, him, by omega, Nat.le_refl _, SA, HG⟩
end Go.Proofs.YticiofkiffgclaaGreat
