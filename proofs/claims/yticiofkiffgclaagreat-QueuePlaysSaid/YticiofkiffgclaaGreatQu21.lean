/-
 Ka, Kb, Kc in one text.
-/
import Derived.Test.YticiofkiffgclaaGreatQu14
import Derived.Test.YticiofkiffgclaaGreatQu0
import Derived.Deep.QuietTactic
import Derived.BigQuiet
import Derived.RegionTactic
set_option linter.unusedVariables false
set_option maxHeartbeats 16000000
set_option maxRecDepth 100000
namespace Go.Proofs.YticiofkiffgclaaGreat
open Go.RowKit
structure Pt where
 n : Int
 M : Int
 l : List Int
 t : Int
structure Tk where
 n : Int
 M : Int
 a : Option Addr
 c : Nat
 l : List Int
 t : Int
def Tk.op (x : Tk) : Value := .slice x.a x.l.length x.c
def Tk.cs (x : Tk) : Array Value := #[.int .i64 x.n, .int .i64 x.M, .slice x.a x.l.length x.c, .int .i64 x.t]
def Tk.pl (x : Tk) : Pt := ⟨x.n, x.M, x.l, x.t⟩
def Tk.zero : Tk := ⟨0, 0, none, 0, [], 0⟩
def RdT (w : World) (v : Value) (l : List Int) : Prop := RdI w v l /\ ∀ b, v.ownBlock = some b -> ∃ cs, w.heap[b]? = some (.cells cs 2 (0, 0))
def NoI (w : World) (O : Nat -> Prop) : Prop := ∀ k, O k -> ∀ cs fz, w.heap[k]? ≠ some (.cells cs 2 fz)
theorem NoI.none (w : World) : NoI w (fun _ => False) := fun _ h => h.elim
theorem RdI.fo {w w' : World} {v : Value} {l : List Int} {O : Nat -> Prop} (h : RdI w v l) (hf : Fo O w w') (hO : ∀ b, v.ownBlock = some b -> ¬ O b) : RdI w' v l := by
 obtain ⟨a, c, rfl, hc, hm, ha, hl⟩ := h
 refine ⟨a, c, rfl, hc, hm, ha, fun hne => ?_⟩
 obtain ⟨b, o, rfl, hcell⟩ := hl hne
 refine ⟨b, o, rfl, fun i hi => ?_⟩
 have h1 := hcell i hi
 have same : w'.heap[b]? = w.heap[b]? := hf.block b (World.block_lt_of_cell? w _ h1) (hO b rfl)
 rw [World.cell?_of_block (w := w) same]
 exact h1
theorem RdT.fo {w w' : World} {v : Value} {l : List Int} {O : Nat -> Prop} (h : RdT w v l) (hf : Fo O w w') (hO : NoI w O) : RdT w' v l := by
 have hn : ∀ b, v.ownBlock = some b -> ¬ O b := fun b hb ho => by
  obtain ⟨cs, hg⟩ := h.2 b hb
  exact hO b ho cs _ hg
 refine ⟨h.1.fo hf hn, fun b hb => ?_⟩
 obtain ⟨cs, hg⟩ := h.2 b hb
 exact ⟨cs, hf.heap (hn b hb) hg⟩
theorem RdT.off {w w' : World} {v : Value} {l : List Int} {O : Nat -> Prop} (h : RdT w v l) (hf : Fo O w w') (hn : ∀ b, v.ownBlock = some b -> ¬ O b) : RdT w' v l := by
 refine ⟨h.1.fo hf hn, fun b hb => ?_⟩
 obtain ⟨cs, hg⟩ := h.2 b hb
 exact ⟨cs, hf.heap (hn b hb) hg⟩
theorem Fo.four {O : Nat -> Prop} {a w : World} (h : Fo O a w) {g : Nat} (hg : O g ∨ a.heap.size <= g) (u0 u1 u2 u3 : Value) :
 Fo O a ((((w.setCell ⟨g, 0, none⟩ u0).setCell ⟨g, 1, none⟩ u1).setCell ⟨g, 2, none⟩ u2).setCell ⟨g, 3, none⟩ u3) :=
 (((h.setCell (p := ⟨g, 0, none⟩) hg u0).setCell (p := ⟨g, 1, none⟩) hg u1).setCell (p := ⟨g, 2, none⟩) hg u2).setCell (p := ⟨g, 3, none⟩) hg u3
theorem Kept.four {bs : List Nat} {a w : World} (h : Kept a w bs) {g : Nat} (hg : g ∈ bs ∨ a.heap.size <= g) (u0 u1 u2 u3 : Value) :
 Kept a ((((w.setCell ⟨g, 0, none⟩ u0).setCell ⟨g, 1, none⟩ u1).setCell ⟨g, 2, none⟩ u2).setCell ⟨g, 3, none⟩ u3) bs :=
 (((h.setCell (p := ⟨g, 0, none⟩) hg u0).setCell (p := ⟨g, 1, none⟩) hg u1).setCell (p := ⟨g, 2, none⟩) hg u2).setCell (p := ⟨g, 3, none⟩) hg u3
theorem RdT.keep {w w' : World} {v : Value} {l : List Int} (h : RdT w v l) (hk : Kept w w' []) : RdT w' v l := h.fo (Fo.ofKept hk (fun _ => False)) (NoI.none w)
theorem RdT.nil (w : World) : RdT w (.slice none 0 0) [] := ⟨RdI.nil w, fun b hb => by simp [Value.ownBlock] at hb⟩
theorem ic_length (l : List Int) : (ic l).length = l.length := by simp [ic]
theorem ic_one (l : List Int) : ∀ u ∈ ic l, u.oneCell' = true := by
 intro u hu
 obtain ⟨_, _, rfl⟩ := List.mem_map.1 hu
 rfl
theorem owns_rdT {w : World} {B : Nat} {v : Value} {l : List Int} (h : w.ownsRow B 2 1 v l.length (ic l)) : RdT w v l := by
 rcases h.2 with ⟨rfl, hn⟩ | ⟨g, cap, cur, rfl, hb, hg, hnc, hcm, hcs, ht⟩
 ·have : l = [] := List.eq_nil_of_length_eq_zero hn
  subst this
  exact RdT.nil w
 refine ⟨⟨some ⟨g, 0, none⟩, cap, rfl, hnc, hcm, by simp, fun _ => ⟨g, 0, rfl, fun i hi => ?_⟩⟩, fun b hb => ?_⟩
 ·have := World.ownsRow.cells h (g := g) rfl i _ (ic_get l i hi)
  simpa [Addr.add_lit] using this
 simp only [Value.ownBlock, Option.some.injEq] at hb
 subst hb
 exact ⟨cur, hg⟩
theorem RdI.src {P : Program} {w : World} {v : Value} {l : List Int} (h : RdI w v l) {tx e' : TypeId} (hk : P.underlying tx = some (.slice e')) : Src P 1 tx v l.length (ic l) w := by
 obtain ⟨a, c, rfl, hc, hm, ha, hl⟩ := h
 by_cases hne : l = []
 ·subst hne
  cases a with
  | none => obtain rfl := ha rfl; exact Src.ofNil w hk 0
  | some x => exact Src.ofSlice w hk x 0 c [] rfl (by simp) (by simp)
 obtain ⟨b, o, rfl, hcell⟩ := hl hne
 refine Src.ofSlice w hk ⟨b, o, none⟩ l.length c (ic l) (by rw [ic_length, Nat.mul_one]) (fun j u hu => ?_) (ic_one l)
 have hj := (List.getElem?_eq_some_iff.1 hu).1
 rw [ic_length] at hj
 rw [Addr.add_lit, hcell j hj, <- hu, ic_get l j hj]
theorem Tk.cs_size (e : Tk) : e.cs.size = 4 := rfl
def tcs : List Tk -> List Value
 | [] => []
 | e :: t => e.cs.toList ++ tcs t
theorem yqm (l : List Tk) : (tcs l).length = l.length * 4 := by
 induction l with
 | nil => rfl
 | cons e t ih =>
 rw [tcs, List.length_append, ih, List.length_cons, Array.length_toList, Tk.cs_size]
 omega
theorem tcs_append (l m : List Tk) : tcs (l ++ m) = tcs l ++ tcs m := by
 induction l with
 | nil => rfl
 | cons e t ih => rw [List.cons_append, tcs, tcs, ih, List.append_assoc]
theorem tcs_one (l : List Tk) : ∀ u ∈ tcs l, u.oneCell' = true := by
 induction l with
 | nil => intro u hu; simp [tcs] at hu
 | cons e t ih =>
 intro u hu
 rcases List.mem_append.1 hu with h | h
 ·simp only [Tk.cs, List.mem_cons, List.not_mem_nil, or_false] at h
  rcases h with rfl | rfl | rfl | rfl <;> rfl
 exact ih u h
theorem tcs_get (l : List Tk) : ∀ (i j : Nat) (h : i < l.length), j < 4 -> (tcs l)[i * 4 + j]? = (l[i]).cs[j]? := by
 induction l with
 | nil => intro i j h; simp at h
 | cons e t ih =>
 intro i j h hj
 rw [tcs]
 cases i with
 | zero =>
 rw [Nat.zero_mul, Nat.zero_add, List.getElem?_append_left (by rw [Array.length_toList, Tk.cs_size]; exact hj), Array.getElem?_toList]
 rfl
 | succ i =>
 rw [List.getElem?_append_right (by rw [Array.length_toList, Tk.cs_size]; omega), Array.length_toList, Tk.cs_size, show (i + 1) * 4 + j - 4 = i * 4 + j by omega]
 exact ih i j (by simpa using h) hj
theorem tcs_set (l : List Tk) : ∀ (i : Nat) (e : Tk), i < l.length -> tcs (l.set i e) = (tcs l).take (i * 4) ++ e.cs.toList ++ (tcs l).drop (i * 4 + 4) := by
 induction l with
 | nil => intro i e h; simp at h
 | cons a t ih =>
 intro i e h
 have ha : a.cs.toList.length = 4 := rfl
 cases i with
 | zero =>
 rw [List.set_cons_zero, tcs, tcs, Nat.zero_mul, Nat.zero_add, List.take_zero, List.nil_append, List.drop_append_of_le_length (by omega), List.drop_of_length_le (by omega), List.nil_append]
 | succ i =>
 rw [List.set_cons_succ, tcs, tcs, ih i e (by simpa using h), show (i + 1) * 4 = 4 + i * 4 by omega, List.take_append, ha, List.take_of_length_le (l := a.cs.toList) (by omega), show 4 + i * 4 - 4 = i * 4 by omega, show 4 + i * 4 + 4 = 4 + (i * 4 + 4) by omega, List.drop_append, ha, List.drop_of_length_le (l := a.cs.toList) (by omega), List.nil_append, show 4 + (i * 4 + 4) - 4 = i * 4 + 4 by omega]
 simp
def RdL (w : World) (v : Value) (l : List Tk) : Prop :=
 ∃ a c, v = .slice a l.length c /\ l.length <= c /\ (a = none -> c = 0) /\
  (l ≠ [] -> ∃ b o, a = some ⟨b, o, none⟩ /\ ∀ k, k < l.length * 4 -> w.cell? ⟨b, o + k, none⟩ = (tcs l)[k]?)
theorem RdL.nil (w : World) : RdL w (.slice none 0 0) [] := ⟨none, 0, rfl, Nat.le_refl _, fun _ => rfl, fun h => absurd rfl h⟩
theorem tcs_some (l : List Tk) (k : Nat) (h : k < l.length * 4) : ∃ u, (tcs l)[k]? = some u := ⟨_, List.getElem?_eq_getElem (by rw [yqm]; exact h)⟩
theorem RdL.src {P : Program} {w : World} {v : Value} {l : List Tk} (h : RdL w v l) {tx e' : TypeId} (hk : P.underlying tx = some (.slice e')) : Src P 4 tx v l.length (tcs l) w := by
 obtain ⟨a, c, rfl, hc, ha, hl⟩ := h
 by_cases hne : l = []
 ·subst hne
  cases a with
  | none => obtain rfl := ha rfl; exact Src.ofNil w hk 0
  | some x => exact Src.ofSlice w hk x 0 c [] rfl (by simp) (by simp)
 obtain ⟨b, o, rfl, hcell⟩ := hl hne
 refine Src.ofSlice w hk ⟨b, o, none⟩ l.length c (tcs l) (yqm l) (fun j u hu => ?_) (tcs_one l)
 have hj := (List.getElem?_eq_some_iff.1 hu).1
 rw [yqm] at hj
 rw [Addr.add_lit, hcell j hj]
 exact hu
def OwnT (w : World) (base : Nat) (e : TypeId) (v : Value) (l : List Tk) : Prop := w.ownsRow base e 4 v l.length (tcs l)
theorem OwnT.nil (w : World) (base : Nat) (e : TypeId) : OwnT w base e (.slice none 0 0) [] := World.ownsRow_nil w base e 4
theorem OwnT.rd {w : World} {base : Nat} {e : TypeId} {v : Value} {l : List Tk} (h : OwnT w base e v l) : RdL w v l := by
 rcases h.2 with ⟨rfl, hn⟩ | ⟨g, cap, cur, rfl, hb, hg, hnc, hcm, hcs, ht⟩
 ·have : l = [] := List.eq_nil_of_length_eq_zero hn
  subst this
  exact RdL.nil w
 refine ⟨some ⟨g, 0, none⟩, cap, rfl, hnc, by simp, fun _ => ⟨g, 0, rfl, fun k hk => ?_⟩⟩
 obtain ⟨u, hu⟩ := tcs_some l k hk
 have := World.ownsRow.cells h (g := g) rfl k u hu
 rw [hu]
 simpa [Addr.add_lit] using this
theorem OwnT.kept {w w' : World} {base : Nat} {e : TypeId} {v : Value} {l : List Tk} {bs : List Nat} (h : OwnT w base e v l) (hk : Kept w w' bs) (hb : ∀ b, v.ownBlock = some b -> b ∉ bs) : OwnT w' base e v l := by
 refine ⟨h.1, ?_⟩
 rcases h.2 with h2 | ⟨g, cap, cur, rfl, hbg, hg, rest⟩
 ·exact .inl h2
 exact .inr ⟨g, cap, cur, rfl, hbg, hk.heap (hb g rfl) hg, rest⟩
theorem OwnT.mono {w : World} {base base' : Nat} {e : TypeId} {v : Value} {l : List Tk} (h : OwnT w base e v l) (hb : base' <= base) : OwnT w base' e v l := by
 refine ⟨h.1, ?_⟩
 rcases h.2 with h2 | ⟨g, cap, cur, rfl, hbg, r⟩
 ·exact .inl h2
 exact .inr ⟨g, cap, cur, rfl, by omega, r⟩
theorem OwnT.lt {w : World} {base : Nat} {e : TypeId} {v : Value} {l : List Tk} (h : OwnT w base e v l) : ∀ b, v.ownBlock = some b -> base <= b /\ b < w.heap.size := World.ownsRow.lt h
theorem OwnT.shape {w : World} {base : Nat} {e : TypeId} {v : Value} {l : List Tk} (h : OwnT w base e v l) : ∃ a c, v = .slice a l.length c := by
 rcases h.2 with ⟨rfl, hn⟩ | ⟨g, cap, cur, rfl, _⟩
 ·exact ⟨none, 0, by rw [hn]⟩
 exact ⟨_, _, rfl⟩
theorem OwnT.at {w : World} {base : Nat} {e : TypeId} {a : Option Addr} {n c : Nat} {l : List Tk} (h : OwnT w base e (.slice a n c) l) (i : Nat) (hi : i < l.length) :
 ∃ g, a = some ⟨g, 0, none⟩ /\ ∀ j, j < 4 -> w.cell? ⟨g, i * 4 + j, none⟩ = (l[i]).cs[j]? /\ w.frozen? ⟨g, i * 4 + j, none⟩ = false := by
 rcases h.2 with ⟨h1, hn⟩ | ⟨g, cap, cur, hv, hb, hg, hnc, hcm, hcs, ht⟩
 ·simp at hn; subst hn; simp at hi
 ·simp only [Value.slice.injEq] at hv
  obtain ⟨rfl, _, _⟩ := hv
  refine ⟨g, rfl, fun j hj => ⟨?_, frozen_of_row _ _ _ _ _ hg⟩⟩
  obtain ⟨u, hu⟩ := tcs_some l (i * 4 + j) (by omega)
  have := World.ownsRow.cells h (g := g) rfl _ u hu
  rw [Addr.add_lit, Nat.zero_add] at this
  rw [this, <- hu, tcs_get l i j hi hj]
theorem heap_set4 {w : World} {g : Nat} {cs : Array Value} {t : TypeId} {fz : Nat × Nat} (h : w.heap[g]? = some (.cells cs t fz)) (k : Nat) (u0 u1 u2 u3 : Value) :
 ((((w.setCell ⟨g, k + 0, none⟩ u0).setCell ⟨g, k + 1, none⟩ u1).setCell ⟨g, k + 2, none⟩ u2).setCell ⟨g, k + 3, none⟩ u3).heap[g]? =
  some (.cells ((((cs.setIfInBounds (k + 0) u0).setIfInBounds (k + 1) u1).setIfInBounds (k + 2) u2).setIfInBounds (k + 3) u3) t fz) :=
 xqb (xqb (xqb (xqb h _ u0) _ u1) _ u2) _ u3
theorem set4_list (xs : List Value) (k : Nat) (u0 u1 u2 u3 : Value) (h : k + 4 <= xs.length) :
 ((((xs.set (k + 0) u0).set (k + 1) u1).set (k + 2) u2).set (k + 3) u3) = xs.take k ++ [u0, u1, u2, u3] ++ xs.drop (k + 4) := by
 have e : xs = xs.take k ++ (xs.drop k) := (List.take_append_drop k xs).symm
 obtain ⟨A, hA⟩ : ∃ A, A = xs.take k := ⟨_, rfl⟩
 obtain ⟨B, hB⟩ : ∃ B, B = xs.drop k := ⟨_, rfl⟩
 have hl : A.length = k := by rw [hA, List.length_take]; omega
 have hB4 : 4 <= B.length := by rw [hB, List.length_drop]; omega
 have hd : xs.drop (k + 4) = B.drop 4 := by rw [hB, List.drop_drop]
 rw [hd, <- hA]
 rw [<- hA, <- hB] at e
 rw [e]
 match B, hB4 with
 | b0 :: b1 :: b2 :: b3 :: r, _ =>
  subst hl
  simp
theorem OwnT.put {w : World} {base g n c : Nat} {e : TypeId} {l : List Tk} (h : OwnT w base e (.slice (some ⟨g, 0, none⟩) n c) l) (i : Nat) (hi : i < l.length) (x : Tk) :
 OwnT ((((w.setCell ⟨g, i * 4, none⟩ (.int .i64 x.n)).setCell ⟨g, i * 4 + 1, none⟩ (.int .i64 x.M)).setCell ⟨g, i * 4 + 2, none⟩ (.slice x.a x.l.length x.c)).setCell ⟨g, i * 4 + 3, none⟩ (.int .i64 x.t))
  base e (.slice (some ⟨g, 0, none⟩) n c) (l.set i x) := by
 refine ⟨by rw [yqm, List.length_set], ?_⟩
 rcases h.2 with ⟨h1, _⟩ | ⟨g', cap, cur, hv, hb, hg, hnc, hcm, hcs, ht⟩
 ·simp at h1
 ·simp only [Value.slice.injEq, Option.some.injEq, Addr.mk.injEq] at hv
  obtain ⟨⟨rfl, _⟩, rfl, rfl⟩ := hv
  refine .inr ⟨g, c, _, by rw [List.length_set], hb, heap_set4 hg (i * 4) (.int .i64 x.n) (.int .i64 x.M) (.slice x.a x.l.length x.c) (.int .i64 x.t), by rw [List.length_set]; exact hnc, hcm, by simpa using hcs, ?_⟩
  have hl1 : cur.toList.length = cur.size := Array.length_toList
  have hl : l.length * 4 <= cur.toList.length := by omega
  simp only [Array.toList_setIfInBounds, List.length_set]
  rw [set4_list _ _ _ _ _ _ (by omega), tcs_set l i x hi, <- ht]
  have hA : (cur.toList.take (i * 4)).length = i * 4 := by rw [List.length_take]; omega
  rw [List.take_take, Nat.min_eq_left (by omega), List.take_append, List.take_of_length_le (by rw [List.length_append, hA]; simp; omega)]
  congr 1
  rw [List.length_append, hA, List.drop_take]
  rfl
theorem OwnT.fo {w w' : World} {base : Nat} {e : TypeId} {v : Value} {m : List Tk} {O : Nat -> Prop} (x : OwnT w base e v m) (hf : Fo O w w') (he : ∀ g, v.ownBlock = some g -> ¬ O g) : OwnT w' base e v m := yqB x hf he
theorem OwnT.tag {w : World} {base : Nat} {e : TypeId} {v : Value} {m : List Tk} (x : OwnT w base e v m) {k : Nat} (hk : v.ownBlock = some k) : ∃ cur, w.heap[k]? = some (.cells cur e (0, 0)) := by
 rcases x.2 with ⟨rfl, _⟩ | ⟨g, cap, cur, rfl, _, hg, _⟩
 ·simp [Value.ownBlock] at hk
 simp only [Value.ownBlock, Option.some.injEq] at hk
 subst hk
 exact ⟨cur, hg⟩
structure Tc (T : TypeId) (r : List Value) (w : World) (B h : Nat) (V : Value) (xs : List Tk) : Prop where
 hh : w.heap[h]? = some (.cells (V :: r).toArray T (0, 0))
 bh : B <= h
 hT : T ≠ 38 /\ T ≠ 2
 own : OwnT w B 38 V xs
 rd : ∀ x ∈ xs, RdT w x.op x.l
def xqx (h : Nat) (V : Value) : Nat -> Prop := fun k => k = h ∨ V.ownBlock = some k
variable {T : TypeId} {r : List Value} {w w' : World} {B h : Nat} {V : Value} {xs : List Tk}
theorem Tc.cell (a : Tc T r w B h V xs) : w.cell? ⟨h, 0, none⟩ = some V /\ w.frozen? ⟨h, 0, none⟩ = false :=
 ⟨by rw [cell_of_row _ _ _ _ _ _ a.hh]; rfl, frozen_of_row _ _ _ _ _ a.hh⟩
theorem Tc.lt (a : Tc T r w B h V xs) : ∀ k, xqx h V k -> B <= k /\ k < w.heap.size := by
 rintro k (rfl | hk)
 ·exact ⟨a.bh, xqh a.hh⟩
 exact a.own.lt k hk
theorem Tc.size (a : Tc T r w B h V xs) : B <= w.heap.size := by have := xqh a.hh; have := a.bh; omega
theorem Tc.shape (a : Tc T r w B h V xs) : ∃ u c, V = .slice u xs.length c := a.own.shape
theorem Tc.noI (a : Tc T r w B h V xs) : NoI w (xqx h V) := by
 rintro k (rfl | hk) cs fz hg
 ·rw [a.hh] at hg
  simp only [Option.some.injEq, Obj.cells.injEq] at hg
  exact a.hT.2 hg.2.1
 obtain ⟨cur, hc⟩ := a.own.tag hk
 rw [hc] at hg
 simp only [Option.some.injEq, Obj.cells.injEq] at hg
 exact absurd hg.2.1 (by decide)
theorem Tc.apart (a : Tc T r w B h V xs) : V.ownBlock ≠ some h := by
 intro hk
 obtain ⟨cur, hc⟩ := a.own.tag hk
 rw [a.hh] at hc
 simp only [Option.some.injEq, Obj.cells.injEq] at hc
 exact a.hT.1 hc.2.1
theorem Tc.fo (a : Tc T r w B h V xs) {O : Nat -> Prop} (hf : Fo O w w') (hd : ∀ k, xqx h V k -> ¬ O k) (hn : NoI w O) : Tc T r w' B h V xs :=
 ⟨hf.heap (hd h (.inl rfl)) a.hh, a.bh, a.hT, a.own.fo hf (fun g hg => hd g (.inr hg)), fun x hx => (a.rd x hx).fo hf hn⟩
theorem Tc.keep (a : Tc T r w B h V xs) (hk : Kept w w' []) : Tc T r w' B h V xs := a.fo (Fo.ofKept hk (fun _ => False)) (fun _ _ h => h) (NoI.none w)
theorem Tc.lay (a : Tc T r w B h V xs) {w1 : World} (f : Fo (fun k => V.ownBlock = some k) w w1) {v : Value} {m : List Tk} (x : OwnT w1 B 38 v m) (rd : ∀ x ∈ m, RdT w1 x.op x.l)
 (hv : ∀ k, v.ownBlock = some k -> V.ownBlock = some k ∨ w.heap.size <= k) :
 (w1.cell? ⟨h, 0, none⟩ = some V /\ w1.frozen? ⟨h, 0, none⟩ = false) /\ Tc T r (w1.setCell ⟨h, 0, none⟩ v) B h v m /\ Stp (xqx h V) (xqx h v) w (w1.setCell ⟨h, 0, none⟩ v) := by
 have hh : w1.heap[h]? = _ := f.heap a.apart a.hh
 have f2 : Fo (xqx h V) w w1 := f.mono (fun k hk => .inr hk)
 have f3 : Fo (fun k => k = h) w1 (w1.setCell ⟨h, 0, none⟩ v) := Fo.setCell (O := fun k => k = h) (Fo.refl _ w1) (p := ⟨h, 0, none⟩) (.inl rfl) v
 have hvh : v.ownBlock ≠ some h := by
  intro hk
  rcases hv h hk with h1 | h1
  ·exact a.apart h1
  have := xqh a.hh; omega
 have n3 : NoI w1 (fun k => k = h) := by
  rintro k rfl cs fz hg
  rw [hh] at hg
  simp only [Option.some.injEq, Obj.cells.injEq] at hg
  exact a.hT.2 hg.2.1
 refine ⟨⟨by rw [cell_of_row _ _ _ _ _ _ hh]; rfl, frozen_of_row _ _ _ _ _ hh⟩, ⟨?_, a.bh, a.hT, x.fo f3 (fun g hg e => by subst e; exact hvh hg), fun y hy => (rd y hy).fo f3 n3⟩, f2.setCell (.inl (.inl rfl)) v, ?_⟩
 ·rw [xqb hh]
  rfl
 ·rintro k (rfl | hk)
  ·exact .inl (.inl rfl)
  exact (hv k hk).imp (fun h => .inr h) id
def xqk (ps : List Pt) : Int := match ps.getLast? with | some p => p.n | none => 0
def covB (A B : Int) (l m : List Int) : Bool := l.all (fun x => !xqv B m x) && (decide (B <= A) || ((hid A m : Int) == B - A))
theorem covB_iff {A B : Int} {l m : List Int} (hA : xqn A l = true) (hB : xqn B m = true) : covB A B l m = true ↔ Cover A B l m := by
 by_cases h : ∀ x ∈ l, xqv B m x = false
 ·have h1 : l.all (fun x => !xqv B m x) = true := by
   rw [List.all_eq_true]
   intro x hx
   rw [h x hx]; rfl
  have h2 : ∀ x ∈ l.take l.length, xqv B m x = false := by rw [List.take_length]; exact h
  unfold covB
  rw [h1, Bool.true_and]
  by_cases hAB : B <= A
  ·simp only [hAB, decide_true, Bool.true_or, true_iff]
   exact hid_cover2 hA hB (Nat.le_refl _) h2 hAB
  have := hid_cover hA hB (Nat.le_refl _) h2 (Nat.le_refl m.length) hAB
  rw [List.take_length] at this
  rw [decide_eq_false hAB, Bool.false_or]
  exact this
 have h0 : ∃ x ∈ l, xqv B m x = true := by
  apply Classical.byContradiction
  intro hn
  apply h
  intro x hx
  cases hs : xqv B m x with
  | false => rfl
  | true => exact absurd ⟨x, hx, hs⟩ hn
 obtain ⟨x, hx, hs⟩ := h0
 refine iff_of_false ?_ (fun hc => (xqX.1 (hc x hs)).2.2 hx)
 intro hc
 simp only [covB, Bool.and_eq_true, List.all_eq_true, Bool.not_eq_true'] at hc
 rw [hc.1 x hx] at hs
 cases hs
def folB (ps : List Pt) (M : Int) (l : List Int) (t : Int) : Bool := match ps.getLast? with | some p => decide (p.t <= t) && covB M p.M l p.l | none => true
def addE (ps : List Pt) (M : Int) (l : List Int) (t : Int) : Int :=
 if 64 <= ps.length then 8 else if xqn M l = false then 1 else if folB ps M l t = true then 0 else 1
def addP (ps : List Pt) (M : Int) (l : List Int) (t : Int) : Pt := if addE ps M l t = 0 then ⟨xqk ps + 1, M, l, t⟩ else ⟨0, 0, [], 0⟩
def addS (ps : List Pt) (M : Int) (l : List Int) (t : Int) : List Pt := if addE ps M l t = 0 then ps ++ [⟨xqk ps + 1, M, l, t⟩] else ps
structure Okp (ps : List Pt) : Prop where
 right : ∀ p ∈ ps, xqn p.M p.l = true
 wide : ∀ p ∈ ps, p.M <= 9223372036854775807
 len : ∀ p ∈ ps, p.l.length <= 1000
 up : ∀ p ∈ ps, p.n <= xqk ps
 size : ps.length <= 64
 n0 : 0 <= xqk ps
theorem Okp.nil : Okp [] := ⟨by simp, by simp, by simp, by simp, by simp, by simp [xqk]⟩
theorem xq4 (ps : List Pt) (p : Pt) : xqk (ps ++ [p]) = p.n := by simp [xqk]
theorem addE_zero {ps : List Pt} {M : Int} {l : List Int} {t : Int} (h : addE ps M l t = 0) : ps.length < 64 /\ xqn M l = true := by
 unfold addE at h
 by_cases h1 : 64 <= ps.length
 ·rw [if_pos h1] at h; omega
 rw [if_neg h1] at h
 cases h2 : xqn M l with
 | false => rw [h2, if_pos rfl] at h; omega
 | true => exact ⟨by omega, rfl⟩
theorem Okp.add {ps : List Pt} (a : Okp ps) {M : Int} {l : List Int} (t : Int) (hM : M <= 9223372036854775807) (hl : l.length <= 1000) : Okp (addS ps M l t) := by
 unfold addS
 by_cases h : addE ps M l t = 0
 ·rw [if_pos h]
  obtain ⟨h1, h2⟩ := addE_zero h
  have hn := a.n0
  refine ⟨?_, ?_, ?_, ?_, by simp; omega, by rw [xq4]; show 0 <= xqk ps + 1; omega⟩
  ·intro p hp
   rcases List.mem_append.1 hp with hp | hp
   ·exact a.right p hp
   obtain rfl := List.mem_singleton.1 hp; exact h2
  ·intro p hp
   rcases List.mem_append.1 hp with hp | hp
   ·exact a.wide p hp
   obtain rfl := List.mem_singleton.1 hp; exact hM
  ·intro p hp
   rcases List.mem_append.1 hp with hp | hp
   ·exact a.len p hp
   obtain rfl := List.mem_singleton.1 hp; exact hl
  intro p hp
  rw [xq4]
  rcases List.mem_append.1 hp with hp | hp
  ·have := a.up p hp; show p.n <= xqk ps + 1; omega
  obtain rfl := List.mem_singleton.1 hp; exact Int.le_refl _
 rw [if_neg h]; exact a
theorem lastN_add (ps : List Pt) (M : Int) (l : List Int) (t : Int) : xqk (addS ps M l t) = if addE ps M l t = 0 then xqk ps + 1 else xqk ps := by
 unfold addS
 by_cases h : addE ps M l t = 0
 ·rw [if_pos h, if_pos h, xq4]
 rw [if_neg h, if_neg h]
def trimP (ps : List Pt) (b : Int) (p : Pt) : Bool := decide (p.n < min b (xqk ps))
def xqM (ps : List Pt) (b : Int) : List Pt := ps.filter fun p => !trimP ps b p
theorem trimS_doc {ps : List Pt} (a : Okp ps) (b : Int) : xqM ps b = ps.filter fun p => decide (b <= p.n) || p.n == xqk ps := by
 unfold xqM
 apply List.filter_congr
 intro p hp
 have := a.up p hp
 unfold trimP
 rw [Bool.eq_iff_iff]
 simp only [Bool.not_eq_true', decide_eq_false_iff_not, Bool.or_eq_true, decide_eq_true_eq, beq_iff_eq]
 omega
theorem trimS_last (ps : List Pt) (b : Int) : (xqM ps b).getLast? = ps.getLast? := by
 rcases List.eq_nil_or_concat ps with rfl | ⟨q, p, rfl⟩
 ·rfl
 have e : xqk (q ++ [p]) = p.n := xq4 q p
 have h : (!trimP (q ++ [p]) b p) = true := by
  unfold trimP
  rw [e]
  simp only [Bool.not_eq_true', decide_eq_false_iff_not]
  omega
 unfold xqM
 simp only [List.concat_eq_append] at *
 rw [List.filter_append, List.filter_cons_of_pos (by exact h)]
 simp
theorem yqD (ps : List Pt) (b : Int) : xqk (xqM ps b) = xqk ps := by unfold xqk; rw [trimS_last]
theorem Okp.trim {ps : List Pt} (a : Okp ps) (b : Int) : Okp (xqM ps b) := by
 have hs : ∀ p ∈ xqM ps b, p ∈ ps := fun p hp => (List.mem_filter.1 hp).1
 exact ⟨fun p hp => a.right p (hs p hp), fun p hp => a.wide p (hs p hp), fun p hp => a.len p (hs p hp), fun p hp => by rw [yqD]; exact a.up p (hs p hp), Nat.le_trans (List.length_filter_le _ _) a.size, by rw [yqD]; exact a.n0⟩
def getS (ps : List Pt) (n : Int) : Option Pt := ps.find? fun p => p.n == n
def aftS (ps : List Pt) (n : Int) : Option Pt := ps.find? fun p => decide (n < p.n)
theorem Tryz.infoTk : (Tryz.prog.info? 38).map (fun i => (i.zero, i.size, i.bytes)) = some (some (.agg #[.int .i64 0, .int .i64 0, .slice none 0 0, .int .i64 0]), 4, 48) := by kernel_rfl
abbrev tkT : TypeId := 154
theorem xqc {w : World} {z : Nat} {b0 b1 b3 : Int} {b2 : Value} {T : TypeId} (hz : w.heap[z]? = some (.cells #[.int .i64 b0, .int .i64 b1, b2, .int .i64 b3] T (0, 0))) :
 w.cell? ⟨z, 0, none⟩ = some (.int .i64 b0) /\ w.cell? ⟨z, 1, none⟩ = some (.int .i64 b1) /\ w.cell? ⟨z, 2, none⟩ = some b2 /\ w.cell? ⟨z, 3, none⟩ = some (.int .i64 b3) :=
 ⟨by rw [cell_of_row _ _ _ _ _ _ hz]; rfl, by rw [cell_of_row _ _ _ _ _ _ hz]; rfl, by rw [cell_of_row _ _ _ _ _ _ hz]; rfl, by rw [cell_of_row _ _ _ _ _ _ hz]; rfl⟩
theorem xqf {w : World} {z : Nat} {cs : Array Value} {T : TypeId} (hz : w.heap[z]? = some (.cells cs T (0, 0))) :
 w.frozen? ⟨z, 0, none⟩ = false /\ w.frozen? ⟨z, 1, none⟩ = false /\ w.frozen? ⟨z, 2, none⟩ = false /\ w.frozen? ⟨z, 3, none⟩ = false :=
 ⟨frozen_of_row _ _ _ _ _ hz, frozen_of_row _ _ _ _ _ hz, frozen_of_row _ _ _ _ _ hz, frozen_of_row _ _ _ _ _ hz⟩
variable {w w' : World} {B h : Nat} {V : Value} {xs : List Tk}
theorem iclone_any (v : Value) (l : List Int) (w : World) (h : RdI w v l) (hl : l.length <= 10000000) :
 Calls Tryz.prog 175 #[v] w fun e w' => ∃ v', e = .returned v' /\ (∃ a c, v' = .slice a l.length c) /\ RdT w' v' l /\ (∀ b, v'.ownBlock = some b -> w.heap.size <= b) /\ Kept w w' [] := by
 obtain ⟨i0, hi, hz0, hz1, hz2⟩ := info_parts Tryz.infoI
 obtain ⟨a, c, rfl, hc, hm, ha, hcell⟩ := id h
 have H := iH h; clear h hcell
 have q22 : ∀ (w : World) (a : Option Addr) (n c n' c' : Nat), (binOp .eql 34 (.slice a n c) (.slice none n' c')).run Tryz.prog w = .ok (.bool a.isNone) w := fun w a n c n' c' => Lib.run_eql_slice_nil w _ _ a n c n' c' Tryz.underlying34
 cases a with
 | none =>
 obtain rfl := ha rfl
 obtain rfl : l = [] := List.eq_nil_of_length_eq_zero (by omega)
 clear ha
 go_enter Tryz.func175, Tryz.ntmps175
 go_wp2
 go_ret
 exact ⟨_, rfl, ⟨none, 0, rfl⟩, RdT.nil _, by intro b hb; simp [Value.ownBlock] at hb, Kept.refl _ _⟩
 | some x =>
  clear ha
  go_enter Tryz.func175, Tryz.ntmps175
  go_wp2_with (at_builtin; refine xqe _ rfl (.tmp 5) (.tmp 6) 34 34 rfl w.heap.size 2 i0 _ 1 8 Tryz.underlying34 hi hz0 hz1 hz2 rfl (.slice (some ⟨w.heap.size, 0, none⟩) 0 0) 0 [] rfl ?hown (.slice (some x) l.length c) l.length (ic l) rfl ?src ?b1 ?b2 ?base ?next)
  case hown => exact World.ownsRow_made w #[] 0 (Nat.le_refl _) (Nat.zero_le _) (by simp)
  case src => exact (H.out.keep ((Kept.refl w []).alloc _)).src Tryz.underlying34
  case b1 => unfold maxLen; omega
  case b2 => omega
  case base => simp
  case next =>
  intro v2 w2 hown hgrow _ _
  have ho : w2.ownsRow w.heap.size 2 1 v2 l.length (ic l) := by simpa using hown
  have hk : Kept w w2 [] := ((Kept.refl w []).alloc _).grown hgrow (fun k hk => .inr (by simp [Value.ownBlock] at hk; omega))
  have Ho := iH ho; have Hk := iH hk
  clear ho hk hown hgrow
  go_wp2
  go_ret
  exact ⟨_, rfl, xqw Ho.out, owns_rdT Ho.out, fun b hb => (World.ownsRow.lt Ho.out b hb).1, Hk.out⟩
theorem own_any (x : Tk) (w : World) (h : RdI w x.op x.l) (hl : x.l.length <= 10000000) :
 Calls Tryz.prog 133 #[.agg x.cs] w fun e w' => ∃ y : Tk, e = .returned (.agg y.cs) /\ y.pl = x.pl /\ RdT w' y.op y.l /\ (∀ b, y.op.ownBlock = some b -> w.heap.size <= b) /\ Kept w w' [] := by
 obtain ⟨n, M, a, c, l, t⟩ := x
 simp only [Tk.op, Tk.cs] at *
 obtain ⟨z, hz⟩ : ∃ z, z = w.heap.size := ⟨_, rfl⟩
 obtain ⟨W1, hW1⟩ : ∃ W1, W1 = (w.alloc (.cells #[.int .i64 n, .int .i64 M, .slice a l.length c, .int .i64 t] 38)).alloc (.cells #[.int .i64 0, .int .i64 0, .slice none 0 0, .int .i64 0] 38) := ⟨_, rfl⟩
 have k1 : Kept w W1 [] := by rw [hW1]; exact ((Kept.refl w []).alloc _).alloc _
 have e1 : (w.alloc (.cells #[.int .i64 n, .int .i64 M, .slice a l.length c, .int .i64 t] 38)).heap.size = z + 1 := by rw [hz]; simp
 have g0 : W1.heap[z]? = some (.cells #[.int .i64 n, .int .i64 M, .slice a l.length c, .int .i64 t] 38 (0, 0)) := by rw [hW1, hz]; exact (Below.heap_alloc _ _ _ (by simp)).trans (heap_alloc_new w _)
 have g1 : W1.heap[z + 1]? = some (.cells #[.int .i64 0, .int .i64 0, .slice none 0 0, .int .i64 0] 38 (0, 0)) := by rw [hW1, <- e1]; exact heap_alloc_new _ _
 have IC := iH (iclone_any _ l W1 (h.keep k1) hl)
 have s1 : W1.heap.size = w.heap.size + 2 := by rw [hW1]; simp
 have S1 := iH s1
 have K1 := iH k1; have HW1 := iH hW1; have HZ := iH hz; have G0 := iH g0; have G1 := iH g1
 obtain ⟨c0, c1, c2, c3⟩ := xqc g0
 clear h k1 g0 g1 hz e1 s1
 go_enter Tryz.func133, Tryz.ntmps133
 go_wp2_with fail
 rw [<- HW1.out, <- HZ.out]
 clear hW1
 refine IC.out.mono ?_
 rintro e w2 ⟨v', rfl, ⟨a', c', rfl⟩, hr, hf, k2⟩
 have HR := iH hr; have HF := iH hf; have K2 := iH k2
 have g2 := k2.heap (by simp) G0.out
 have g3 := k2.heap (by simp) G1.out
 have G2 := iH g2; have G3 := iH g3
 clear c0 c1 c2 c3
 obtain ⟨c0, c1, c2, c3⟩ := xqc g2
 obtain ⟨f0, f1, f2, f3⟩ := xqf g2
 obtain ⟨d0, d1, d2, d3⟩ := xqc g3
 obtain ⟨e0, e1, e2, e3⟩ := xqf g3
 clear hr hf k2 g2 g3
 go_wp2
 refine bodyPost_ret (v := .agg #[.int .i64 n, .int .i64 M, .slice a' l.length c', .int .i64 t]) (by simp [results, Tryz.results133, go_sem, *]) rfl ?_
 refine ⟨⟨n, M, a', c', l, t⟩, rfl, rfl, ?_, fun b hb => by have := HF.out b hb; have := S1.out; omega, ?_⟩
 ·have fo : Fo (fun k => k = z ∨ k = z + 1) w2 (w2.setCell ⟨z, 2, none⟩ (.slice a' l.length c')) := Fo.setCell (O := fun k => k = z ∨ k = z + 1) (Fo.refl _ w2) (p := ⟨z, 2, none⟩) (.inl (.inl rfl)) _
  exact HR.out.off (fo.four (g := z + 1) (.inl (.inr rfl)) (.int .i64 n) (.int .i64 M) (.slice a' l.length c') (.int .i64 t)) (fun b hb ho => by have := HF.out b hb; have := S1.out; have := HZ.out; rcases ho with rfl | rfl <;> omega)
 ·have hz := HZ.out
  have k := (K1.out.trans K2.out (by simp)).setCell (p := ⟨z, 2, none⟩) (.inr (by show w.heap.size <= z; omega)) (.slice a' l.length c')
  exact k.four (g := z + 1) (.inr (by omega)) (.int .i64 n) (.int .i64 M) (.slice a' l.length c') (.int .i64 t)
theorem tknew_any (w : World) : Calls Tryz.prog 75 #[] w fun e w' => e = .returned (.pointer (some ⟨w.heap.size, 0, none⟩)) /\ Tc tkT [] w' w.heap.size w.heap.size (.slice none 0 0) [] /\ Kept w w' [] := by
 go_enter Tryz.func75, Tryz.ntmps75
 go_wp2
 go_ret
 exact ⟨rfl, ⟨heap_alloc_new w _, Nat.le_refl _, by decide, OwnT.nil _ _ _, fun x hx => by simp at hx⟩, (Kept.refl w []).alloc _⟩
theorem yqc (a : Tc tkT [] w B h V xs) : Calls Tryz.prog 73 #[.pointer (some ⟨h, 0, none⟩)] w fun e w' => e = .returned (.int .i64 xs.length) /\ w' = w := by
 have c0 := a.cell.1
 obtain ⟨u, c, e⟩ := a.shape
 rw [e] at c0
 clear a e
 go_enter Tryz.func73, Tryz.ntmps73
 go_wp2
 go_ret
 exact ⟨rfl, rfl⟩
theorem lastN_snocT (ys : List Tk) (y : Tk) : xqk ((ys ++ [y]).map Tk.pl) = y.n := by rw [List.map_append]; exact xq4 _ _
theorem Tc.last {T : TypeId} {r : List Value} {ys : List Tk} {y : Tk} (a : Tc T r w B h V (ys ++ [y])) : ∃ g c, V = .slice (some ⟨g, 0, none⟩) (ys.length + 1) c /\
 w.cell? ⟨g, ys.length * 4, none⟩ = some (.int .i64 y.n) /\ w.cell? ⟨g, ys.length * 4 + 1, none⟩ = some (.int .i64 y.M) /\ w.cell? ⟨g, ys.length * 4 + 2, none⟩ = some y.op /\ w.cell? ⟨g, ys.length * 4 + 3, none⟩ = some (.int .i64 y.t) /\ RdT w y.op y.l := by
 obtain ⟨u, c, e⟩ := a.shape
 have o := a.own
 rw [e] at o
 obtain ⟨g, rfl, hc⟩ := o.at ys.length (by simp)
 have hy : (ys ++ [y])[ys.length]'(by simp) = y := by simp
 rw [hy] at hc
 refine ⟨g, c, by rw [e]; simp, (hc 0 (by omega)).1, (hc 1 (by omega)).1, (hc 2 (by omega)).1, (hc 3 (by omega)).1, a.rd y (by simp)⟩
theorem tklastq_any (a : Tc tkT [] w B h V xs) (hl : xs.length <= 1000) : Calls Tryz.prog 41 #[.pointer (some ⟨h, 0, none⟩)] w fun e w' => e = .returned (.int .i64 (xqk (xs.map Tk.pl))) /\ ∃ m, w' = w.drewN m := by
 have HL := iH (yqc a)
 have HQ := iH (fun q => yqc (a.keep ((Kept.refl w []).drewN q)))
 have c0 := a.cell.1
 rcases List.eq_nil_or_concat xs with rfl | ⟨ys, y, e⟩
 ·clear c0 a
  go_enter Tryz.func41, Tryz.ntmps41
  go_wp2_with (go_at_call 73; refine HL.out.mono ?_; rintro e w' ⟨rfl, rfl⟩)
  go_ret
  exact ⟨rfl, 0, rfl⟩
 rw [List.concat_eq_append] at e
 subst e
 rw [lastN_snocT]
 obtain ⟨g, c, e, c1, _, _, _, _⟩ := a.last
 rw [e] at c0
 rw [List.length_append, List.length_singleton] at HL HQ
 have hl2 : ys.length < 1000 := by simp at hl; omega
 clear a e hl
 have x0 : (((ys.length : Nat) : Int) + 1 == 0) = false := by rw [beq_eq_false_iff_ne]; omega
 go_enter Tryz.func41, Tryz.ntmps41
 go_wp2_with (go_at_call 73; refine HL.out.mono ?_; rintro e w' ⟨rfl, rfl⟩)
 go_quiet ((go_at_call 73; exact Calls.quiet_of_same (HQ.out _)))
 go_wp2
 go_ret
 exact ⟨rfl, _, rfl⟩
theorem xq2 (a : Tc tkT [] w B h V xs) (hl : xs.length <= 1000) : Calls Tryz.prog 41 #[.pointer (some ⟨h, 0, none⟩)] w fun e w' => e = .returned (.int .i64 (xqk (xs.map Tk.pl))) /\ Kept w w' [] :=
 (tklastq_any a hl).mono (fun e w' ⟨h1, m, h2⟩ => ⟨h1, h2 ▸ (Kept.refl w []).drewN m⟩)
end Go.Proofs.YticiofkiffgclaaGreat
