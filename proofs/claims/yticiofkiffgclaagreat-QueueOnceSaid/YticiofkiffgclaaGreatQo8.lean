/-
  Sta, Soa, Sob in one text.
-/
import Derived.Sort.LotA
import Derived.Test.YticiofkiffgclaaGreatProg
import Derived.Shelf.SlSortCmp.KitK
import Derived.Sort.WalkB2
import Derived.Sort.WalkB12
import Derived.Deep.LoopGhost
import Derived.Lib.Hide
namespace Go.Proofs.YticiofkiffgclaaGreat

variable {α : Type}

structure Tot (c : α → α → Bool) : Prop where
  refl : ∀ x, c x x = true
  trans : ∀ x y z, c x y = true → c y z = true → c x z = true
  total : ∀ x y, c x y = true ∨ c y x = true

def eqv (c : α → α → Bool) (x y : α) : Bool := c x y && c y x
def Srt (c : α → α → Bool) (l : List α) : Prop := l.Pairwise fun a b => c a b = true
def Stab (c : α → α → Bool) (l l' : List α) : Prop := ∀ x, l'.filter (eqv c x) = l.filter (eqv c x)

theorem Stab.refl (c : α → α → Bool) (l : List α) : Stab c l l := fun _ => rfl
theorem Stab.symm {c : α → α → Bool} {l m : List α} (h : Stab c l m) : Stab c m l := fun x => (h x).symm
theorem Stab.trans {c : α → α → Bool} {l m n : List α} (h : Stab c l m) (k : Stab c m n) : Stab c l n := fun x => (k x).trans (h x)
theorem Stab.append {c : α → α → Bool} {l m l' m' : List α} (h : Stab c l l') (k : Stab c m m') : Stab c (l ++ m) (l' ++ m') := fun x => by rw [List.filter_append, List.filter_append, h x, k x]

theorem eqv_self {c : α → α → Bool} (T : Tot c) (x : α) : eqv c x x = true := by simp [eqv, T.refl x]

theorem Stab.mem {c : α → α → Bool} (T : Tot c) {l m : List α} (h : Stab c l m) (x : α) : x ∈ m ↔ x ∈ l := by
  have h1 := h x
  constructor
  · intro hx
    have : x ∈ m.filter (eqv c x) := List.mem_filter.2 ⟨hx, eqv_self T x⟩
    rw [h1] at this
    exact (List.mem_filter.1 this).1
  · intro hx
    have : x ∈ l.filter (eqv c x) := List.mem_filter.2 ⟨hx, eqv_self T x⟩
    rw [← h1] at this
    exact (List.mem_filter.1 this).1

theorem Stab.swap {c : α → α → Bool} (T : Tot c) {X Y : List α} (h : ∀ x ∈ X, ∀ y ∈ Y, eqv c x y = false) : Stab c (X ++ Y) (Y ++ X) := by
  intro z
  rw [List.filter_append, List.filter_append]
  by_cases hx : X.filter (eqv c z) = []
  · rw [hx]; simp
  · have hy : Y.filter (eqv c z) = [] := by
      rw [List.filter_eq_nil_iff]
      intro y hy hz
      obtain ⟨x, hxm⟩ := List.exists_mem_of_ne_nil _ hx
      obtain ⟨hx1, hx2⟩ := List.mem_filter.1 hxm
      have hn := h x hx1 y hy
      simp only [eqv, Bool.and_eq_true] at hz hx2
      simp only [eqv, Bool.and_eq_false_iff] at hn
      rcases hn with hn | hn
      · rw [T.trans x z y hx2.2 hz.1] at hn; simp at hn
      · rw [T.trans y z x hz.2 hx2.1] at hn; simp at hn
    rw [hy]; simp

theorem stab_unique {c : α → α → Bool} (T : Tot c) (l : List α) : ∀ m : List α, Srt c l → Srt c m → Stab c l m → m = l := by
  induction l with
  | nil =>
    intro m _ _ h
    cases m with
    | nil => rfl
    | cons b t =>
      have := (h.mem T b).1 (by simp)
      simp at this
  | cons a s ih =>
    intro m hl hm h
    cases m with
    | nil =>
      have := (h.mem T a).2 (by simp)
      simp at this
    | cons b t =>
      have hab : c a b = true := by
        have hb := (h.mem T b).1 (by simp)
        rcases List.mem_cons.1 hb with rfl | hb
        · exact T.refl _
        · exact (List.pairwise_cons.1 hl).1 b hb
      have hba : c b a = true := by
        have ha := (h.mem T a).2 (by simp)
        rcases List.mem_cons.1 ha with rfl | ha
        · exact T.refl _
        · exact (List.pairwise_cons.1 hm).1 a ha
      have h1 := h a
      rw [List.filter_cons_of_pos (by simp [eqv, hab, hba]), List.filter_cons_of_pos (eqv_self T a)] at h1
      obtain ⟨rfl, _⟩ := List.cons.inj h1
      congr 1
      refine ih t (List.pairwise_cons.1 hl).2 (List.pairwise_cons.1 hm).2 (fun x => ?_)
      have h2 := h x
      by_cases hx : eqv c x b = true
      · rw [List.filter_cons_of_pos hx, List.filter_cons_of_pos hx] at h2
        exact (List.cons.inj h2).2
      · rw [List.filter_cons_of_neg hx, List.filter_cons_of_neg hx] at h2
        exact h2

theorem insert_at {c : α → α → Bool} (T : Tot c) {p q : List α} {x : α} (h : Srt c (p ++ q)) (hp : ∀ y ∈ p, c y x = true) (hq : ∀ y ∈ q, c y x = false) : Srt c (p ++ x :: q) ∧ Stab c (p ++ q ++ [x]) (p ++ x :: q) := by
  obtain ⟨h1, h2, h3⟩ := List.pairwise_append.1 h
  have hxq : ∀ y ∈ q, c x y = true := fun y hy => (T.total x y).resolve_right (by rw [hq y hy]; simp)
  refine ⟨List.pairwise_append.2 ⟨h1, List.pairwise_cons.2 ⟨hxq, h2⟩, ?_⟩, ?_⟩
  · intro a ha b hb
    rcases List.mem_cons.1 hb with rfl | hb
    · exact hp a ha
    · exact h3 a ha b hb
  · rw [List.append_assoc]
    refine (Stab.refl c p).append ?_
    exact Stab.swap T (fun y hy z hz => by simp only [List.mem_singleton] at hz; subst hz; simp [eqv, hq y hy])

def ins (c : α → α → Bool) (x : α) : List α → List α
  | [] => [x]
  | y :: t => if c y x = true then y :: ins c x t else x :: y :: t
def srt (c : α → α → Bool) (l : List α) : List α := l.foldl (fun o x => ins c x o) []

theorem ins_parts {c : α → α → Bool} (T : Tot c) (x : α) (l : List α) (h : Srt c l) : ∃ p q, l = p ++ q ∧ ins c x l = p ++ x :: q ∧ (∀ y ∈ p, c y x = true) ∧ (∀ y ∈ q, c y x = false) := by
  induction l with
  | nil => exact ⟨[], [], rfl, rfl, by simp, by simp⟩
  | cons y t ih =>
    obtain ⟨hy, ht⟩ := List.pairwise_cons.1 h
    by_cases hc : c y x = true
    · obtain ⟨p, q, h1, h2, h3, h4⟩ := ih ht
      refine ⟨y :: p, q, by rw [h1]; rfl, by rw [ins, if_pos hc, h2]; rfl, ?_, h4⟩
      intro z hz
      rcases List.mem_cons.1 hz with rfl | hz
      · exact hc
      · exact h3 z hz
    · refine ⟨[], y :: t, rfl, by rw [ins, if_neg hc]; rfl, by simp, ?_⟩
      intro z hz
      rcases List.mem_cons.1 hz with rfl | hz
      · simpa using hc
      · cases hzx : c z x with
        | false => rfl
        | true => exact absurd (T.trans y z x (hy z hz) hzx) hc

theorem srt_fold {c : α → α → Bool} (T : Tot c) (l : List α) : ∀ o : List α, Srt c o → Srt c (l.foldl (fun o x => ins c x o) o) ∧ Stab c (o ++ l) (l.foldl (fun o x => ins c x o) o) := by
  induction l with
  | nil => intro o h; exact ⟨h, by rw [List.append_nil]; exact Stab.refl c o⟩
  | cons x t ih =>
    intro o h
    obtain ⟨p, q, h1, h2, h3, h4⟩ := ins_parts T x o h
    rw [h1] at h
    obtain ⟨s1, s2⟩ := insert_at T h h3 h4
    obtain ⟨k1, k2⟩ := ih (ins c x o) (by rw [h2]; exact s1)
    refine ⟨k1, Stab.trans ?_ k2⟩
    rw [h2, h1, show p ++ q ++ x :: t = (p ++ q ++ [x]) ++ t by simp]
    exact s2.append (Stab.refl c t)

theorem srt_sorted {c : α → α → Bool} (T : Tot c) (l : List α) : Srt c (srt c l) := (srt_fold T l [] List.Pairwise.nil).1
theorem srt_stab {c : α → α → Bool} (T : Tot c) (l : List α) : Stab c l (srt c l) := by simpa [srt] using (srt_fold T l [] List.Pairwise.nil).2

theorem srt_is {c : α → α → Bool} (T : Tot c) {l m : List α} (h : Srt c m) (k : Stab c l m) : m = srt c l :=
  stab_unique T (srt c l) m (srt_sorted T l) h ((srt_stab T l).symm.trans k)

theorem ins_length (c : α → α → Bool) (x : α) (l : List α) : (ins c x l).length = l.length + 1 := by
  induction l with
  | nil => rfl
  | cons y t ih =>
    rw [ins]
    split
    · rw [List.length_cons, ih, List.length_cons]
    · simp
theorem srt_length (c : α → α → Bool) (l : List α) : (srt c l).length = l.length := by
  have : ∀ o : List α, (l.foldl (fun o x => ins c x o) o).length = o.length + l.length := by
    induction l with
    | nil => intro o; simp
    | cons x t ih => intro o; rw [List.foldl_cons, ih, ins_length, List.length_cons]; omega
  simpa [srt] using this []

theorem srt_self {c : α → α → Bool} (T : Tot c) {l : List α} (h : Srt c l) : srt c l = l := (srt_is T h (Stab.refl c l)).symm

theorem srt_halves {c : α → α → Bool} (T : Tot c) {P X Y S : List α} (h1 : Srt c (P ++ X)) (h2 : Srt c (Y ++ S)) (hxy : ∀ x ∈ X, ∀ y ∈ Y, c x y = false) (hps : ∀ p ∈ P, ∀ s ∈ S, c p s = true) :
    srt c ((P ++ X) ++ (Y ++ S)) = srt c (P ++ Y) ++ srt c (X ++ S) := by
  obtain ⟨_, _, px⟩ := List.pairwise_append.1 h1
  obtain ⟨_, _, ys⟩ := List.pairwise_append.1 h2
  refine (srt_is T ?_ ?_).symm
  · refine List.pairwise_append.2 ⟨srt_sorted T _, srt_sorted T _, ?_⟩
    intro a ha b hb
    rcases List.mem_append.1 (((srt_stab T _).mem T a).1 ha) with ha | ha <;> rcases List.mem_append.1 (((srt_stab T _).mem T b).1 hb) with hb | hb
    · exact px a ha b hb
    · exact hps a ha b hb
    · exact (T.total a b).resolve_right (by rw [hxy b hb a ha]; simp)
    · exact ys a ha b hb
  · have sw : Stab c (X ++ Y) (Y ++ X) := Stab.swap T (fun x hx y hy => by simp [eqv, hxy x hx y hy])
    have e : Stab c ((P ++ X) ++ (Y ++ S)) ((P ++ Y) ++ (X ++ S)) := by
      have := ((Stab.refl c P).append sw).append (Stab.refl c S)
      simpa only [List.append_assoc] using this
    exact e.trans ((srt_stab T _).append (srt_stab T _))

theorem tot_key (f : α → Int) : Tot (fun a b => decide (f a ≤ f b)) := by
  refine ⟨?_, ?_, ?_⟩
  · intro x; simp
  · intro x y z; simp; omega
  · intro x y; simp; omega

end Go.Proofs.YticiofkiffgclaaGreat

namespace Go.Proofs.YticiofkiffgclaaGreat
open Go.Sort

variable {α : Type} [Inhabited α]

theorem at_list {d : Array α} {P R : List α} {x : α} {i : Nat} (h : d.toList = P ++ x :: R) (hi : i = P.length) : i < d.size ∧ d[i]! = x := by
  have hs : i < d.size := by rw [← Array.length_toList, h]; simp; omega
  refine ⟨hs, ?_⟩
  rw [getElem!_pos d i hs, ← Array.getElem_toList (h := by simpa using hs)]
  subst hi
  simp [h]

theorem swp_list {d : Array α} {P Q R : List α} {x y : α} {i j : Nat} (h : d.toList = P ++ x :: (Q ++ y :: R)) (hi : i = P.length) (hj : j = P.length + 1 + Q.length) : (swp d i j).toList = P ++ y :: (Q ++ x :: R) := by
  obtain ⟨_, h1⟩ := at_list h hi
  obtain ⟨_, h2⟩ := at_list (d := d) (P := P ++ x :: Q) (R := R) (x := y) (i := j) (by rw [h]; simp) (by rw [hj]; simp; omega)
  rw [swp, h1, h2, Array.toList_setIfInBounds, Array.toList_setIfInBounds, h]
  subst hi hj
  rw [List.set_append_right _ _ (Nat.le_refl _), Nat.sub_self, List.set_cons_zero, List.set_append_right _ _ (by omega), show P.length + 1 + Q.length - P.length = Q.length + 1 by omega, List.set_cons_succ, List.set_append_right _ _ (Nat.le_refl _), Nat.sub_self, List.set_cons_zero]

theorem swp_list' {d : Array α} {P Q R : List α} {x y : α} {i j : Nat} (h : d.toList = P ++ x :: (Q ++ y :: R)) (hi : i = P.length) (hj : j = P.length + 1 + Q.length) : (swp d j i).toList = P ++ y :: (Q ++ x :: R) := by
  obtain ⟨_, h1⟩ := at_list h hi
  obtain ⟨_, h2⟩ := at_list (d := d) (P := P ++ x :: Q) (R := R) (x := y) (i := j) (by rw [h]; simp) (by rw [hj]; simp; omega)
  rw [swp, h1, h2, Array.toList_setIfInBounds, Array.toList_setIfInBounds, h]
  subst hi hj
  rw [List.set_append_right _ _ (by omega), show P.length + 1 + Q.length - P.length = Q.length + 1 by omega, List.set_cons_succ, List.set_append_right _ _ (Nat.le_refl _), Nat.sub_self, List.set_cons_zero, List.set_append_right _ _ (Nat.le_refl _), Nat.sub_self, List.set_cons_zero]

variable {c : α → α → Bool}

def ltB {β : Type} (c : β → β → Bool) (x y : β) : Bool := !c y x

theorem swo_lt {β : Type} {c : β → β → Bool} (T : Tot c) : SWO (ltB c) := by
  constructor
  all_goals simp only [ltB, Bool.not_eq_true', Bool.not_eq_false']
  · intro x; exact T.refl x
  · intro x y z h1 h2
    cases h : c z x with
    | false => rfl
    | true =>
      rcases T.total y z with h3 | h3
      · rw [T.trans y z x h3 h] at h1; simp at h1
      · rw [h3] at h2; simp at h2
  · intro x y z h1 h2
    exact T.trans z y x h2 h1

theorem stab_pair {β : Type} {c : β → β → Bool} (T : Tot c) {P R : List β} {u v : β} (h : ltB c v u = true) : Stab c (P ++ u :: v :: R) (P ++ v :: u :: R) := by
  have sw : Stab c ([u] ++ [v]) ([v] ++ [u]) := Stab.swap T (fun x hx y hy => by
    simp only [List.mem_singleton] at hx hy
    subst hx hy
    simp only [ltB, Bool.not_eq_true'] at h
    simp [eqv, h])
  exact (Stab.refl c P).append (sw.append (Stab.refl c R))

theorem mid_split {β : Type} (M : List β) {i : Nat} (h : i < M.length) : ∃ P R x, M = P ++ x :: R ∧ P.length = i ∧ x = M[i] :=
  ⟨M.take i, M.drop (i + 1), M[i], by conv => lhs; rw [← List.take_append_drop i M, List.drop_eq_getElem_cons h], by rw [List.length_take]; omega, rfl⟩

theorem insInner_list (T : Tot c) {A B : List α} : ∀ (j : Nat) (d : Array α) (M : List α), d.toList = A ++ M ++ B → j < A.length + M.length →
    ∃ M', (insInner (ltB c) A.length j d).toList = A ++ M' ++ B ∧ M'.length = M.length ∧ Stab c M M' := by
  intro j
  induction j with
  | zero => intro d M h _; exact ⟨M, h, rfl, Stab.refl c M⟩
  | succ j ih =>
    intro d M h hj
    rw [insInner]
    split
    · rename_i hc
      simp only [Bool.and_eq_true, decide_eq_true_eq] at hc
      obtain ⟨ha, hl⟩ := hc
      have hm1 : j - A.length < M.length := by omega
      have hm2 : j - A.length + 1 < M.length := by omega
      have hM : M = M.take (j - A.length) ++ M[j - A.length] :: M[j - A.length + 1] :: M.drop (j - A.length + 2) := by
        conv => lhs; rw [← List.take_append_drop (j - A.length) M, List.drop_eq_getElem_cons hm1, List.drop_eq_getElem_cons hm2]
      obtain ⟨P, hP⟩ : ∃ P, P = M.take (j - A.length) := ⟨_, rfl⟩
      obtain ⟨u, hu⟩ : ∃ u, u = M[j - A.length] := ⟨_, rfl⟩
      obtain ⟨v, hv⟩ : ∃ v, v = M[j - A.length + 1] := ⟨_, rfl⟩
      obtain ⟨R, hR⟩ : ∃ R, R = M.drop (j - A.length + 2) := ⟨_, rfl⟩
      rw [← hP, ← hu, ← hv, ← hR] at hM
      have hPl : P.length = j - A.length := by rw [hP, List.length_take]; omega
      have hd : d.toList = (A ++ P) ++ u :: ([] ++ v :: (R ++ B)) := by rw [h, hM]; simp
      obtain ⟨_, e1⟩ := at_list (i := j) hd (by simp; omega)
      obtain ⟨_, e2⟩ := at_list (d := d) (P := A ++ P ++ [u]) (R := R ++ B) (x := v) (i := j + 1) (by rw [hd]; simp) (by simp; omega)
      rw [e1, e2] at hl
      have hs := swp_list' (i := j) (j := j + 1) hd (by simp; omega) (by simp; omega)
      obtain ⟨M', k1, k2, k3⟩ := ih (swp d (j + 1) j) (P ++ v :: u :: R) (by rw [hs]; simp) (by rw [hM] at hj; simp at hj ⊢; omega)
      refine ⟨M', k1, by rw [k2, hM]; simp, ?_⟩
      refine Stab.trans ?_ k3
      rw [hM]
      exact stab_pair T hl
    · exact ⟨M, h, rfl, Stab.refl c M⟩

theorem insOuter_list (T : Tot c) {A B : List α} {b : Nat} : ∀ (n i : Nat) (d : Array α) (M : List α), b - i = n → d.toList = A ++ M ++ B → b = A.length + M.length →
    ∃ M', (insOuter (ltB c) A.length b i d).toList = A ++ M' ++ B ∧ M'.length = M.length ∧ Stab c M M' := by
  intro n
  induction n with
  | zero =>
    intro i d M h1 h2 _
    rw [insOuter, if_neg (by omega)]
    exact ⟨M, h2, rfl, Stab.refl c M⟩
  | succ n ih =>
    intro i d M h1 h2 h3
    rw [insOuter, if_pos (by omega)]
    obtain ⟨M1, k1, k2, k3⟩ := insInner_list T i d M h2 (by omega)
    obtain ⟨M2, m1, m2, m3⟩ := ih (i + 1) _ M1 (by omega) k1 (by omega)
    exact ⟨M2, m1, by omega, k3.trans m3⟩

theorem insertion_list (T : Tot c) {A M B : List α} {d : Array α} (h : d.toList = A ++ M ++ B) : (insertionSort (ltB c) d A.length (A.length + M.length)).toList = A ++ srt c M ++ B := by
  obtain ⟨M', k1, k2, k3⟩ := insOuter_list T (A := A) (B := B) (b := A.length + M.length) _ (A.length + 1) d M rfl h rfl
  have hd : A.length + M.length ≤ d.size := by rw [← Array.length_toList, h]; simp
  have hs := (insertionSort_holds (swo_lt T) d A.length (A.length + M.length) (by omega) hd).2
  rw [insertionSort] at hs ⊢
  rw [k1]
  congr 2
  refine srt_is T ?_ k3
  rw [Srt, List.pairwise_iff_getElem]
  intro i j hi hj hij
  obtain ⟨Pi, Ri, xi, qi, li, gi⟩ := mid_split M' hi
  obtain ⟨_, ei⟩ := at_list (P := A ++ Pi) (R := Ri ++ B) (x := xi) (i := A.length + i) (k1.trans (by rw [qi]; simp)) (by simp; omega)
  obtain ⟨Pj, Rj, xj, qj, lj, gj⟩ := mid_split M' hj
  obtain ⟨_, ej⟩ := at_list (P := A ++ Pj) (R := Rj ++ B) (x := xj) (i := A.length + j) (k1.trans (by rw [qj]; simp)) (by simp; omega)
  have := hs (A.length + i) (A.length + j) (by omega) (by omega) (by omega)
  rw [ei, ej] at this
  rw [← gi, ← gj]
  simpa [ltB] using this

end Go.Proofs.YticiofkiffgclaaGreat

namespace Go.Proofs.YticiofkiffgclaaGreat
open Go.Shelf Go.RowKit Go.Lib Go.Sort

structure SL (P : Program) (k : Nat) : Prop where
  mixed : P.follows .mixedOrders = true
  fs : P.funcs[145]? = some Tryz.f145
  fm : P.funcs[186]? = some Tryz.f186
  fr : P.funcs[212]? = some Tryz.f212
  fw : P.funcs[225]? = some Tryz.f225
  eI : ∀ args w, (callFunc 185 args).run P w = .ok (.enter 185 args) w
  t0 : P.underlying 0 = some (TypeDesc.tuple #[])
  a0 : ∀ w, (isAgg 0).run P w = .ok false w
  z0 : ∀ w, (Go.sizeOf 0).run P w = .ok 1 w
  v0 : ∀ w, (zeroValue 0).run P w = .ok (Value.tuple #[]) w
  t3 : P.underlying 3 = some (TypeDesc.int IntKind.i64)
  a3 : ∀ w, (isAgg 3).run P w = .ok false w
  z3 : ∀ w, (Go.sizeOf 3).run P w = .ok 1 w
  v3 : ∀ w, (zeroValue 3).run P w = .ok (Value.int IntKind.i64 0) w
  t4 : P.underlying 4 = some (TypeDesc.bool)
  a4 : ∀ w, (isAgg 4).run P w = .ok false w
  z4 : ∀ w, (Go.sizeOf 4).run P w = .ok 1 w
  v4 : ∀ w, (zeroValue 4).run P w = .ok (Value.bool false) w
  t5 : P.underlying 217 = some (TypeDesc.int IntKind.u64)
  a5 : ∀ w, (isAgg 217).run P w = .ok false w
  z5 : ∀ w, (Go.sizeOf 217).run P w = .ok 1 w
  v5 : ∀ w, (zeroValue 217).run P w = .ok (Value.int IntKind.u64 0) w
  t6 : P.underlying 57 = some (TypeDesc.slice 50)
  a6 : ∀ w, (isAgg 57).run P w = .ok false w
  z6 : ∀ w, (Go.sizeOf 57).run P w = .ok 1 w
  v6 : ∀ w, (zeroValue 57).run P w = .ok (Value.slice none 0 0) w
  t7 : P.underlying 135 = some (TypeDesc.func #[50, 50] #[3] false)
  a7 : ∀ w, (isAgg 135).run P w = .ok false w
  z7 : ∀ w, (Go.sizeOf 135).run P w = .ok 1 w
  v7 : ∀ w, (zeroValue 135).run P w = .ok (Value.nilFunc) w
  aE : ∀ w, (isAgg 50).run P w = .ok true w
  zE : ∀ w, (Go.sizeOf 50).run P w = .ok k w

variable {P : Program} {α : Type} [Inhabited α] {k : Nat} {enc : α → List Value} {w0 : World} {blk off : Nat} {d0 : Array α}

set_option maxHeartbeats 4000000 in
set_option maxRecDepth 1000000 in
theorem swapRange_any (L : SL P k) (R : RowK enc k w0 blk off d0) (g : Nat) (cb : Array Value) (cap : Nat) (A X M Y B : List α) (d : Array α) (w : World) (hd : d.toList = A ++ X ++ M ++ Y ++ B) (hxy : Y.length = X.length) (hs : d.size = d0.size) (S : SWK enc k w0 blk off d w) (hsz : d.size < 4611686018427387904)
    (sz a b n : Nat) (hz : sz = d.size) (ha : a = A.length) (hb : b = A.length + X.length + M.length) (hn : n = X.length) :
    Calls P 225 #[.slice (some ⟨blk, off, none⟩) sz cap, .int .i64 a, .int .i64 b, .int .i64 n, .func (.func g) #[] cb] w fun e w' => e = .returned (.tuple #[]) ∧ ∃ d' : Array α, d'.toList = A ++ Y ++ M ++ X ++ B ∧ SWK enc k w0 blk off d' w' := by
  have mixed := L.mixed; have t0 := L.t0; have a0 := L.a0; have z0 := L.z0; have v0 := L.v0; have t3 := L.t3; have a3 := L.a3; have z3 := L.z3; have v3 := L.v3; have t4 := L.t4; have a4 := L.a4; have z4 := L.z4; have v4 := L.v4; have t6 := L.t6; have a6 := L.a6; have z6 := L.z6; have v6 := L.v6; have t7 := L.t7; have a7 := L.a7; have z7 := L.z7; have v7 := L.v7; have aE := L.aE; have zE := L.zE
  have S0 : Aside (SWK enc k w0 blk off d w) := S
  have HD : Hid (d.toList = A ++ X ++ M ++ Y ++ B) := hd
  have HN : Hid (a = A.length ∧ b = A.length + X.length + M.length ∧ n = X.length ∧ Y.length = X.length ∧ sz = d0.size) := ⟨ha, hb, hn, hxy, by omega⟩
  have hfit : b + n ≤ sz ∧ a + n ≤ b := by
    have := congrArg List.length hd
    simp at this
    omega
  have hszi : sz < 4611686018427387904 := by omega
  clear S hd ha hb hn hxy hz hsz
  obtain ⟨hf1, hf2⟩ := hfit
  go_enter L.fw, Tryz.ntmps225
  go_wp2
  go_loopg [10] n (fun kx s10 wr => ∃ (i : Nat) (dk : Array α), s10 = .int .i64 i ∧ i ≤ n ∧ n - i ≤ kx ∧ dk.size = d0.size ∧ Aside (SWK enc k w0 blk off dk wr) ∧ Hid (∃ X1 X2 Y1 Y2, X = X1 ++ X2 ∧ Y = Y1 ++ Y2 ∧ X1.length = i ∧ Y1.length = i ∧ dk.toList = A ++ Y1 ++ X2 ++ M ++ X1 ++ Y2 ++ B))
  case atStart => exact ⟨0, d, rfl, by omega, by omega, hs, S0, [], X, [], Y, rfl, rfl, rfl, rfl, by rw [HD.out]; simp⟩
  case round =>
    clear S0
    obtain ⟨i, dk, rfl, hi, hkx, hds, S1, HL⟩ := hrel
    by_cases hlt : i < n
    · have hlz : (i : Int) < (n : Int) := by omega
      obtain ⟨x, y, V1, V2, V3, q0, q1, q2, X1, X2, Y1, Y2, hX, hY, l1, l2⟩ : ∃ x y V1 V2 V3, dk.toList = V1 ++ x :: (V2 ++ y :: V3) ∧ a + i = V1.length ∧ b + i = V1.length + 1 + V2.length ∧
          ∃ X1 X2 Y1 Y2, X = X1 ++ x :: X2 ∧ Y = Y1 ++ y :: Y2 ∧ X1.length = i ∧ Y1.length = i ∧ V1 ++ y :: (V2 ++ x :: V3) = A ++ (Y1 ++ [y]) ++ X2 ++ M ++ (X1 ++ [x]) ++ Y2 ++ B := by
        obtain ⟨h1, h2, h3, h4, _⟩ := HN.out
        obtain ⟨X1, X2, Y1, Y2, hX, hY, l1, l2, e⟩ := HL.out
        cases X2 with
        | nil => rw [hX] at h3; simp at h3; omega
        | cons x X2 =>
          cases Y2 with
          | nil => rw [hY] at h4; simp at h4; omega
          | cons y Y2 =>
            refine ⟨x, y, A ++ Y1, X2 ++ M ++ X1, Y2 ++ B, by rw [e]; simp, by simp; omega, ?_, X1, X2, Y1, Y2, hX, hY, l1, l2, by simp⟩
            rw [h2, hX]; simp; omega
      have T1 := swp_list (i := a + i) (j := b + i) q0 q1 q2
      obtain ⟨i1, e1⟩ := at_list q0 q1
      obtain ⟨i2, e2⟩ := at_list (P := V1 ++ x :: V2) (R := V3) (x := y) (i := b + i) (by rw [q0]; simp) (by simp; omega)
      have ea : ((a : Int) + (i : Int)).toNat = a + i := by omega
      have pa : (0 : Int) ≤ (a : Int) + (i : Int) := by omega
      have ba : (a : Int) + (i : Int) < (sz : Int) := by omega
      have ra : IntKind.i64.wrap ((a : Int) + (i : Int)) = (a : Int) + (i : Int) := by rw [IntKind.wrap_i64]; omega
      have ec : ((b : Int) + (i : Int)).toNat = b + i := by omega
      have pc : (0 : Int) ≤ (b : Int) + (i : Int) := by omega
      have bc : (b : Int) + (i : Int) < (sz : Int) := by omega
      have rc : IntKind.i64.wrap ((b : Int) + (i : Int)) = (b : Int) + (i : Int) := by rw [IntKind.wrap_i64]; omega
      have S2 : Aside (SWK enc k w0 blk off (swp dk (a + i) (b + i)) ((wr.drew.setCells blk (off + (a + i) * k) (enc y)).setCells blk (off + (b + i) * k) (enc x))) := by
        have := S1.out.swapped R (a + i) (b + i) i1 i2
        rwa [e1, e2] at this
      have la := S1.out.ld1 R hds P (a + i) i1
      have lb := S1.out.ld1 R hds P (b + i) i2
      have sa := S1.out.st1 R hds P (a + i) i1 y
      have sb := S1.out.st2 R hds P (a + i) (b + i) i1 i2 y x
      have na : (enc x).length = k := R.hk _
      have nb : (enc y).length = k := R.hk _
      rw [e1] at la
      rw [e2] at lb
      generalize enc x = cI at S2 la sb na
      generalize enc y = cJ at S2 lb sa sb nb
      have HR : Hid (∃ X1 X2 Y1 Y2, X = X1 ++ X2 ∧ Y = Y1 ++ Y2 ∧ X1.length = i + 1 ∧ Y1.length = i + 1 ∧ (swp dk (a + i) (b + i)).toList = A ++ Y1 ++ X2 ++ M ++ X1 ++ Y2 ++ B) :=
        ⟨X1 ++ [x], X2, Y1 ++ [y], Y2, by rw [hX]; simp, by rw [hY]; simp, by simp [l1], by simp [l2.1], by rw [T1, l2.2]⟩
      clear S1 HL q0 q1 q2 hX hY l1 l2 T1 e1 e2 i1 i2
      go_wp2_with fail
      go_big_region_o
      clear la lb sa sb
      generalize (wr.drew.setCells blk (off + (a + i) * k) cJ).setCells blk (off + (b + i) * k) cI = w2 at S2 ⊢
      go_wp2
      go_roundg (n - (i + 1))
      case measure => omega
      case rel => exact ⟨i + 1, _, by go_num, by omega, Nat.le_refl _, by rw [size_swp]; exact hds, S2, HR⟩
    · have hlz : ¬ (i : Int) < (n : Int) := by omega
      obtain rfl : i = n := by omega
      go_wp2
      go_end0
      obtain ⟨h1, h2, h3, h4, _⟩ := HN.out
      obtain ⟨X1, X2, Y1, Y2, hX, hY, l1, l2, e⟩ := HL.out
      have : X2 = [] := List.eq_nil_of_length_eq_zero (by rw [hX] at h3; simp at h3; omega)
      subst this
      have : Y2 = [] := List.eq_nil_of_length_eq_zero (by rw [hY] at h4; simp at h4; omega)
      subst this
      refine ⟨rfl, dk, ?_, S1.out⟩
      rw [e, hX, hY]
      simp

end Go.Proofs.YticiofkiffgclaaGreat
