/-
  A heap as one list, and by keys: Truncate.
-/
import Derived.Test.YtdjhcdgehmpikaaRd
namespace Go.Proofs.Ytdjhcdgehmpikaa

/-- All that are seen die. -/
def dies (P : Vr → Bool) (x : Int) (r : Vr) : Vr := if P r then { r with death := x } else r
def flDies (P : Vr → Bool) (x : Int) (l : Fl) : Fl := l.map fun y => (y.1, dies P x y.2)

theorem sees_dead {st : List Nat} {V : Vw} (h : 1 ≤ V.own) (r : Vr) : sees st V { r with death := V.own } = false := by
  simp only [sees, did, Bool.and_eq_false_iff, Bool.not_eq_false']
  right
  simp
  omega

theorem modify_map {α β : Type} {f : α → α} {g : α → β} {y : α} (hg : g (f y) = g y) : ∀ {l : List α} {i : Nat}, l[i]? = some y → (l.modify i f).map g = l.map g
  | [], i, h => by simp at h
  | a :: l, 0, h => by
    simp only [List.getElem?_cons_zero, Option.some.injEq] at h
    subst h
    simp [hg]
  | a :: l, i + 1, h => by
    rw [List.modify_succ_cons, List.map_cons, List.map_cons, modify_map hg (by simpa using h)]

theorem modify_less {α : Type} {f : α → α} {P : α → Bool} {y : α} (h1 : P y = true) (h2 : P (f y) = false) : ∀ {l : List α} {i : Nat}, l[i]? = some y → ((l.modify i f).filter P).length + 1 = (l.filter P).length
  | [], i, h => by simp at h
  | a :: l, 0, h => by
    simp only [List.getElem?_cons_zero, Option.some.injEq] at h
    subst h
    rw [List.modify_zero_cons, List.filter_cons_of_neg (by simp [h2]), List.filter_cons_of_pos h1, List.length_cons]
  | a :: l, i + 1, h => by
    have ih := modify_less h1 h2 (l := l) (i := i) (by simpa using h)
    rw [List.modify_succ_cons]
    by_cases hp : P a = true
    · rw [List.filter_cons_of_pos hp, List.filter_cons_of_pos hp, List.length_cons, List.length_cons, ih]
    · rw [List.filter_cons_of_neg hp, List.filter_cons_of_neg hp, ih]

theorem mem_modify_of {α : Type} {f : α → α} {z : α} : ∀ {l : List α} {i : Nat}, z ∈ l.modify i f → z ∈ l ∨ ∃ y, l[i]? = some y ∧ z = f y
  | [], i, h => by simp at h
  | a :: l, 0, h => by
    simp only [List.modify_zero_cons, List.mem_cons] at h
    rcases h with h | h
    · exact .inr ⟨a, rfl, h⟩
    · exact .inl (by simp [h])
  | a :: l, i + 1, h => by
    simp only [List.modify_succ_cons, List.mem_cons] at h
    rcases h with h | h
    · exact .inl (by simp [h])
    · rcases mem_modify_of h with h1 | ⟨y, h1, h2⟩
      · exact .inl (by simp [h1])
      · exact .inr ⟨y, by simpa using h1, h2⟩

theorem findIdx_none {P : Vr → Bool} : ∀ {l : List Vr}, l.findIdx? P = none → (l.filter P).length = 0
  | [], _ => rfl
  | a :: l, h => by
    rw [List.findIdx?_cons] at h
    by_cases hp : P a = true
    · simp [hp] at h
    · simp only [hp, Bool.false_eq_true, if_false, Option.map_eq_none_iff] at h
      rw [List.filter_cons_of_neg hp, findIdx_none h]

/-- One Delete for each row that is seen: all of them are dead. -/
theorem dels_all {st : List Nat} {V : Vw} (ho : stAt st V.own = 1) : ∀ (R : List (Int × ByteArray)) (l : Fl), (∀ q, (R.filter fun y => y.1 == q).length = ((pick q l).filter (sees st V)).length) →
    (∀ y ∈ l, sees st V y.2 = true → binds st V y.2.death = false) → R.foldl (fun l y => (flDel st V y.1 l).2) l = flDies (sees st V) V.own l
  | [], l, hn, _ => by
    rw [List.foldl_nil, flDies]
    conv => lhs; rw [← List.map_id l]
    apply List.map_congr_left
    rintro ⟨q, r⟩ hy
    have h0 := hn q
    simp only [List.filter_nil, List.length_nil] at h0
    have h1 : sees st V r = false := by
      rw [Bool.eq_false_iff]
      intro h1
      have := List.length_pos_of_mem (List.mem_filter.2 ⟨mem_pick.2 hy, h1⟩)
      omega
    simp [dies, h1]
  | (k, t) :: R, l, hn, hb => by
    have h1 : 1 ≤ V.own := (stAt_in (by rw [ho]; decide : stAt st V.own ≠ 0)).1
    have hk := hn k
    rw [List.filter_cons_of_pos (by simp), List.length_cons] at hk
    cases hf : flFind (sees st V) k l with
    | none =>
      have := findIdx_none (find_none hf)
      omega
    | some i =>
      obtain ⟨j, r, g1, g2, g3, g4, g5, g6⟩ := find_some hf
      have hbr : binds st V r.death = false := hb _ (List.mem_of_getElem? g1) g4
      have ed : (flDel st V k l).2 = flDie l i V.own := by
        simp only [flDel, ho, if_true, hf, g1, hbr, Bool.false_eq_true, if_false]
      have e3 : flDies (sees st V) V.own (flDie l i V.own) = flDies (sees st V) V.own l :=
        modify_map (y := (k, r)) (by simp [dies, g4, sees_dead h1]) g1
      rw [List.foldl_cons]
      simp only [ed]
      rw [dels_all ho R (flDie l i V.own) ?_ ?_, e3]
      · intro q
        have hq := hn q
        by_cases e : k = q
        · subst e
          rw [g5 V.own]
          have := modify_less (f := fun r : Vr => { r with death := V.own }) (P := sees st V) g4 (sees_dead h1 r) g3
          simp only [dieAt]
          omega
        · rw [List.filter_cons_of_neg (by simpa using e)] at hq
          rw [hq, g6 V.own q (fun a => e a.symm)]
      · intro y hy hs
        rcases mem_modify_of hy with h2 | ⟨z, _, h2⟩
        · exact hb y h2 hs
        · rw [h2] at hs
          simp only [sees_dead h1] at hs
          cases hs

/-- Truncate's error, of the one list. -/
def flTruE (st : List Nat) (V : Vw) (l : Fl) : Int := if stAt st V.own = 1 then (if l.any (fun y => sees st V y.2 && binds st V y.2.death) then 6 else 0) else 7

theorem seenTo_mem {P : Vr → Bool} {l : List Vr} {i n : Nat} {r : Vr} (h : l[i]? = some r) (hp : P r = true) (hi : i < n) : i ∈ seenTo P l n := by
  simp [seenTo, List.mem_filter, h, hp, hi]

theorem seenAll_iff {P : Vr → Bool} {ks : List Int} {F : Int → List Vr} {k : Int} {i : Nat} : (k, i) ∈ seenAll P ks F ↔ k ∈ ks ∧ ∃ r, (F k)[i]? = some r ∧ P r = true := by
  refine ⟨mem_seenAll, ?_⟩
  rintro ⟨hk, r, h1, h2⟩
  simp only [seenAll, List.mem_flatMap, List.mem_map]
  have hl : i < (F k).length := by
    rcases Nat.lt_or_ge i (F k).length with q | q
    · exact q
    · rw [List.getElem?_eq_none q] at h1; cases h1
  exact ⟨k, hk, i, seenTo_mem h1 h2 hl, rfl⟩

theorem flTruE_eq {ks : List Int} {l : Fl} {F : Int → List Vr} (h : Rl l F) (hk : ∀ x ∈ l, x.1 ∈ ks) (st : List Nat) (V : Vw) : flTruE st V l = truE st V ks F := by
  unfold flTruE truE
  have e : l.any (fun y => sees st V y.2 && binds st V y.2.death) = (seenAll (sees st V) ks F).any (boundAt st V F) := by
    rw [Bool.eq_iff_iff, List.any_eq_true, List.any_eq_true]
    constructor
    · rintro ⟨⟨k, r⟩, h1, h2⟩
      simp only [Bool.and_eq_true] at h2
      obtain ⟨i, h3⟩ := List.getElem?_of_mem (mem_pick.2 h1)
      rw [← h k] at h3
      exact ⟨(k, i), seenAll_iff.2 ⟨hk _ h1, r, h3, h2.1⟩, by simp only [boundAt, h3]; exact h2.2⟩
    · rintro ⟨⟨k, i⟩, h1, h2⟩
      obtain ⟨_, r, h3, h4⟩ := seenAll_iff.1 h1
      simp only [boundAt, h3] at h2
      rw [h k] at h3
      exact ⟨(k, r), mem_pick.1 (List.mem_of_getElem? h3), by simp [h4, h2]⟩
  rw [e]

/-- By keys: all that are seen are dead. -/
theorem truF_dies {ks : List Int} {F : Int → List Vr} (hn : ∀ k, k ∉ ks → F k = []) {st : List Nat} {V : Vw} (h0 : truE st V ks F = 0) : truF st V ks F = fun k => (F k).map (dies (sees st V) V.own) := by
  funext k
  rw [truF, if_pos h0]
  apply List.ext_getElem?
  intro i
  rw [dieL_get, List.getElem?_map]
  cases hr : (F k)[i]? with
  | none => rfl
  | some r =>
    have hkm : k ∈ ks := Decidable.byContradiction fun e => by rw [hn k e] at hr; simp at hr
    simp only [Option.map_some, Option.some.injEq, dies]
    by_cases hp : sees st V r = true
    · rw [if_pos (seenAll_iff.2 ⟨hkm, r, hr, hp⟩), if_pos hp]
    · rw [if_neg hp, if_neg]
      intro hm
      obtain ⟨_, s, h1, h2⟩ := seenAll_iff.1 hm
      rw [hr] at h1
      cases h1
      exact hp h2

/-- Truncate, of the one list: what it leaves. -/
def flTru (st : List Nat) (V : Vw) (l : Fl) : Fl := if flTruE st V l = 0 then (flScan (sees st V) l).foldl (fun l y => (flDel st V y.1 l).2) l else l

theorem count_flatMap (P : Vr → Bool) (l : Fl) (q : Int) : ∀ ks : List Int, ks.Pairwise (· < ·) → (q ∈ ks ∨ pick q l = []) → ((scP P ks l).filter fun y => y.1 == q).length = ((pick q l).filter P).length
  | [], _, h => by
    rcases h with h | h
    · simp at h
    · rw [h]; rfl
  | a :: ks, hs, h => by
    rw [List.pairwise_cons] at hs
    have hc : scP P (a :: ks) l = (((pick a l).filter P).map fun r => (a, r.txt)) ++ scP P ks l := by simp [scP]
    rw [hc, List.filter_append, List.length_append]
    by_cases e : q = a
    · subst e
      have h2 : (scP P ks l).filter (fun y => y.1 == q) = [] := by
        rw [List.filter_eq_nil_iff]
        intro y hy
        have := hs.1 _ (scP_key hy)
        simp
        omega
      rw [h2, List.filter_eq_self.2 (by intro y hy; obtain ⟨_, _, rfl⟩ := List.mem_map.1 hy; simp)]
      simp
    · have h2 : ((((pick a l).filter P).map fun r => (a, r.txt)).filter fun y => y.1 == q) = [] := by
        rw [List.filter_eq_nil_iff]
        intro y hy
        obtain ⟨_, _, rfl⟩ := List.mem_map.1 hy
        simp only [beq_iff_eq]
        exact fun x => e x.symm
      rw [h2, count_flatMap P l q ks hs.2 (by rcases h with h | h; exact .inl (by simpa [e] using h); exact .inr h)]
      simp

theorem flTru_rl {ks : List Int} {l : Fl} {F : Int → List Vr} (h : Rl l F) (hs : ks.Pairwise (· < ·)) (hk : ∀ x ∈ l, x.1 ∈ ks) (st : List Nat) (V : Vw) : Rl (flTru st V l) (truF st V ks F) := by
  have hn : ∀ k, k ∉ ks → F k = [] := by
    intro k hm
    rw [h k, List.eq_nil_iff_forall_not_mem]
    intro r hr
    exact hm (hk _ (mem_pick.1 hr))
  unfold flTru
  rw [flTruE_eq h hk]
  by_cases h0 : truE st V ks F = 0
  · have ho : stAt st V.own = 1 := Decidable.byContradiction fun e => by rw [truE, if_neg e] at h0; cases h0
    have hb : ∀ y ∈ l, sees st V y.2 = true → binds st V y.2.death = false := by
      intro y hy hsy
      rw [Bool.eq_false_iff]
      intro hby
      rw [← flTruE_eq h hk, flTruE, if_pos ho, if_pos (List.any_eq_true.2 ⟨y, hy, by simp [hsy, hby]⟩)] at h0
      cases h0
    rw [if_pos h0, truF_dies hn h0, dels_all ho _ l ?_ hb]
    · exact h.map _
    · intro q
      rw [flScan_eq h hs hk, scanR_eq, ← scP_eq h]
      apply count_flatMap _ _ _ _ hs
      by_cases e : q ∈ ks
      · exact .inl e
      · exact .inr (by rw [← h q]; exact hn q e)
  · rw [if_neg h0, truF, if_neg h0]
    exact h
end Go.Proofs.Ytdjhcdgehmpikaa
