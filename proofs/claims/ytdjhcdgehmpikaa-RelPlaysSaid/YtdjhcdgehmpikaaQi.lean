/-
  A table that one transaction alone writes: of each key it sees one row at most.
-/
import Derived.Test.YtdjhcdgehmpikaaQh
namespace Go.Proofs.Ytdjhcdgehmpikaa
open Go.RowKit Go.Maps

/-- The view of the first transaction. -/
abbrev V1 : Vw := ⟨2, [1], 1⟩

def One1 (t : Tab) : Prop := ∀ k, (∀ r ∈ t.F k, r.birth = 1 ∧ (r.death = 0 ∨ r.death = 1)) ∧ ((t.F k).filter (sees [1] V1)).length ≤ 1

theorem sees1 (r : Vr) (h : r.birth = 1 ∧ (r.death = 0 ∨ r.death = 1)) : sees [1] V1 r = decide (r.death = 0) := by
  have a1 : did [1] V1 1 = true := by decide
  have a0 : did [1] V1 0 = false := by decide
  obtain ⟨h1, h2 | h2⟩ := h
  · simp [sees, h1, h2, a1, a0]
  · simp [sees, h1, h2, a1]

theorem binds0 : binds [1] V1 0 = false := by decide
theorem seesDead1 (r : Vr) : sees [1] V1 { r with death := 1 } = false := sees_dead (V := V1) (by decide) r

theorem findIdx_some {P : Vr → Bool} : ∀ {l : List Vr} {i : Nat}, l.findIdx? P = some i → ∃ r, l[i]? = some r ∧ P r = true
  | [], i, h => by simp at h
  | a :: l, i, h => by
    rw [List.findIdx?_cons] at h
    by_cases hp : P a = true
    · simp only [hp, if_true, Option.some.injEq] at h
      subst h
      exact ⟨a, rfl, hp⟩
    · simp only [hp, Bool.false_eq_true, if_false, Option.map_eq_some_iff] at h
      obtain ⟨j, hj, rfl⟩ := h
      obtain ⟨r, h1, h2⟩ := findIdx_some hj
      exact ⟨r, by simpa using h1, h2⟩

theorem mem_die {l : List Vr} {i : Nat} {x : Int} {r : Vr} (h : r ∈ dieAt l i x) : r ∈ l ∨ ∃ y, y ∈ l ∧ r = { y with death := x } := by
  rcases mem_modify_of h with h1 | ⟨y, h1, h2⟩
  · exact .inl h1
  · exact .inr ⟨y, List.mem_of_getElem? h1, h2⟩

/-- What Delete makes of the rows with its key. -/
theorem one_del {l : List Vr} (h : (∀ r ∈ l, r.birth = 1 ∧ (r.death = 0 ∨ r.death = 1)) ∧ (l.filter (sees [1] V1)).length ≤ 1) :
    ((∀ r ∈ (delL [1] V1 l).2, r.birth = 1 ∧ (r.death = 0 ∨ r.death = 1)) ∧ ((delL [1] V1 l).2.filter (sees [1] V1)).length ≤ 1) ∧ ((delL [1] V1 l).1 = 0 → ((delL [1] V1 l).2.filter (sees [1] V1)).length = 0) := by
  unfold delL
  rw [if_pos (by decide)]
  cases hf : l.findIdx? (sees [1] V1) with
  | none => exact ⟨h, fun e => by cases e⟩
  | some i =>
    obtain ⟨r, hr, hp⟩ := findIdx_some hf
    simp only [hr]
    have h0 := h.1 r (List.mem_of_getElem? hr)
    rw [sees1 r h0, decide_eq_true_eq] at hp
    rw [hp, binds0]
    simp only [Bool.false_eq_true, if_false]
    have hless : ((dieAt l i 1).filter (sees [1] V1)).length + 1 = (l.filter (sees [1] V1)).length := modify_less (y := r) (by rw [sees1 r h0]; simpa using hp) (seesDead1 r) hr
    refine ⟨⟨fun y hy => ?_, ?_⟩, fun _ => ?_⟩
    · rcases mem_die hy with h1 | ⟨z, h1, rfl⟩
      · exact h.1 y h1
      · exact ⟨(h.1 z h1).1, .inr rfl⟩
    · show ((dieAt l i 1).filter (sees [1] V1)).length ≤ 1
      have := h.2; omega
    · show ((dieAt l i 1).filter (sees [1] V1)).length = 0
      have := h.2; omega

theorem one_snoc {l : List Vr} {txt : ByteArray} (h : ∀ r ∈ l, r.birth = 1 ∧ (r.death = 0 ∨ r.death = 1)) (h0 : (l.filter (sees [1] V1)).length = 0) :
    (∀ r ∈ l ++ [⟨txt, 1, 0⟩], r.birth = 1 ∧ (r.death = 0 ∨ r.death = 1)) ∧ ((l ++ [(⟨txt, 1, 0⟩ : Vr)]).filter (sees [1] V1)).length ≤ 1 := by
  refine ⟨fun r hr => ?_, ?_⟩
  · rcases List.mem_append.1 hr with h1 | h1
    · exact h r h1
    · simp at h1; subst h1; exact ⟨rfl, .inl rfl⟩
  · rw [List.filter_append, List.length_append, h0]
    have := List.length_filter_le (sees [1] V1) [(⟨txt, 1, 0⟩ : Vr)]
    simp only [List.length_cons, List.length_nil] at this
    omega

theorem One1.put {t : Tab} (h : One1 t) (key : Int) (l : List Vr) (hl : (∀ r ∈ l, r.birth = 1 ∧ (r.death = 0 ∨ r.death = 1)) ∧ (l.filter (sees [1] V1)).length ≤ 1) (ks : List Int) : One1 ⟨ks, updF t.F key l⟩ := fun k => by
  show (∀ r ∈ updF t.F key l k, _) ∧ ((updF t.F key l k).filter _).length ≤ 1
  by_cases e : k = key
  · subst e; rw [updF_same]; exact hl
  · rw [updF_other _ _ e]; exact h k

theorem updF_twice {α : Type} (F : Int → α) (k : Int) (a b : α) : updF (updF F k a) k b = updF F k b := by
  funext q
  by_cases e : q = k
  · subst e; rw [updF_same, updF_same]
  · rw [updF_other _ _ e, updF_other _ _ e, updF_other _ _ e]

theorem One1.run {t : Tab} (h : One1 t) (hn : ∀ k, k ∉ t.ks → t.F k = []) (kind : Nat) (key : Int) (txt : ByteArray) : One1 (runH [1] V1 kind key txt t).tab := by
  unfold runH
  split
  · unfold putH
    split
    · exact h
    · split
      · show One1 ⟨putK _ key t.ks, putF _ key _ t.F⟩
        unfold putF
        split
        · rename_i e0
          refine h.put key _ (one_snoc (h key).1 ?_) _
          have : (t.F key).findIdx? (sees [1] V1) = none := by
            unfold insE at e0
            rw [if_pos (by decide)] at e0
            cases hf : (t.F key).findIdx? (sees [1] V1) with
            | none => rfl
            | some i => rw [hf] at e0; simp at e0
          exact findIdx_none this
        · exact h
      · show One1 ⟨putK _ key t.ks, putF _ key _ _⟩
        unfold putF
        split
        · rename_i e0
          rw [updF_twice, updF_same]
          have d := one_del (h key)
          exact h.put key _ (one_snoc d.1.1 (d.2 e0)) _
        · exact h.put key _ (one_del (h key)).1 _
  · split
    · exact h.put key _ (one_del (h key)).1 _
    · split
      · show One1 ⟨t.ks, truF [1] V1 t.ks t.F⟩
        by_cases h0 : truE [1] V1 t.ks t.F = 0
        · rw [truF_dies hn h0]
          intro k
          show (∀ r ∈ (t.F k).map (dies (sees [1] V1) 1), _) ∧ (((t.F k).map (dies (sees [1] V1) 1)).filter (sees [1] V1)).length ≤ 1
          refine ⟨fun r hr => ?_, ?_⟩
          · obtain ⟨y, hy, rfl⟩ := List.mem_map.1 hr
            have hy1 := (h k).1 y hy
            unfold dies
            split
            · exact ⟨hy1.1, .inr rfl⟩
            · exact hy1
          · have : ((t.F k).map (dies (sees [1] V1) 1)).filter (sees [1] V1) = [] := by
              rw [List.filter_eq_nil_iff]
              intro r hr
              obtain ⟨y, hy, rfl⟩ := List.mem_map.1 hr
              unfold dies
              split
              · rw [seesDead1]; simp
              · assumption
            rw [this]; simp
        · unfold truF; rw [if_neg h0]; exact h
      · split
        · unfold getH
          split
          · split <;> exact h
          · exact h
        · split <;> exact h

/-- Scan's rows with one key. -/
theorem scan_count (P : Vr → Bool) (F : Int → List Vr) (q : Int) : ∀ ks : List Int, ks.Pairwise (· < ·) → (q ∈ ks ∨ F q = []) → (scanF P ks F).filter (fun y => y.1 == q) = ((F q).filter P).map fun r => (q, r.txt)
  | [], _, h => by
    rcases h with h | h
    · simp at h
    · rw [h]; rfl
  | a :: ks, hs, h => by
    rw [List.pairwise_cons] at hs
    have hc : scanF P (a :: ks) F = (((F a).filter P).map fun r => (a, r.txt)) ++ scanF P ks F := by simp [scanF]
    rw [hc, List.filter_append]
    by_cases e : q = a
    · subst e
      have h2 : (scanF P ks F).filter (fun y => y.1 == q) = [] := by
        rw [List.filter_eq_nil_iff]
        intro y hy
        simp only [scanF, List.mem_flatMap, List.mem_map] at hy
        obtain ⟨k, hk, r, _, rfl⟩ := hy
        have := hs.1 k hk
        simp
        omega
      rw [h2, List.filter_eq_self.2 (by intro y hy; obtain ⟨_, _, rfl⟩ := List.mem_map.1 hy; simp), List.append_nil]
    · have h2 : ((((F a).filter P).map fun r => (a, r.txt)).filter fun y => y.1 == q) = [] := by
        rw [List.filter_eq_nil_iff]
        intro y hy
        obtain ⟨_, _, rfl⟩ := List.mem_map.1 hy
        simp only [beq_iff_eq]
        exact fun x => e x.symm
      rw [h2, scan_count P F q ks hs.2 (by rcases h with h | h; exact .inl (by simpa [e] using h); exact .inr h)]
      rfl

/-- What Get tells beside Scan. -/
theorem get_scan {t : Tab} (h : One1 t) (hs : t.ks.Pairwise (· < ·)) (hn : ∀ k, k ∉ t.ks → t.F k = []) (q : Int) :
    (getH [1] V1 q t = ⟨4, [], t⟩ ∧ (scanR (sees [1] V1) t.ks t.F).filter (fun y => y.1 == q) = []) ∨
    ∃ x, getH [1] V1 q t = ⟨0, [(q, x)], t⟩ ∧ (scanR (sees [1] V1) t.ks t.F).filter (fun y => y.1 == q) = [(q, x)] := by
  have hc := scan_count (sees [1] V1) t.F q t.ks hs (by by_cases e : q ∈ t.ks; exact .inl e; exact .inr (hn q e))
  rw [scanR_eq, hc]
  unfold getH
  cases hf : (t.F q).findIdx? (sees [1] V1) with
  | none =>
    have := findIdx_none hf
    have e : (t.F q).filter (sees [1] V1) = [] := List.eq_nil_of_length_eq_zero this
    rw [e]
    exact .inl ⟨rfl, rfl⟩
  | some i =>
    obtain ⟨r, hr, hp⟩ := findIdx_some hf
    have hm : r ∈ (t.F q).filter (sees [1] V1) := List.mem_filter.2 ⟨List.mem_of_getElem? hr, hp⟩
    have hl := (h q).2
    right
    refine ⟨r.txt, by simp only [hr], ?_⟩
    cases hfl : (t.F q).filter (sees [1] V1) with
    | nil => rw [hfl] at hm; simp at hm
    | cons a l =>
      rw [hfl] at hm hl
      simp only [List.length_cons] at hl
      obtain rfl : l = [] := List.eq_nil_of_length_eq_zero (by omega)
      simp only [List.mem_cons, List.not_mem_nil, or_false] at hm
      subst hm
      rfl

theorem allLen_le {F : Int → List Vr} {N : Nat} (h : ∀ k, (F k).length ≤ N) : ∀ ks : List Int, allLen F ks ≤ ks.length * N
  | [] => by simp [allLen]
  | a :: ks => by
    have ih := allLen_le h ks
    have := h a
    simp only [allLen, List.map_cons, List.sum_cons, List.length_cons] at ih ⊢
    rw [Nat.succ_mul]
    omega

variable {w : World} {B p r : Nat} {O : Nat → Prop} {st : List Nat} {T : List Tab}

/-- A table's keys rise, and what isn't there is nothing. -/
theorem Sto.facts (s : Sto w B p r O st T) {i : Nat} {t : Tab} (ht : T[i]? = some t) : t.ks.Pairwise (· < ·) ∧ ∀ k, k ∉ t.ks → t.F k = [] := by
  obtain ⟨b, v, sv, L, a, c, rfl, rfl⟩ := s
  rw [List.getElem?_map] at ht
  cases hu : L[i]? with
  | none => rw [hu] at ht; cases ht
  | some u =>
    rw [hu] at ht
    simp only [Option.map_some, Option.some.injEq] at ht
    subst ht
    exact (a.sd hu).facts

/-- Heap, and Len of it. -/
theorem heaplen_sto (s : Sto w B p r O st T) {i : Nat} {t : Tab} (ht : T[i]? = some t) (hi : (Lit.int .i64 (i : Int)).wf = true) {N : Nat} (hN : Few N T) (hN2 : N ≤ 900) :
    Calls Try.prog 30 #[.pointer (some ⟨r, 0, none⟩), .int .i64 i] w fun e w' => (∃ h : Nat, e = .returned (.pointer (some ⟨h, 0, none⟩)) ∧ ∀ V, Kept w V [] → Calls Try.prog 31 #[.pointer (some ⟨h, 0, none⟩)] V fun e w' => e = .returned (.int .i64 (allLen t.F t.ks)) ∧ Kept V w' []) ∧ w = w' := by
  obtain ⟨b, v, sv, L, a, c, rfl, rfl⟩ := s
  have hb := hN t (List.mem_of_getElem? ht)
  rw [List.getElem?_map] at ht
  cases hu : L[i]? with
  | none => rw [hu] at ht; cases ht
  | some u =>
    rw [hu] at ht
    simp only [Option.map_some, Option.some.injEq] at ht
    subst ht
    have hc := heap_at c i hi
    have e0 : hpAt L (i : Int) = .pointer (some ⟨u.h, 0, none⟩) := by rw [hpAt, if_pos (by omega), Int.toNat_natCast, hu]
    rw [e0] at hc
    refine hc.mono ?_
    rintro e w' ⟨rfl, rfl⟩
    refine ⟨⟨u.h, rfl, fun V hV => ?_⟩, rfl⟩
    obtain ⟨mb, S, x, _⟩ := (a.keep hV).sx hu
    refine len_any x ?_
    have := allLen_le hb.2 u.tab.ks
    have h2 : u.tab.ks.length * N ≤ 900 * 900 := Nat.mul_le_mul (by omega) hN2
    show allLen u.tab.F u.tab.ks ≤ 1000000000
    omega
end Go.Proofs.Ytdjhcdgehmpikaa
