/-
  A store's manager; Vacuum of no store.
-/
import Derived.Test.YtdjhcdgehmpikaaQe
namespace Go.Proofs.Ytdjhcdgehmpikaa
open Go.RowKit Go.Maps Go.Sort Go.Shelf

variable {w : World} {B p r : Nat} {O : Nat → Prop} {st : List Nat} {T : List Tab}

theorem begin_sto (s : Sto w B p r O st T) (h1 : (opens st).length < 6) (h2 : st.length + 1 < 1048576) :
    Calls Try.prog 16 #[.pointer (some ⟨p, 0, none⟩)] w fun e w' => e = .returned (.tuple #[.int .i64 ((st.length : Int) + 1), .int .i64 0]) ∧ ∃ O', Sto w' B p r O' (st ++ [1]) T ∧ Stp O O' w w' := by
  obtain ⟨b, v, sv, L, a, c, rfl, rfl⟩ := s
  refine (begin_sm a h1 h2).mono ?_
  rintro e w' ⟨rfl, v', a', f⟩
  exact ⟨rfl, _, Sto.turn a c a' rfl f⟩

theorem beginfull_sto (s : Sto w B p r O st T) (hf : 6 ≤ (opens st).length ∨ st.length + 1 = 1048576) :
    Calls Try.prog 16 #[.pointer (some ⟨p, 0, none⟩)] w fun e w' => e = .returned (.tuple #[.int .i64 0, .int .i64 8]) ∧ w = w' := by
  obtain ⟨b, v, sv, L, a, c, rfl, rfl⟩ := s
  exact mbegin_full a.mg hf

theorem commit_sto (s : Sto w B p r O st T) (x : Int) (hx : (Lit.int .i64 x).wf = true) (hb : stAt st x = 1) :
    Calls Try.prog 19 #[.pointer (some ⟨p, 0, none⟩), .int .i64 x] w fun e w' => e = .returned (.int .i64 0) ∧ ∃ O', Sto w' B p r O' (st.set (x.toNat - 1) 2) T ∧ Stp O O' w w' := by
  obtain ⟨b, v, sv, L, a, c, rfl, rfl⟩ := s
  refine (commit_sm a x hx hb).mono ?_
  rintro e w' ⟨rfl, a', f⟩
  exact ⟨rfl, _, Sto.turn a c a' rfl f⟩

theorem commitbad_sto (s : Sto w B p r O st T) (x : Int) (hx : (Lit.int .i64 x).wf = true) (hb : stAt st x ≠ 1) :
    Calls Try.prog 19 #[.pointer (some ⟨p, 0, none⟩), .int .i64 x] w fun e w' => e = .returned (.int .i64 7) ∧ w = w' := by
  obtain ⟨b, v, sv, L, a, c, rfl, rfl⟩ := s
  exact mcommit_bad a.mg x hx hb

theorem now_sto (s : Sto w B p r O st T) :
    Calls Try.prog 28 #[.pointer (some ⟨p, 0, none⟩)] w fun e w' => ∃ u c, e = .returned (.agg #[.int .i64 ((st.length : Int) + 1), .slice u (opens st).length c]) ∧ Vo w' (.slice u (opens st).length c) (opens st) ∧ Kept w w' [] := by
  obtain ⟨b, v, sv, L, a, c, rfl, rfl⟩ := s
  exact now_sm a

/-- Heap: is there such a table? -/
theorem heapis_sto (s : Sto w B p r O st T) (t : Int) (hw : (Lit.int .i64 t).wf = true) :
    Calls Try.prog 30 #[.pointer (some ⟨r, 0, none⟩), .int .i64 t] w fun e w' => (∃ x : Option Addr, e = .returned (.pointer x) ∧ (x = none ↔ t < 0 ∨ (T.length : Int) ≤ t)) ∧ w = w' := by
  obtain ⟨b, v, sv, L, a, c, rfl, rfl⟩ := s
  refine (heap_at c t hw).mono ?_
  rintro e w' ⟨rfl, rfl⟩
  refine ⟨?_, rfl⟩
  unfold hpAt
  by_cases h0 : t < 0
  · rw [if_neg (by omega)]
    exact ⟨none, rfl, by simp [h0]⟩
  · rw [if_pos (by omega)]
    cases h : L[t.toNat]? with
    | none =>
      have : L.length ≤ t.toNat := by simpa using h
      exact ⟨none, rfl, by simp; omega⟩
    | some u =>
      have : t.toNat < L.length := (List.getElem?_eq_some_iff.1 h).1
      exact ⟨some ⟨u.h, 0, none⟩, rfl, by simp; omega⟩

theorem tables_sto (s : Sto w B p r O st T) : Calls Try.prog 15 #[.pointer (some ⟨r, 0, none⟩)] w fun e w' => e = .returned (.int .i64 T.length) ∧ w = w' := by
  obtain ⟨b, v, sv, L, a, c, rfl, rfl⟩ := s
  have := tables_any c
  simpa using this

theorem relvac_nil (mx : Int) (sl : Value) (w : World) : Calls Try.prog 27 #[.pointer none, .agg #[.int .i64 mx, sl]] w fun e w' => e = .returned (.int .i64 0) ∧ Kept w w' [] := by
  go_enter Try.func27, Try.ntmps27
  go_wp2_with fail
  refine (tables_nil _).mono ?_
  rintro e w' ⟨rfl, rfl⟩
  go_wp2_with fail
  go_loopw [5, 9] (fun s t wr => s = .int .i64 0 ∧ t = .int .i64 0 ∧ wr = w.alloc (.cells #[.int .i64 mx, sl] 47)) (fun _ _ _ => 0)
  case atStart => exact ⟨rfl, rfl, rfl⟩
  case round =>
    obtain ⟨rfl, rfl, rfl⟩ := hrel
    go_wp2
    go_ret
    exact ⟨rfl, (Kept.refl w []).alloc _⟩

theorem few_mono {N M : Nat} {T : List Tab} (h : Few N T) (hm : N ≤ M) : Few M T := fun t ht => ⟨by have := (h t ht).1; omega, fun k => by have := (h t ht).2 k; omega⟩

theorem few_none (N n : Nat) : Few N (List.replicate n noTab) := fun t ht => by
  obtain rfl := List.eq_of_mem_replicate ht
  exact ⟨Nat.zero_le _, fun _ => Nat.zero_le _⟩

theorem runH_few {N : Nat} {t : Tab} (h : t.ks.length ≤ N ∧ ∀ k, (t.F k).length ≤ N) (st : List Nat) (V : Vw) (kind : Nat) (key : Int) (txt : ByteArray) :
    (runH st V kind key txt t).tab.ks.length ≤ N + 1 ∧ ∀ k, ((runH st V kind key txt t).tab.F k).length ≤ N + 1 := by
  have put : ∀ (e : Int) (F : Int → List Vr), (∀ k, (F k).length ≤ N) → (putK e key t.ks).length ≤ N + 1 ∧ ∀ k, (putF e key ⟨txt, V.own, 0⟩ F k).length ≤ N + 1 := by
    intro e F hF
    unfold putK putF
    by_cases e0 : e = 0
    · rw [if_pos e0, if_pos e0]
      refine ⟨by have := (insK_length key t.ks).1; omega, fun k => ?_⟩
      by_cases ek : k = key
      · subst ek; rw [updF_same, List.length_append]; have := hF k; simp; omega
      · rw [updF_other _ _ ek]; have := hF k; omega
    · rw [if_neg e0, if_neg e0]
      exact ⟨by omega, fun k => by have := hF k; omega⟩
  have del : ∀ k, (updF t.F key (delL st V (t.F key)).2 k).length ≤ N := by
    intro k
    by_cases ek : k = key
    · subst ek; rw [updF_same, delL_length]; exact h.2 k
    · rw [updF_other _ _ ek]; exact h.2 k
  have same : t.ks.length ≤ N + 1 ∧ ∀ k, (t.F k).length ≤ N + 1 := ⟨by omega, fun k => by have := h.2 k; omega⟩
  unfold runH
  split
  · unfold putH
    split
    · exact same
    · split
      · exact put _ _ h.2
      · exact put _ _ del
  · split
    · exact ⟨by show t.ks.length ≤ N + 1; omega, fun k => by have := del k; show (updF t.F key (delL st V (t.F key)).2 k).length ≤ N + 1; omega⟩
    · split
      · refine ⟨by show t.ks.length ≤ N + 1; omega, fun k => ?_⟩
        show (truF st V t.ks t.F k).length ≤ N + 1
        have : (truF st V t.ks t.F k).length = (t.F k).length := by
          unfold truF
          split
          · exact dieL_length _ _ _ _
          · rfl
        have := h.2 k
        omega
      · split
        · unfold getH
          split
          · split <;> exact same
          · exact same
        · split <;> exact same

theorem runT_few {N : Nat} (h : Few N T) (st : List Nat) (V : Vw) (kind : Nat) (tb key : Int) (txt : ByteArray) : Few (N + 1) (runT st V kind tb key txt T) := by
  unfold runT
  split
  · exact few_mono h (by omega)
  · split
    · rename_i t ht
      intro u hu
      rcases List.mem_or_eq_of_mem_set hu with h1 | h1
      · exact few_mono h (Nat.le_succ N) u h1
      · subst h1
        exact runH_few (h t (List.mem_of_getElem? ht)) st V kind key txt
    · exact few_mono h (by omega)

theorem runT_length (st : List Nat) (V : Vw) (kind : Nat) (tb key : Int) (txt : ByteArray) (T : List Tab) : (runT st V kind tb key txt T).length = T.length := by
  unfold runT
  split
  · rfl
  · split
    · simp
    · rfl
end Go.Proofs.Ytdjhcdgehmpikaa
