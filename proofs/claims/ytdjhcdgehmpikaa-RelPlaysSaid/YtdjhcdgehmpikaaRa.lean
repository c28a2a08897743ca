/-
  One manager with several heaps ('Sm'): what each heap's call does to all of them.
-/
import Derived.Test.YtdjhcdgehmpikaaHu
namespace Go.Proofs.Ytdjhcdgehmpikaa
open Go.RowKit Go.Maps Go.Sort Go.Shelf

/-- The blocks of a heap alone. -/
def hfoot (h mb : Nat) (S : Int → Value) : Nat → Prop := fun k => k = h ∨ k = mb ∨ ∃ q, (S q).ownBlock = some k

theorem foot_of (p b : Nat) (v : Value) (h mb : Nat) (S : Int → Value) : foot p b v h mb S = fun k => mfoot p b v k ∨ hfoot h mb S k := rfl

/-- A heap as plain data: its block, its blocks, its keys, each key's versions. -/
structure Hq where
  h : Nat
  O : Nat → Prop
  ks : List Int
  F : Int → List Vr

/-- It lies in memory. -/
def Hq.live (w : World) (B p : Nat) (t : Hq) : Prop := ∃ mb S, Hp w B p t.h mb S t.ks t.F ∧ t.O = hfoot t.h mb S

/-- A manager and its heaps: no two share a block. -/
structure Sm (w : World) (B p b : Nat) (v : Value) (st : List Nat) (L : List Hq) : Prop where
  mg : Mg w B p b v st
  hs : ∀ (i : Nat) (t : Hq), L[i]? = some t → t.live w B p
  md : ∀ (i : Nat) (t : Hq), L[i]? = some t → ∀ k, t.O k → ¬ mfoot p b v k
  dj : ∀ (i j : Nat) (t u : Hq), L[i]? = some t → L[j]? = some u → i ≠ j → ∀ k, t.O k → ¬ u.O k

/-- All their blocks. -/
def foots (p b : Nat) (v : Value) (L : List Hq) : Nat → Prop := fun k => mfoot p b v k ∨ ∃ (i : Nat) (t : Hq), L[i]? = some t ∧ t.O k

variable {w w' : World} {B p b : Nat} {v : Value} {st : List Nat} {L : List Hq}

theorem Hp.footB {h mb : Nat} {S : Int → Value} {ks : List Int} {F : Int → List Vr} (a : Hp w B p h mb S ks F) : ∀ k, hfoot h mb S k → B ≤ k ∧ k < w.heap.size := by
  rintro k (rfl | rfl | ⟨q, h1⟩)
  · exact ⟨a.bh, heap_lt a.hh⟩
  · obtain ⟨es, c, hb, _⟩ := a.hm
    exact ⟨a.bm, heap_lt hb⟩
  · rcases (a.rows q).2 with ⟨h2, _⟩ | ⟨g', cap, cur, h2, hB, hh, _⟩
    · rw [h2] at h1; cases h1
    · rw [h2] at h1
      simp only [Value.ownBlock, Option.some.injEq] at h1
      subst h1
      exact ⟨hB, heap_lt hh⟩

theorem Hq.live.footB {t : Hq} (a : t.live w B p) : ∀ k, t.O k → B ≤ k ∧ k < w.heap.size := by
  obtain ⟨mb, S, a, e⟩ := a
  rw [e]
  exact a.footB

theorem Hq.live.fo {t : Hq} {O : Nat → Prop} (a : t.live w B p) (hf : Fo O w w') (hd : ∀ k, t.O k → ¬ O k) : t.live w' B p := by
  obtain ⟨mb, S, a, e⟩ := a
  rw [e] at hd
  exact ⟨mb, S, a.fo hf (hd _ (.inl rfl)) (hd _ (.inr (.inl rfl))) (fun q k hk => hd k (.inr (.inr ⟨q, hk⟩))), e⟩

theorem Sm.foots (a : Sm w B p b v st L) : ∀ k, foots p b v L k → B ≤ k ∧ k < w.heap.size := by
  rintro k (hk | ⟨i, t, ht, hk⟩)
  · exact a.mg.foot k hk
  · exact (a.hs i t ht).footB k hk

theorem Sm.size (a : Sm w B p b v st L) : B ≤ w.heap.size := by have := a.foots p (.inl (.inl rfl)); omega

theorem Sm.fo {O : Nat → Prop} (a : Sm w B p b v st L) (hf : Fo O w w') (hd : ∀ k, Go.Proofs.Ytdjhcdgehmpikaa.foots p b v L k → ¬ O k) : Sm w' B p b v st L :=
  ⟨a.mg.fo hf (fun k hk => hd k (.inl hk)), fun i t ht => (a.hs i t ht).fo hf (fun k hk => hd k (.inr ⟨i, t, ht, hk⟩)), a.md, a.dj⟩

theorem Sm.keep (a : Sm w B p b v st L) (hk : Kept w w' []) : Sm w' B p b v st L := a.fo (Fo.ofKept hk (fun _ => False)) (fun _ _ h => h)

theorem Sm.below (a : Sm w B p b v st L) (hf : Fo (Go.Proofs.Ytdjhcdgehmpikaa.foots p b v L) w w') : Below B w w' := hf.below a.size (fun k hk => (a.foots k hk).1)

/-- One of the heaps with the manager. -/
theorem Sm.sx {i : Nat} {t : Hq} (a : Sm w B p b v st L) (ht : L[i]? = some t) : ∃ mb S, Sx w B p t.h b mb v S st t.ks t.F ∧ t.O = hfoot t.h mb S := by
  obtain ⟨mb, S, x, e⟩ := a.hs i t ht
  refine ⟨mb, S, ⟨a.mg, x, fun hb => ?_⟩, e⟩
  have := a.md i t ht mb (by rw [e]; exact .inr (.inl rfl))
  exact this (.inr (.inl hb.symm))

theorem Sm.sd {i : Nat} {t : Hq} (a : Sm w B p b v st L) (ht : L[i]? = some t) : Sd w B p t.h (fun k => mfoot p b v k ∨ t.O k) st t.ks t.F := by
  obtain ⟨mb, S, x, e⟩ := a.sx ht
  exact ⟨b, mb, v, S, x, by rw [e, foot_of]⟩

theorem getElem?_set_some {α : Type} {L : List α} {i j : Nat} {t x u : α} (ht : L[i]? = some t) (h : (L.set i x)[j]? = some u) : (j = i ∧ u = x) ∨ (j ≠ i ∧ L[j]? = some u) := by
  by_cases e : i = j
  · subst e
    have hl : i < L.length := by
      rcases Nat.lt_or_ge i L.length with q | q
      · exact q
      · rw [List.getElem?_eq_none q] at ht; cases ht
    rw [List.getElem?_set_self hl] at h
    exact .inl ⟨rfl, (Option.some.inj h).symm⟩
  · rw [List.getElem?_set_ne e] at h
    exact .inr ⟨fun q => e q.symm, h⟩

/-- A call on one heap: the others stand. -/
theorem Sm.put {i mb mb' : Nat} {t : Hq} {S S' : Int → Value} {ks' : List Int} {F' : Int → List Vr} (a : Sm w B p b v st L) (ht : L[i]? = some t) (e : t.O = hfoot t.h mb S)
    (x : Sx w' B p t.h b mb' v S' st ks' F') (hf : Fo (foot p b v t.h mb S) w w') (hn : ∀ k, foot p b v t.h mb' S' k → foot p b v t.h mb S k ∨ w.heap.size ≤ k) :
    ∃ O', Sm w' B p b v st (L.set i ⟨t.h, O', ks', F'⟩) ∧ Stp (Go.Proofs.Ytdjhcdgehmpikaa.foots p b v L) (Go.Proofs.Ytdjhcdgehmpikaa.foots p b v (L.set i ⟨t.h, O', ks', F'⟩)) w w' ∧ Fo (fun k => mfoot p b v k ∨ t.O k) w w' ∧ ∀ k, O' k → t.O k ∨ w.heap.size ≤ k := by
  obtain ⟨d1, d2, d3⟩ := x.mdis
  have hmd : ∀ k, hfoot t.h mb' S' k → ¬ mfoot p b v k := by
    rintro k (rfl | rfl | ⟨q, h1⟩)
    · exact d1
    · exact d2
    · exact d3 q k h1
  have hn2 : ∀ k, hfoot t.h mb' S' k → t.O k ∨ w.heap.size ≤ k := by
    intro k hk
    rcases hn k (.inr hk) with (h1 | h1) | h1
    · exact absurd h1 (hmd k hk)
    · exact .inl (by rw [e]; exact h1)
    · exact .inr h1
  have hoth : ∀ (j : Nat) (u : Hq), L[j]? = some u → j ≠ i → ∀ k, u.O k → ¬ foot p b v t.h mb S k := by
    rintro j u hu hj k hk (h1 | h1)
    · exact a.md j u hu k hk h1
    · exact a.dj j i u t hu ht hj k hk (by rw [e]; exact h1)
  refine ⟨hfoot t.h mb' S', ⟨x.mg, ?_, ?_, ?_⟩, ⟨hf.mono ?_, ?_⟩, hf.mono ?_, hn2⟩
  · intro j u hu
    rcases getElem?_set_some ht hu with ⟨_, rfl⟩ | ⟨hj, hu⟩
    · exact ⟨mb', S', x.hp, rfl⟩
    · exact (a.hs j u hu).fo hf (hoth j u hu hj)
  · intro j u hu
    rcases getElem?_set_some ht hu with ⟨_, rfl⟩ | ⟨hj, hu⟩
    · exact hmd
    · exact a.md j u hu
  · intro j l u y hu hy hjl k hk
    rcases getElem?_set_some ht hu with ⟨rfl, rfl⟩ | ⟨hj, hu1⟩
    · rcases getElem?_set_some ht hy with ⟨rfl, rfl⟩ | ⟨hl, hy⟩
      · exact absurd rfl hjl
      · rcases hn2 k hk with h1 | h1
        · exact a.dj j l t y ht hy hjl k h1
        · intro h2
          have := ((a.hs l y hy).footB k h2).2
          omega
    · rcases getElem?_set_some ht hy with ⟨rfl, rfl⟩ | ⟨hl, hy1⟩
      · intro h2
        rcases hn2 k h2 with h1 | h1
        · exact a.dj j l u t hu1 ht hjl k hk h1
        · have := ((a.hs j u hu1).footB k hk).2
          omega
      · exact a.dj j l u y hu1 hy1 hjl k hk
  · rintro k (h1 | h1)
    · exact .inl h1
    · exact .inr ⟨i, t, ht, by rw [e]; exact h1⟩
  · rintro k (h1 | ⟨j, u, hu, h1⟩)
    · exact .inl (.inl h1)
    · rcases getElem?_set_some ht hu with ⟨_, rfl⟩ | ⟨hj, hu⟩
      · rcases hn2 k h1 with h2 | h2
        · exact .inl (.inr ⟨i, t, ht, h2⟩)
        · exact .inr h2
      · exact .inl (.inr ⟨j, u, hu, h1⟩)
  · rintro k (h1 | h1)
    · exact .inl h1
    · exact .inr (by rw [e]; exact h1)

/-- A call on the manager alone: the heaps stand. -/
theorem Sm.man {v' : Value} {st' : List Nat} (a : Sm w B p b v st L) (m : Mg w' B p b v' st') (hf : Fo (mfoot p b v) w w') (hn : v'.ownBlock = v.ownBlock ∨ ∃ g, v'.ownBlock = some g ∧ w.heap.size ≤ g) :
    Sm w' B p b v' st' L ∧ Stp (Go.Proofs.Ytdjhcdgehmpikaa.foots p b v L) (Go.Proofs.Ytdjhcdgehmpikaa.foots p b v' L) w w' := by
  have hv : ∀ k, mfoot p b v' k → mfoot p b v k ∨ w.heap.size ≤ k := by
    rintro k (rfl | rfl | h1)
    · exact .inl (.inl rfl)
    · exact .inl (.inr (.inl rfl))
    · rcases hn with h2 | ⟨g, h2, h3⟩
      · rw [h2] at h1; exact .inl (.inr (.inr h1))
      · rw [h2] at h1; cases h1; exact .inr h3
  refine ⟨⟨m, fun i t ht => (a.hs i t ht).fo hf (a.md i t ht), fun i t ht k hk h1 => ?_, a.dj⟩, hf.mono (fun k hk => .inl hk), ?_⟩
  · rcases hv k h1 with h2 | h2
    · exact a.md i t ht k hk h2
    · have := ((a.hs i t ht).footB k hk).2
      omega
  · rintro k (h1 | h1)
    · rcases hv k h1 with h2 | h2
      · exact .inl (.inl h2)
      · exact .inr h2
    · exact .inl (.inr h1)

/-- One more heap. -/
theorem Sm.more {h mb : Nat} {S : Int → Value} {ks : List Int} {F : Int → List Vr} (a : Sm w B p b v st L) (x : Sx w' B p h b mb v S st ks F) (hk : Kept w w' []) (hn : ∀ k, hfoot h mb S k → w.heap.size ≤ k) :
    Sm w' B p b v st (L ++ [⟨h, hfoot h mb S, ks, F⟩]) := by
  have a' := a.keep hk
  obtain ⟨d1, d2, d3⟩ := x.mdis
  have cs : ∀ (i : Nat) (t : Hq), (L ++ [(⟨h, hfoot h mb S, ks, F⟩ : Hq)])[i]? = some t → L[i]? = some t ∨ (i = L.length ∧ t = ⟨h, hfoot h mb S, ks, F⟩) := by
    intro i t ht
    rcases Nat.lt_or_ge i L.length with q | q
    · rw [List.getElem?_append_left q] at ht; exact .inl ht
    · rw [List.getElem?_append_right q] at ht
      rcases Nat.eq_zero_or_pos (i - L.length) with z | z
      · rw [z] at ht; simp at ht; exact .inr ⟨by omega, ht.symm⟩
      · rw [List.getElem?_eq_none (by simp; omega)] at ht; cases ht
  refine ⟨x.mg, ?_, ?_, ?_⟩
  · intro i t ht
    rcases cs i t ht with h1 | ⟨_, rfl⟩
    · exact a'.hs i t h1
    · exact ⟨mb, S, x.hp, rfl⟩
  · intro i t ht
    rcases cs i t ht with h1 | ⟨_, rfl⟩
    · exact a'.md i t h1
    · rintro k (rfl | rfl | ⟨q, h1⟩)
      · exact d1
      · exact d2
      · exact d3 q k h1
  · intro i j t u ht hu hij k hk
    rcases cs i t ht with h1 | ⟨rfl, rfl⟩
    · rcases cs j u hu with h2 | ⟨rfl, rfl⟩
      · exact a.dj i j t u h1 h2 hij k hk
      · intro h3
        have := ((a.hs i t h1).footB k hk).2
        have := hn k h3
        omega
    · rcases cs j u hu with h2 | ⟨rfl, rfl⟩
      · intro h3
        have := ((a.hs j u h2).footB k h3).2
        have := hn k hk
        omega
      · exact absurd rfl hij
end Go.Proofs.Ytdjhcdgehmpikaa
