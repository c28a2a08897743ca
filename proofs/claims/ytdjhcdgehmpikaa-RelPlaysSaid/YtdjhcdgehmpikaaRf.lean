/-
  How many versions a heap has: Len.
-/
import Derived.Test.YtdjhcdgehmpikaaRe
import Derived.Maps.RangeWalk
namespace Go.Proofs.Ytdjhcdgehmpikaa
open Go.RowKit Go.Maps

/-- How many versions lie at the keys that are done with. -/
def doneLen (left : Lit → Bool) (F : Int → List Vr) (ks : List Int) : Nat := (ks.map fun k => if left (.int .i64 k) then 0 else (F k).length).sum
def allLen (F : Int → List Vr) (ks : List Int) : Nat := (ks.map fun k => (F k).length).sum

theorem doneLen_none {left : Lit → Bool} {F : Int → List Vr} {ks : List Int} (h : ∀ kl, left kl = false) : doneLen left F ks = allLen F ks := by
  simp [doneLen, allLen, h]

theorem doneLen_le (left : Lit → Bool) (F : Int → List Vr) : ∀ ks : List Int, doneLen left F ks ≤ allLen F ks
  | [] => by simp [doneLen, allLen]
  | a :: ks => by
    have ih := doneLen_le left F ks
    simp only [doneLen, allLen, List.map_cons, List.sum_cons] at ih ⊢
    split <;> omega

theorem doneLen_out {left : Lit → Bool} {F : Int → List Vr} {k : Int} : ∀ {ks : List Int}, k ∉ ks → doneLen (fun z => left z && !z.sameKey (.int .i64 k)) F ks = doneLen left F ks
  | [], _ => rfl
  | a :: ks, h => by
    have ih := doneLen_out (left := left) (F := F) (k := k) (ks := ks) (fun e => h (by simp [e]))
    have e : ¬ a = k := fun e => h (by simp [e])
    simp only [doneLen, List.map_cons, List.sum_cons] at ih ⊢
    rw [ih]
    simp [Lit.sameKey, e]

theorem doneLen_step {left : Lit → Bool} {F : Int → List Vr} {k : Int} (hl : left (.int .i64 k) = true) : ∀ {ks : List Int}, ks.Pairwise (· < ·) → k ∈ ks → doneLen (fun z => left z && !z.sameKey (.int .i64 k)) F ks = doneLen left F ks + (F k).length
  | [], _, h => by simp at h
  | a :: ks, hs, h => by
    rw [List.pairwise_cons] at hs
    by_cases e : a = k
    · subst e
      have ih := doneLen_out (left := left) (F := F) (k := a) (ks := ks) (fun hm => by have := hs.1 a hm; omega)
      simp only [doneLen, List.map_cons, List.sum_cons] at ih ⊢
      rw [ih]
      simp [Lit.sameKey, hl]
      omega
    · have ih := doneLen_step (F := F) hl hs.2 (by rcases List.mem_cons.1 h with q | q; exact absurd q.symm e; exact q)
      simp only [doneLen, List.map_cons, List.sum_cons] at ih ⊢
      rw [ih]
      simp [Lit.sameKey, e]
      omega

theorem doneLen_start (S : Int → Value) (F : Int → List Vr) (ks : List Int) : doneLen (Maps.has (Tm ks S)) F ks = 0 := by
  have h : ∀ k ∈ ks, Maps.has (Tm ks S) (.int .i64 k) = true := by
    intro k hk
    rw [Tm, Maps.has_eq, List.any_eq_true]
    exact ⟨_, List.mem_map.2 ⟨k, hk, rfl⟩, by simp [Lit.sameKey]⟩
  rw [doneLen, List.map_congr_left (g := fun _ => 0) (by intro k hk; simp [h k hk])]
  clear h
  induction ks with
  | nil => rfl
  | cons a ks ih => rw [List.map_cons, List.sum_cons, ih]

/-- An entry that has come is one of the keys' slices. -/
theorem came {ks : List Int} {S : Int → Value} {x : Int} {v : Value} {y : DataW Value × List MemPlace} (hy : Rh v = some y) (hat : ∀ zd, (Tm ks S).atKey (.int .i64 x) zd = y.1) : x ∈ ks ∧ v = S x := by
  have h : ∀ z, (if x ∈ ks then S x else z) = v := by
    intro z
    have := hat (.held z)
    rw [at_Tm] at this
    simp only [Rh, Option.some.injEq] at hy
    rw [← hy] at this
    simpa using this
  by_cases hm : x ∈ ks
  · have := h (.bool true)
    rw [if_pos hm] at this
    exact ⟨hm, this.symm⟩
  · have h1 := h (.bool true)
    have h2 := h (.bool false)
    rw [if_neg hm] at h1 h2
    rw [← h2] at h1
    cases h1

theorem kept_grown {w w' : World} (h : w.grownBy w' none) : Kept w w' [] := ⟨h.os, h.tape, h.output, h.size, fun k hk _ => h.block k hk (by simp)⟩

variable {w : World} {B p h b mb : Nat} {v : Value} {S : Int → Value} {st : List Nat} {ks : List Int} {F : Int → List Vr}

set_option maxRecDepth 100000 in
theorem len_any (a : Sx w B p h b mb v S st ks F) (hN : allLen F ks ≤ 1000000000) :
    Calls Try.prog 31 #[.pointer (some ⟨h, 0, none⟩)] w fun e w' => e = .returned (.int .i64 (allLen F ks)) ∧ Kept w w' [] := by
  have cm := missing_any a
  obtain ⟨c0, c1⟩ := a.hp.cell
  have A := Lib.hid a
  have HN := Lib.hid hN
  have hown := a.hp.hm
  have HS := Lib.hid a.hp.srt
  clear a hN
  go_enter Try.func31, Try.ntmps31
  go_wp2_with fail
  refine cm.mono ?_
  rintro e w' ⟨rfl, rfl⟩
  go_wp2_with (first
    | (at_range; refine wpList_range_own _ rfl _ 114 rfl 2 117 keyed Try.underlying114 Rh mb ks.length _ rfl hown ?_; intro w0 hrg0 hg0 hs0)
    | go_in)
  go_frame
  go_loopw [3] (fun s wr => ∃ (left : Lit → Bool) (cnt : Nat), wr.ranges Try.prog 2 Rh mb w.heap.size ks.length (Tm ks S) left cnt ∧ w.grownBy wr none ∧ s = .int .i64 (doneLen left F ks))
    (fun _ wr => wr.rangeLeft mb w.heap.size)
  case atStart => exact ⟨_, _, hrg0, hg0, by rw [doneLen_start]; rfl⟩
  case round =>
    obtain ⟨left, cnt, hrg, hgw, rfl⟩ := hrel
    go_wp2_with (first
      | (at_next; refine wpList_next_ranges _ rfl _ rfl 2 keyed Rh (Value.int .i64) (fun v => v) (fun key kl hkey => by obtain ⟨x, rfl, _⟩ := Maps.keyOf_int_inv Try.underlying2 hkey; exact ⟨x, rfl⟩) (fun v y _ => ⟨v, rfl⟩) mb w.heap.size ks.length _ _ _ rfl hrg ?_ ?_)
      | go_in)
    · intro _ hl0
      go_wp2
      go_ret
      rw [doneLen_none hl0]
      exact ⟨rfl, kept_grown hgw⟩
    · intro x c kl y1 y2 w1 cnt1 hkl hlx hy hat hrg1 hlt hg1 hs1 hen
      obtain ⟨x', ex, rfl, hwx⟩ := Maps.keyOf_int_inv Try.underlying2 hkl
      cases ex
      obtain ⟨hxm, rfl⟩ := came (y := (y1, y2)) hy hat
      have hst := doneLen_step (F := F) hlx HS.out hxm
      have hle := doneLen_le (fun z => left z && !z.sameKey (.int .i64 x)) F ks
      rw [hst] at hle
      have hgw1 := hgw.andThen hg1 (fun j hj => by cases hj; exact Or.inl (Nat.le_refl _))
      obtain ⟨u, cc, eS⟩ : ∃ u cc, S x = .slice u (F x).length cc := by
        rcases (A.out.hp.rows x).2 with ⟨h2, h0⟩ | ⟨g', cap, cur, h2, _⟩
        · exact ⟨none, 0, by rw [h2, h0]⟩
        · exact ⟨_, cap, h2⟩
      rw [eS] at hen
      rw [eS]
      go_wp2
      go_roundw
      case rel => exact ⟨_, cnt1, hrg1, hgw1, by have h9 := HN.out; rw [hst]; clear hst hrg1 hrg hgw1 hgw hen; simp only [Value.int.injEq, true_and, wrap64]; omega⟩
      case measure => rw [hrg1.left_eq, hrg.left_eq]; exact hlt
end Go.Proofs.Ytdjhcdgehmpikaa
