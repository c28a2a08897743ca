/-
  Ticks in memory (the code's, and the document's); what they tell as plain functions of lists. No function of the program.
-/
import Derived.Test.YtodfjpjjcgdmeaaKa
namespace Go.Proofs.Ytodfjpjjcgdmeaa
open Go.RowKit

/-- Ticks in memory, at h: the slice of those that are kept, then the other cells r. -/
structure Tc (T : TypeId) (r : List Value) (w : World) (B h : Nat) (V : Value) (xs : List Tk) : Prop where
  hh : w.heap[h]? = some (.cells (V :: r).toArray T (0, 0))
  bh : B ≤ h
  hT : T ≠ 38 ∧ T ≠ 2
  own : OwnT w B 38 V xs
  rd : ∀ x ∈ xs, RdT w x.op x.l

/-- Their blocks. -/
def tfoot (h : Nat) (V : Value) : Nat → Prop := fun k => k = h ∨ V.ownBlock = some k

variable {T : TypeId} {r : List Value} {w w' : World} {B h : Nat} {V : Value} {xs : List Tk}

theorem Tc.cell (a : Tc T r w B h V xs) : w.cell? ⟨h, 0, none⟩ = some V ∧ w.frozen? ⟨h, 0, none⟩ = false :=
  ⟨by rw [cell_of_row _ _ _ _ _ _ a.hh]; rfl, frozen_of_row _ _ _ _ _ a.hh⟩
theorem Tc.cell1 {u : Value} (a : Tc T [u] w B h V xs) : w.cell? ⟨h, 1, none⟩ = some u ∧ w.frozen? ⟨h, 1, none⟩ = false :=
  ⟨by rw [cell_of_row _ _ _ _ _ _ a.hh]; rfl, frozen_of_row _ _ _ _ _ a.hh⟩
theorem Tc.lt (a : Tc T r w B h V xs) : ∀ k, tfoot h V k → B ≤ k ∧ k < w.heap.size := by
  rintro k (rfl | hk)
  · exact ⟨a.bh, heap_lt a.hh⟩
  · exact a.own.lt k hk
theorem Tc.size (a : Tc T r w B h V xs) : B ≤ w.heap.size := by have := heap_lt a.hh; have := a.bh; omega
theorem Tc.shape (a : Tc T r w B h V xs) : ∃ u c, V = .slice u xs.length c := a.own.shape

theorem Tc.noI (a : Tc T r w B h V xs) : NoI w (tfoot h V) := by
  rintro k (rfl | hk) cs fz hg
  · rw [a.hh] at hg
    simp only [Option.some.injEq, Obj.cells.injEq] at hg
    exact a.hT.2 hg.2.1
  · obtain ⟨cur, hc⟩ := a.own.tag hk
    rw [hc] at hg
    simp only [Option.some.injEq, Obj.cells.injEq] at hg
    exact absurd hg.2.1 (by decide)

theorem Tc.apart (a : Tc T r w B h V xs) : V.ownBlock ≠ some h := by
  intro hk
  obtain ⟨cur, hc⟩ := a.own.tag hk
  rw [a.hh] at hc
  simp only [Option.some.injEq, Obj.cells.injEq] at hc
  exact a.hT.1 hc.2.1

theorem Tc.fo (a : Tc T r w B h V xs) {O : Nat → Prop} (hf : Fo O w w') (hd : ∀ k, tfoot h V k → ¬ O k) (hn : NoI w O) : Tc T r w' B h V xs :=
  ⟨hf.heap (hd h (.inl rfl)) a.hh, a.bh, a.hT, a.own.fo hf (fun g hg => hd g (.inr hg)), fun x hx => (a.rd x hx).fo hf hn⟩
theorem Tc.keep (a : Tc T r w B h V xs) (hk : Kept w w' []) : Tc T r w' B h V xs := a.fo (Fo.ofKept hk (fun _ => False)) (fun _ _ h => h) (NoI.none w)

/-- The row is laid anew; it lies where it lay, or in what is new. -/
theorem Tc.lay (a : Tc T r w B h V xs) {w1 : World} (f : Fo (fun k => V.ownBlock = some k) w w1) {v : Value} {m : List Tk} (x : OwnT w1 B 38 v m) (rd : ∀ x ∈ m, RdT w1 x.op x.l)
    (hv : ∀ k, v.ownBlock = some k → V.ownBlock = some k ∨ w.heap.size ≤ k) :
    (w1.cell? ⟨h, 0, none⟩ = some V ∧ w1.frozen? ⟨h, 0, none⟩ = false) ∧ Tc T r (w1.setCell ⟨h, 0, none⟩ v) B h v m ∧ Stp (tfoot h V) (tfoot h v) w (w1.setCell ⟨h, 0, none⟩ v) := by
  have hh : w1.heap[h]? = _ := f.heap a.apart a.hh
  have f2 : Fo (tfoot h V) w w1 := f.mono (fun k hk => .inr hk)
  have f3 : Fo (fun k => k = h) w1 (w1.setCell ⟨h, 0, none⟩ v) := Fo.setCell (O := fun k => k = h) (Fo.refl _ w1) (p := ⟨h, 0, none⟩) (.inl rfl) v
  have hvh : v.ownBlock ≠ some h := by
    intro hk
    rcases hv h hk with h1 | h1
    · exact a.apart h1
    · have := heap_lt a.hh; omega
  have n3 : NoI w1 (fun k => k = h) := by
    rintro k rfl cs fz hg
    rw [hh] at hg
    simp only [Option.some.injEq, Obj.cells.injEq] at hg
    exact a.hT.2 hg.2.1
  refine ⟨⟨by rw [cell_of_row _ _ _ _ _ _ hh]; rfl, frozen_of_row _ _ _ _ _ hh⟩, ⟨?_, a.bh, a.hT, x.fo f3 (fun g hg e => by subst e; exact hvh hg), fun y hy => (rd y hy).fo f3 n3⟩, f2.setCell (.inl (.inl rfl)) v, ?_⟩
  · rw [heap_setCell_at hh]
    rfl
  · rintro k (rfl | hk)
    · exact .inl (.inl rfl)
    · exact (hv k hk).imp (fun h => .inr h) id

/-- The cell behind it is laid anew. -/
theorem Tc.set1 {u : Value} (a : Tc T [u] w B h V xs) (u' : Value) : Tc T [u'] (w.setCell ⟨h, 1, none⟩ u') B h V xs ∧ Stp (tfoot h V) (tfoot h V) w (w.setCell ⟨h, 1, none⟩ u') := by
  have f3 : Fo (fun k => k = h) w (w.setCell ⟨h, 1, none⟩ u') := Fo.setCell (O := fun k => k = h) (Fo.refl _ w) (p := ⟨h, 1, none⟩) (.inl rfl) u'
  have n3 : NoI w (fun k => k = h) := fun k e => a.noI k (.inl e)
  refine ⟨⟨?_, a.bh, a.hT, a.own.fo f3 (fun g hg e => by subst e; exact a.apart hg), fun y hy => (a.rd y hy).fo f3 n3⟩, (Fo.refl _ w).setCell (.inl (.inl rfl)) u', fun k hk => .inl hk⟩
  rw [heap_setCell_at a.hh]
  rfl

/-- The greatest number. -/
def lastN (ps : List Pt) : Int := match ps.getLast? with | some p => p.n | none => 0

/-- Does one see all that another one sees? (Of right ones.) -/
def covB (A B : Int) (l m : List Int) : Bool := l.all (fun x => !seesB B m x) && (decide (B ≤ A) || ((hid A m : Int) == B - A))

theorem covB_iff {A B : Int} {l m : List Int} (hA : rightB A l = true) (hB : rightB B m = true) : covB A B l m = true ↔ Cover A B l m := by
  by_cases h : ∀ x ∈ l, seesB B m x = false
  · have h1 : l.all (fun x => !seesB B m x) = true := by
      rw [List.all_eq_true]
      intro x hx
      rw [h x hx]; rfl
    have h2 : ∀ x ∈ l.take l.length, seesB B m x = false := by rw [List.take_length]; exact h
    unfold covB
    rw [h1, Bool.true_and]
    by_cases hAB : B ≤ A
    · simp only [hAB, decide_true, Bool.true_or, true_iff]
      exact hid_cover2 hA hB (Nat.le_refl _) h2 hAB
    · have := hid_cover hA hB (Nat.le_refl _) h2 (Nat.le_refl m.length) hAB
      rw [List.take_length] at this
      rw [decide_eq_false hAB, Bool.false_or]
      exact this
  · have h0 : ∃ x ∈ l, seesB B m x = true := by
      apply Classical.byContradiction
      intro hn
      apply h
      intro x hx
      cases hs : seesB B m x with
      | false => rfl
      | true => exact absurd ⟨x, hx, hs⟩ hn
    obtain ⟨x, hx, hs⟩ := h0
    refine iff_of_false ?_ (fun hc => (seesB_iff.1 (hc x hs)).2.2 hx)
    intro hc
    simp only [covB, Bool.and_eq_true, List.all_eq_true, Bool.not_eq_true'] at hc
    rw [hc.1 x hx] at hs
    cases hs

/-- May a snapshot and a moment come behind these? -/
def folB (ps : List Pt) (M : Int) (l : List Int) (t : Int) : Bool := match ps.getLast? with | some p => decide (p.t ≤ t) && covB M p.M l p.l | none => true

/-- The error of one more. -/
def addE (ps : List Pt) (M : Int) (l : List Int) (t : Int) : Int :=
  if 64 ≤ ps.length then 8 else if rightB M l = false then 1 else if folB ps M l t = true then 0 else 1
/-- That one more. -/
def addP (ps : List Pt) (M : Int) (l : List Int) (t : Int) : Pt := if addE ps M l t = 0 then ⟨lastN ps + 1, M, l, t⟩ else ⟨0, 0, [], 0⟩
def addS (ps : List Pt) (M : Int) (l : List Int) (t : Int) : List Pt := if addE ps M l t = 0 then ps ++ [⟨lastN ps + 1, M, l, t⟩] else ps

/-- What holds of those that are kept. -/
structure Okp (ps : List Pt) : Prop where
  right : ∀ p ∈ ps, rightB p.M p.l = true
  wide : ∀ p ∈ ps, p.M ≤ 9223372036854775807
  len : ∀ p ∈ ps, p.l.length ≤ 1000
  up : ∀ p ∈ ps, p.n ≤ lastN ps
  size : ps.length ≤ 64
  n0 : 0 ≤ lastN ps

theorem Okp.nil : Okp [] := ⟨by simp, by simp, by simp, by simp, by simp, by simp [lastN]⟩

theorem lastN_snoc (ps : List Pt) (p : Pt) : lastN (ps ++ [p]) = p.n := by simp [lastN]

theorem addE_zero {ps : List Pt} {M : Int} {l : List Int} {t : Int} (h : addE ps M l t = 0) : ps.length < 64 ∧ rightB M l = true := by
  unfold addE at h
  by_cases h1 : 64 ≤ ps.length
  · rw [if_pos h1] at h; omega
  · rw [if_neg h1] at h
    cases h2 : rightB M l with
    | false => rw [h2, if_pos rfl] at h; omega
    | true => exact ⟨by omega, rfl⟩

theorem Okp.add {ps : List Pt} (a : Okp ps) {M : Int} {l : List Int} (t : Int) (hM : M ≤ 9223372036854775807) (hl : l.length ≤ 1000) : Okp (addS ps M l t) := by
  unfold addS
  by_cases h : addE ps M l t = 0
  · rw [if_pos h]
    obtain ⟨h1, h2⟩ := addE_zero h
    have hn := a.n0
    refine ⟨?_, ?_, ?_, ?_, by simp; omega, by rw [lastN_snoc]; show 0 ≤ lastN ps + 1; omega⟩
    · intro p hp
      rcases List.mem_append.1 hp with hp | hp
      · exact a.right p hp
      · obtain rfl := List.mem_singleton.1 hp; exact h2
    · intro p hp
      rcases List.mem_append.1 hp with hp | hp
      · exact a.wide p hp
      · obtain rfl := List.mem_singleton.1 hp; exact hM
    · intro p hp
      rcases List.mem_append.1 hp with hp | hp
      · exact a.len p hp
      · obtain rfl := List.mem_singleton.1 hp; exact hl
    · intro p hp
      rw [lastN_snoc]
      rcases List.mem_append.1 hp with hp | hp
      · have := a.up p hp; show p.n ≤ lastN ps + 1; omega
      · obtain rfl := List.mem_singleton.1 hp; exact Int.le_refl _
  · rw [if_neg h]; exact a

theorem lastN_add (ps : List Pt) (M : Int) (l : List Int) (t : Int) : lastN (addS ps M l t) = if addE ps M l t = 0 then lastN ps + 1 else lastN ps := by
  unfold addS
  by_cases h : addE ps M l t = 0
  · rw [if_pos h, if_pos h, lastN_snoc]
  · rw [if_neg h, if_neg h]

/-- Those that stay when all below b are let go. -/
def trimP (ps : List Pt) (b : Int) (p : Pt) : Bool := decide (p.n < min b (lastN ps))
def trimS (ps : List Pt) (b : Int) : List Pt := ps.filter fun p => !trimP ps b p

/-- In the document's words. -/
theorem trimS_doc {ps : List Pt} (a : Okp ps) (b : Int) : trimS ps b = ps.filter fun p => decide (b ≤ p.n) || p.n == lastN ps := by
  unfold trimS
  apply List.filter_congr
  intro p hp
  have := a.up p hp
  unfold trimP
  rw [Bool.eq_iff_iff]
  simp only [Bool.not_eq_true', decide_eq_false_iff_not, Bool.or_eq_true, decide_eq_true_eq, beq_iff_eq]
  omega

theorem trimS_last (ps : List Pt) (b : Int) : (trimS ps b).getLast? = ps.getLast? := by
  rcases List.eq_nil_or_concat ps with rfl | ⟨q, p, rfl⟩
  · rfl
  · have e : lastN (q ++ [p]) = p.n := lastN_snoc q p
    have h : (!trimP (q ++ [p]) b p) = true := by
      unfold trimP
      rw [e]
      simp only [Bool.not_eq_true', decide_eq_false_iff_not]
      omega
    unfold trimS
    simp only [List.concat_eq_append] at *
    rw [List.filter_append, List.filter_cons_of_pos (by exact h)]
    simp

theorem lastN_trim (ps : List Pt) (b : Int) : lastN (trimS ps b) = lastN ps := by unfold lastN; rw [trimS_last]

theorem Okp.trim {ps : List Pt} (a : Okp ps) (b : Int) : Okp (trimS ps b) := by
  have hs : ∀ p ∈ trimS ps b, p ∈ ps := fun p hp => (List.mem_filter.1 hp).1
  exact ⟨fun p hp => a.right p (hs p hp), fun p hp => a.wide p (hs p hp), fun p hp => a.len p (hs p hp), fun p hp => by rw [lastN_trim]; exact a.up p (hs p hp), Nat.le_trans (List.length_filter_le _ _) a.size, by rw [lastN_trim]; exact a.n0⟩

/-- The one with that number; the next one. -/
def getS (ps : List Pt) (n : Int) : Option Pt := ps.find? fun p => p.n == n
def aftS (ps : List Pt) (n : Int) : Option Pt := ps.find? fun p => decide (n < p.n)

end Go.Proofs.Ytodfjpjjcgdmeaa
