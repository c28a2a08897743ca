/-
  Dqc in one text.
-/
import Derived.Test.YticiofkiffgclaaGreatQo29
namespace Go.Proofs.YticiofkiffgclaaGreat
set_option linter.unusedVariables false
open Go.RowKit Go.Maps

def RiseN (ps : List Pt) : Prop := ps.Pairwise fun a b => a.n < b.n

theorem lastN_mem {ps : List Pt} (h : ps ≠ []) : ∃ p ∈ ps, p.n = lastN ps := by
  rcases List.eq_nil_or_concat ps with rfl | ⟨q, p, rfl⟩
  · exact absurd rfl h
  · rw [List.concat_eq_append]
    exact ⟨p, by simp, by rw [lastN_snoc]⟩
theorem getS_isSome {ps : List Pt} {n : Int} : (getS ps n).isSome = true ↔ ∃ p ∈ ps, p.n = n := by
  unfold getS
  rw [List.find?_isSome]
  simp
theorem getS_mem {ps : List Pt} {n : Int} {p : Pt} (h : getS ps n = some p) : p ∈ ps ∧ p.n = n := by
  unfold getS at h
  exact ⟨List.mem_of_find?_eq_some h, by simpa using List.find?_some h⟩
theorem RiseN.one {ps : List Pt} (r : RiseN ps) {p q : Pt} (hp : p ∈ ps) (hq : q ∈ ps) (e : p.n = q.n) : p = q := by
  induction ps with
  | nil => simp at hp
  | cons a t ih =>
    obtain ⟨h1, h2⟩ := List.pairwise_cons.1 r
    rcases List.mem_cons.1 hp with rfl | hp2
    · rcases List.mem_cons.1 hq with rfl | hq
      · rfl
      · have := h1 _ hq; omega
    · rcases List.mem_cons.1 hq with e1 | hq2
      · rw [e1] at e
        have := h1 _ hp2; omega
      · exact ih h2 hp2 hq2
theorem RiseN.get {ps : List Pt} (r : RiseN ps) {p : Pt} (hp : p ∈ ps) : getS ps p.n = some p := by
  have h : (getS ps p.n).isSome = true := getS_isSome.2 ⟨p, hp, rfl⟩
  obtain ⟨q, hq⟩ := Option.isSome_iff_exists.1 h
  obtain ⟨h1, h2⟩ := getS_mem hq
  rw [hq, r.one h1 hp h2]
theorem aftS_mem {ps : List Pt} {n : Int} {p : Pt} (h : aftS ps n = some p) : p ∈ ps ∧ n < p.n := by
  unfold aftS at h
  exact ⟨List.mem_of_find?_eq_some h, by simpa using List.find?_some h⟩
theorem RiseN.next {ps : List Pt} (r : RiseN ps) {i : Nat} {p : Pt} (h : ps[i]? = some p) : aftS ps p.n = ps[i + 1]? := by
  induction ps generalizing i with
  | nil => simp at h
  | cons a t ih =>
    obtain ⟨h1, h2⟩ := List.pairwise_cons.1 r
    cases i with
    | zero =>
      obtain rfl : a = p := by simpa using h
      unfold aftS
      rw [List.find?_cons, show decide (a.n < a.n) = false by simp]
      cases t with
      | nil => rfl
      | cons b t =>
        have := h1 b (by simp)
        simp [this]
    | succ i =>
      have h3 : t[i]? = some p := by simpa using h
      have h4 := h1 p (List.mem_of_getElem? h3)
      have := ih h2 h3
      unfold aftS at this ⊢
      rw [List.find?_cons, show decide (p.n < a.n) = false by rw [decide_eq_false_iff_not]; omega]
      simpa using this

theorem RiseN.add {ps : List Pt} (r : RiseN ps) (a : Okp ps) (M : Int) (l : List Int) (t : Int) : RiseN (addS ps M l t) := by
  unfold addS
  split
  · unfold RiseN
    rw [List.pairwise_append]
    refine ⟨r, by simp, ?_⟩
    intro x hx y hy
    obtain rfl := List.mem_singleton.1 hy
    have := a.up x hx
    show x.n < lastN ps + 1
    omega
  · exact r
theorem add_mem {ps : List Pt} {M : Int} {l : List Int} {t : Int} {p : Pt} (h : p ∈ addS ps M l t) : p ∈ ps ∨ p = ⟨lastN ps + 1, M, l, t⟩ := by
  unfold addS at h
  split at h
  · rcases List.mem_append.1 h with h | h
    · exact .inl h
    · exact .inr (List.mem_singleton.1 h)
  · exact .inl h
theorem mem_add {ps : List Pt} {M : Int} {l : List Int} {t : Int} {p : Pt} (h : p ∈ ps) : p ∈ addS ps M l t := by
  unfold addS
  split
  · exact List.mem_append_left _ h
  · exact h
theorem getC_mem {l : List Cu} {n : ByteArray} {x : Cu} (h : getC l n = some x) : x ∈ l := List.mem_of_find?_eq_some h

structure OkQ (q : Qs) : Prop where
  c3 : q.c < 3
  okp : Okp q.ps
  okc : OkC q.cs
  rise : RiseN q.ps
  pos : ∀ p ∈ q.ps, 1 ≤ p.n
  la : ∀ x ∈ q.cs, ∃ p ∈ q.ps, p.n = x.la
  op : ∀ x ∈ q.cs, x.op ≠ 0 → x.la < x.op ∧ ∃ p ∈ q.ps, p.n = x.op

theorem OkQ.new : OkQ Qs.new := ⟨by decide, Okp.nil, OkC.nil, List.Pairwise.nil, by simp [Qs.new], by simp [Qs.new], by simp [Qs.new]⟩
theorem OkQ.wri {q : Qs} (h : OkQ q) (x tb kd key : Int) (t : ByteArray) : OkQ (wriQ q x tb kd key t) := ⟨h.c3, h.okp, h.okc, h.rise, h.pos, h.la, h.op⟩
theorem OkQ.frg {q : Qs} (h : OkQ q) (x : Int) : OkQ (frgQ q x) := ⟨h.c3, h.okp, h.okc, h.rise, h.pos, h.la, h.op⟩
theorem rotS_lt {l : Nat → List Ev} {c : Nat} (hc : c < 3) (f : Bool) : (rotS l c f).2.2.2 < 3 := by
  unfold rotS
  split
  · exact nxt_lt c
  · split
    · exact hc
    · exact hc
theorem OkQ.rot {q : Qs} (h : OkQ q) (st : List Nat) : OkQ (rotQ st q).2.2 := ⟨rotS_lt h.c3 _, h.okp, h.okc, h.rise, h.pos, h.la, h.op⟩
theorem OkQ.tck {q : Qs} (h : OkQ q) {M : Int} {l : List Int} (now : Int) (hM : M ≤ 9223372036854775807) (hl : l.length ≤ 1000) : OkQ (tckQ q M l now) := by
  refine ⟨h.c3, h.okp.add now hM hl, h.okc, h.rise.add h.okp M l now, ?_, ?_, ?_⟩
  · intro p hp
    rcases add_mem hp with hp | rfl
    · exact h.pos p hp
    · have := h.okp.n0
      show 1 ≤ lastN q.ps + 1
      omega
  · intro x hx
    obtain ⟨p, hp, e⟩ := h.la x hx
    exact ⟨p, mem_add hp, e⟩
  · intro x hx hn
    obtain ⟨h1, p, hp, e⟩ := h.op x hx hn
    exact ⟨h1, p, mem_add hp, e⟩
theorem OkQ.rgs {q : Qs} (h : OkQ q) (n : ByteArray) : OkQ (rgsQ q n) := by
  unfold rgsQ
  split
  · exact h
  · rename_i h0
    have hne : q.ps ≠ [] := fun e => h0 (by rw [e]; rfl)
    have key : ∀ x ∈ regL q.cs n (lastN q.ps), x = ⟨n, lastN q.ps, 0⟩ ∨ x ∈ q.cs := by
      intro x hx
      unfold regL at hx
      split at hx
      · exact (insC_mem _ _ _).1 hx
      · exact .inr hx
    refine ⟨h.c3, h.okp, h.okc.reg n _, h.rise, h.pos, ?_, ?_⟩
    · intro x hx
      rcases key x hx with rfl | hx
      · exact lastN_mem hne
      · exact h.la x hx
    · intro x hx hn
      rcases key x hx with rfl | hx
      · exact absurd rfl hn
      · exact h.op x hx hn
theorem OkQ.nxt {q : Qs} (h : OkQ q) (n : ByteArray) : OkQ (nxtQ q n) := by
  unfold nxtQ
  cases ho : nxtO q n with
  | none => exact h
  | some p =>
    have hp : p ∈ q.ps := by
      unfold nxtO at ho
      split at ho
      · exact absurd ho (by simp)
      · split at ho
        · exact absurd ho (by simp)
        · exact (aftS_mem ho).1
    have key : ∀ x ∈ opnL q.cs n p.n, x ∈ q.cs ∨ ∃ y ∈ q.cs, x = ⟨n, y.la, p.n⟩ ∧ y.la < p.n := by
      intro x hx
      unfold opnL at hx
      split at hx
      · rename_i i y hi hy
        split at hx
        · exact .inl hx
        · rename_i hg
          rcases List.mem_or_eq_of_mem_set hx with hx | rfl
          · exact .inl hx
          · exact .inr ⟨y, getC_mem hy, rfl, by omega⟩
      · exact .inl hx
    refine ⟨h.c3, h.okp, h.okc.opn n _, h.rise, h.pos, ?_, ?_⟩
    · intro x hx
      rcases key x hx with hx | ⟨y, hy, rfl, _⟩
      · exact h.la x hx
      · exact h.la y hy
    · intro x hx hn
      rcases key x hx with hx | ⟨y, hy, rfl, hlt⟩
      · exact h.op x hx hn
      · exact ⟨hlt, p, hp, rfl⟩
theorem OkQ.fns {q : Qs} (h : OkQ q) (n : ByteArray) : OkQ (fnsQ q n) := by
  have key : ∀ x ∈ finL q.cs n, x ∈ q.cs ∨ ∃ y ∈ q.cs, x = ⟨n, y.op, 0⟩ ∧ y.op ≠ 0 := by
    intro x hx
    unfold finL at hx
    split at hx
    · rename_i i y hi hy
      split at hx
      · exact .inl hx
      · rename_i hg
        rcases List.mem_or_eq_of_mem_set hx with hx | rfl
        · exact .inl hx
        · exact .inr ⟨y, getC_mem hy, rfl, hg⟩
    · exact .inl hx
  refine ⟨h.c3, h.okp, h.okc.fin n, h.rise, h.pos, ?_, ?_⟩
  · intro x hx
    rcases key x hx with hx | ⟨y, hy, rfl, hn⟩
    · exact h.la x hx
    · exact (h.op y hy hn).2
  · intro x hx hn
    rcases key x hx with hx | ⟨y, hy, rfl, _⟩
    · exact h.op x hx hn
    · exact absurd rfl hn
theorem mem_pre3 {l : Nat → List Ev} {e : Ev} : e ∈ pre l 3 ↔ ∃ i, i < 3 ∧ e ∈ l i := by
  simp only [pre, List.nil_append, List.mem_append]
  constructor
  · rintro ((h | h) | h)
    · exact ⟨0, by omega, h⟩
    · exact ⟨1, by omega, h⟩
    · exact ⟨2, by omega, h⟩
  · rintro ⟨i, hi, h⟩
    have : i = 0 ∨ i = 1 ∨ i = 2 := by omega
    rcases this with rfl | rfl | rfl
    · exact .inl (.inl h)
    · exact .inl (.inr h)
    · exact .inr h
theorem rot_mem {st : List Nat} {q : Qs} {e : Ev} (he : e ∈ pre (rotQ st q).2.2.l 3) : e ∈ pre q.l 3 := by
  have he : e ∈ pre (rotS q.l q.c (freQ st q)).2.2.1 3 := he
  unfold rotS at he
  split at he
  · exact he
  · split at he
    · obtain ⟨i, hi, hm⟩ := mem_pre3.1 he
      have hm : e ∈ upd q.l (Go.Proofs.YticiofkiffgclaaGreat.nxt q.c) [] i := hm
      by_cases h : i = Go.Proofs.YticiofkiffgclaaGreat.nxt q.c
      · rw [h, upd_same] at hm; simp at hm
      · rw [upd_ne _ _ h] at hm
        exact mem_pre3.2 ⟨i, hi, hm⟩
    · exact he
end Go.Proofs.YticiofkiffgclaaGreat
