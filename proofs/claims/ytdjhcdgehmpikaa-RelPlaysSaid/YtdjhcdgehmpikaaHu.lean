/-
  What a transaction has done, done again: plain laws; a heap's calls, and what to do again is the same; two heaps side by side.
-/
import Derived.Test.YtdjhcdgehmpikaaHt
namespace Go.Proofs.Ytdjhcdgehmpikaa
open Go.RowKit

def AllC (st : List Nat) : Prop := ∀ s ∈ st, s = 2

theorem stAt_all {st : List Nat} (h : AllC st) {x : Int} (h1 : 1 ≤ x) (h2 : x ≤ st.length) : stAt st x = 2 := by
  have e := stAt_nat (st := st) (i := x.toNat - 1) (by omega)
  rw [show ((x.toNat - 1 : Nat) : Int) + 1 = x by omega] at e
  rw [e]
  exact h _ (List.getElem_mem (by omega))
theorem stAt_left {st : List Nat} {x : Int} (h : x ≤ st.length) (s : Nat) : stAt (st ++ [s]) x = stAt st x := by
  by_cases h1 : 1 ≤ x
  · have e := stAt_nat (st := st) (i := x.toNat - 1) (by omega)
    have e2 := stAt_nat (st := st ++ [s]) (i := x.toNat - 1) (by simp; omega)
    rw [show ((x.toNat - 1 : Nat) : Int) + 1 = x by omega] at e e2
    rw [e, e2, List.getElem_append_left]
  · rw [stAt_out (.inl (by omega)), stAt_out (.inl (by omega))]
theorem stAt_zero (st : List Nat) : stAt st 0 = 0 := stAt_out (.inl (by omega))
theorem opens_all {st : List Nat} (h : AllC st) : opens st = [] := opens_none (fun s hs => by rw [h s hs]; decide)
theorem AllC.snoc {st : List Nat} (h : AllC st) : AllC (st ++ [2]) := fun s hs => by
  rcases List.mem_append.1 hs with h1 | h1
  · exact h s h1
  · simpa using h1

def RInv (n : Nat) (F : Int → List Vr) : Prop := ∀ k, ∀ r ∈ F k, (1 ≤ r.birth ∧ r.birth ≤ n) ∧ (r.death = 0 ∨ (1 ≤ r.death ∧ r.death ≤ n))
def Z (r : Vr) : Bool := decide (r.death = 0)

/-- The view of who begins behind those of st. -/
def nextV (st : List Nat) : Vw := ⟨(st.length : Int) + 1 + 1, [(st.length : Int) + 1], (st.length : Int) + 1⟩

section
variable {st : List Nat} {r : Vr} (hc : AllC st) (hb : 1 ≤ r.birth ∧ r.birth ≤ st.length) (hd : r.death = 0 ∨ (1 ≤ r.death ∧ r.death ≤ st.length))
include hc
theorem did_r {x : Int} (h1 : 1 ≤ x) (h2 : x ≤ st.length) : did (st ++ [1]) (nextV st) x = true := by
  have e : stAt (st ++ [1]) x = 2 := by rw [stAt_left h2, stAt_all hc h1 h2]
  have s : seesB ((st.length : Int) + 1 + 1) [(st.length : Int) + 1] x = true := seesB_iff.2 ⟨h1, by omega, by simp; omega⟩
  simp [did, nextV, e, s]
omit hc in
theorem did_0 (st : List Nat) : did (st ++ [1]) (nextV st) 0 = false := by
  have e := stAt_zero (st ++ [1])
  simp [did, e]
include hb hd
theorem sees_r : sees (st ++ [1]) (nextV st) r = Z r := by
  unfold sees
  rw [did_r hc hb.1 hb.2]
  rcases hd with h | h
  · rw [h, did_0]; simp [Z, h]
  · rw [did_r hc h.1 h.2]
    have : ¬ r.death = 0 := by omega
    simp [Z, this]
theorem alive_r : alive (st ++ [2]) r = Z r := by
  unfold alive
  rw [stAt_left hb.2, stAt_all hc hb.1 hb.2]
  rcases hd with h | h
  · rw [h, stAt_zero]; simp [Z, h]
  · rw [stAt_left h.2, stAt_all hc h.1 h.2]
    have : ¬ r.death = 0 := by omega
    simp [Z, this]
theorem inWay_r : inWay (st ++ [1]) (nextV st) r = Z r := by
  unfold inWay binds
  rw [stAt_left hb.2, stAt_all hc hb.1 hb.2]
  rcases hd with h | h
  · rw [h, stAt_zero]
    have : ¬ (0 : Int) = (st.length : Int) + 1 := by omega
    simp [Z, h, nextV, this]
  · rw [stAt_left h.2, stAt_all hc h.1 h.2]
    have : ¬ r.death = 0 := by omega
    simp [Z, this]
end

theorem findIdx_congr {p q : Vr → Bool} : ∀ {l : List Vr}, (∀ r ∈ l, p r = q r) → l.findIdx? p = l.findIdx? q
  | [], _ => rfl
  | a :: l, h => by
    rw [List.findIdx?_cons, List.findIdx?_cons, h a (by simp), findIdx_congr (fun r hr => h r (by simp [hr]))]

theorem Z_at {l : List Vr} {i : Nat} (h : l.findIdx? Z = some i) : ∃ r, l[i]? = some r ∧ r.death = 0 := by
  rw [List.findIdx?_eq_some_iff_getElem] at h
  obtain ⟨hi, hz, _⟩ := h
  exact ⟨_, List.getElem?_eq_getElem hi, by simpa [Z] using hz⟩

theorem st_new' (st : List Nat) : stAt (st ++ [1]) (nextV st).own = 1 := by
  show stAt (st ++ [1]) ((st.length : Int) + 1) = 1
  rw [stAt_nat (by simp)]
  simp

section
variable {st : List Nat} {F : Int → List Vr} (hc : AllC st) (hi : RInv st.length F) (key : Int)
include hc hi
theorem insE_r : insE (st ++ [1]) (nextV st) (F key) = if ((F key).findIdx? Z).isSome then 5 else 0 := by
  have e1 : stAt (st ++ [1]) (nextV st).own = 1 := st_new' st
  rw [insE, if_pos e1, findIdx_congr (fun r hr => sees_r hc (hi key r hr).1 (hi key r hr).2), findIdx_congr (q := Z) (fun r hr => inWay_r hc (hi key r hr).1 (hi key r hr).2)]
  cases (F key).findIdx? Z <;> simp
theorem delL_r : delL (st ++ [1]) (nextV st) (F key) = match (F key).findIdx? Z with
    | none => (4, F key)
    | some i => (0, dieAt (F key) i ((st.length : Int) + 1)) := by
  have e1 : stAt (st ++ [1]) (nextV st).own = 1 := st_new' st
  rw [delL, if_pos e1, findIdx_congr (fun r hr => sees_r hc (hi key r hr).1 (hi key r hr).2)]
  cases h : (F key).findIdx? Z with
  | none => rfl
  | some i =>
    obtain ⟨r, hr, h0⟩ := Z_at h
    have e2 : binds (st ++ [1]) (nextV st) r.death = false := by
      rw [h0, binds, stAt_zero]
      simp
    simp only [hr, e2]
    rfl
theorem redoD_r : redoD (st ++ [2]) ((st.length : Int) + 1) key F = match (F key).findIdx? Z with
    | none => F
    | some i => updF F key (dieAt (F key) i ((st.length : Int) + 1)) := by
  rw [redoD, findIdx_congr (fun r hr => alive_r hc (hi key r hr).1 (hi key r hr).2)]
  cases (F key).findIdx? Z <;> rfl
end

theorem rinv_mono {n : Nat} {F : Int → List Vr} (h : RInv n F) : RInv (n + 1) F := fun k r hr => by
  obtain ⟨h1, h2⟩ := h k r hr
  refine ⟨⟨h1.1, by omega⟩, h2.imp id (fun h => ⟨h.1, by omega⟩)⟩
theorem rinv_die {n : Nat} {F : Int → List Vr} (h : RInv n F) (key : Int) (i : Nat) : RInv (n + 1) (updF F key (dieAt (F key) i ((n : Int) + 1))) := by
  intro k r hr
  by_cases e : k = key
  · subst e
    rw [updF_same] at hr
    obtain ⟨j, hj, e⟩ := List.mem_iff_getElem.1 hr
    simp only [dieAt, List.getElem_modify] at e
    simp only [dieAt, List.length_modify] at hj
    have h1 := rinv_mono h k _ (List.getElem_mem hj)
    split at e
    · subst e; exact ⟨h1.1, .inr ⟨by simp; omega, by simp⟩⟩
    · subst e; exact h1
  · rw [updF_other _ _ e] at hr
    exact rinv_mono h k r hr
theorem rinv_put {n : Nat} {F : Int → List Vr} (h : RInv (n + 1) F) (E key : Int) (txt : ByteArray) : RInv (n + 1) (putF E key ⟨txt, (n : Int) + 1, 0⟩ F) := by
  unfold putF
  split
  · intro k r hr
    by_cases e : k = key
    · subst e
      rw [updF_same] at hr
      rcases List.mem_append.1 hr with h1 | h1
      · exact h k r h1
      · simp at h1; subst h1; exact ⟨⟨by simp; omega, by simp⟩, .inl rfl⟩
    · rw [updF_other _ _ e] at hr; exact h k r hr
  · exact h
theorem lim_die {n : Nat} {ks : List Int} {F : Int → List Vr} (h : Lim n ks F) (key : Int) (i : Nat) (x : Int) : Lim n ks (updF F key (dieAt (F key) i x)) := by
  refine ⟨h.1, fun k => ?_⟩
  by_cases e : k = key
  · subst e; rw [updF_same, dieAt_length]; exact h.2 k
  · rw [updF_other _ _ e]; exact h.2 k

/-- What is to be done again. -/
def opsOf (E : Int) (gone : Bool) (key : Int) (txt : ByteArray) : List Opn := if E = 0 then [⟨gone, key, txt⟩] else []

/-- What a call has left is what doing it again leaves. -/
structure Again (E : Int) (gone : Bool) (key : Int) (txt : ByteArray) (st : List Nat) (ks : List Int) (F : Int → List Vr) (ks' : List Int) (F' : Int → List Vr) : Prop where
  eqK : redoKs (opsOf E gone key txt) ks = ks'
  eqF : redoFs (st ++ [2]) ((st.length : Int) + 1) (opsOf E gone key txt) F = F'
  inv : RInv (st.length + 1) F'
  lim : Lim (st.length + 1) ks' F'

section
variable {w : World} {B p h : Nat} {O : Nat → Prop} {st : List Nat} {ks : List Int} {F : Int → List Vr}

theorem ins_again (hc : AllC st) (hi : RInv st.length F) (hl : Lim st.length ks F) (hn : st.length ≤ 900) (a : Sd w B p h O (st ++ [1]) ks F) (u : Option Addr) (m c : Nat) (hv : Vo w (.slice u m c) [(st.length : Int) + 1]) (ho : (Lit.int .i64 ((st.length : Int) + 1)).wf = true) (key : Int) (txt : ByteArray) (hk : (Lit.int .i64 key).wf = true) :
    Calls Try.prog 56 #[.pointer (some ⟨h, 0, none⟩), .agg #[.int .i64 ((st.length : Int) + 1 + 1), .slice u m c, .int .i64 ((st.length : Int) + 1)], .agg #[.int .i64 key, .string txt]] w fun e w' => ∃ E, e = .returned (.int .i64 E) ∧ ∃ O' ks' F', Sd w' B p h O' (st ++ [1]) ks' F' ∧ Stp O O' w w' ∧ Again E false key txt st ks F ks' F' := by
  have := insert_sd a ((st.length : Int) + 1 + 1) ((st.length : Int) + 1) u m c [(st.length : Int) + 1] hv ho key txt hk (by have := hl.1; omega) (by have := hl.2 key; omega)
  have e0 : insE (st ++ [1]) ⟨(st.length : Int) + 1 + 1, [(st.length : Int) + 1], (st.length : Int) + 1⟩ (F key) = if ((F key).findIdx? Z).isSome then 5 else 0 := insE_r hc hi key
  rw [e0] at this
  refine this.mono ?_
  rintro e w' ⟨rfl, O', s, f⟩
  refine ⟨_, rfl, O', _, _, s, f, ?_, ?_, rinv_put (rinv_mono hi) _ _ _, put_lim hl _ _ _⟩
  · cases hz : (F key).findIdx? Z <;> simp [opsOf, putK, redoKs, redoK]
  · cases hz : (F key).findIdx? Z with
    | none => simp [opsOf, putF, redoFs, redoF, redoD_r hc hi key, hz]
    | some i => simp [opsOf, putF, redoFs]

theorem upd_again (hc : AllC st) (hi : RInv st.length F) (hl : Lim st.length ks F) (hn : st.length ≤ 900) (a : Sd w B p h O (st ++ [1]) ks F) (u : Option Addr) (m c : Nat) (hv : Vo w (.slice u m c) [(st.length : Int) + 1]) (ho : (Lit.int .i64 ((st.length : Int) + 1)).wf = true) (key : Int) (txt : ByteArray) (hk : (Lit.int .i64 key).wf = true) :
    Calls Try.prog 57 #[.pointer (some ⟨h, 0, none⟩), .agg #[.int .i64 ((st.length : Int) + 1 + 1), .slice u m c, .int .i64 ((st.length : Int) + 1)], .agg #[.int .i64 key, .string txt]] w fun e w' => ∃ E, e = .returned (.int .i64 E) ∧ ∃ O' ks' F', Sd w' B p h O' (st ++ [1]) ks' F' ∧ Stp O O' w w' ∧ Again E false key txt st ks F ks' F' := by
  have := update_sd a ((st.length : Int) + 1 + 1) ((st.length : Int) + 1) u m c [(st.length : Int) + 1] hv ho key txt hk (by have := hl.1; omega) (by have := hl.2 key; omega)
  have e0 : delL (st ++ [1]) ⟨(st.length : Int) + 1 + 1, [(st.length : Int) + 1], (st.length : Int) + 1⟩ (F key) = _ := delL_r hc hi key
  rw [e0] at this
  refine this.mono ?_
  rintro e w' ⟨rfl, O', s, f⟩
  refine ⟨_, rfl, O', _, _, s, f, ?_, ?_, ?_, ?_⟩
  · cases hz : (F key).findIdx? Z <;> simp [opsOf, putK, redoKs, redoK]
  · cases hz : (F key).findIdx? Z with
    | none => simp [opsOf, putF, redoFs, updF_self]
    | some i => simp [opsOf, putF, redoFs, redoF, redoD_r hc hi key, hz]
  · cases hz : (F key).findIdx? Z with
    | none => simpa [putF, updF_self] using rinv_mono hi
    | some i => exact rinv_put (rinv_die hi key i) _ _ _
  · cases hz : (F key).findIdx? Z with
    | none => simpa [putF, putK, updF_self] using hl.mono (by omega)
    | some i => exact put_lim (lim_die hl key i _) _ _ _

theorem del_again (hc : AllC st) (hi : RInv st.length F) (hl : Lim st.length ks F) (a : Sd w B p h O (st ++ [1]) ks F) (u : Option Addr) (m c : Nat) (hv : Vo w (.slice u m c) [(st.length : Int) + 1]) (ho : (Lit.int .i64 ((st.length : Int) + 1)).wf = true) (key : Int) (txt : ByteArray) (hk : (Lit.int .i64 key).wf = true) :
    Calls Try.prog 39 #[.pointer (some ⟨h, 0, none⟩), .agg #[.int .i64 ((st.length : Int) + 1 + 1), .slice u m c, .int .i64 ((st.length : Int) + 1)], .int .i64 key] w fun e w' => ∃ E, e = .returned (.int .i64 E) ∧ ∃ O' ks' F', Sd w' B p h O' (st ++ [1]) ks' F' ∧ Stp O O' w w' ∧ Again E true key txt st ks F ks' F' := by
  have := delete_sd a ((st.length : Int) + 1 + 1) ((st.length : Int) + 1) u m c [(st.length : Int) + 1] hv ho key hk
  have e0 : delL (st ++ [1]) ⟨(st.length : Int) + 1 + 1, [(st.length : Int) + 1], (st.length : Int) + 1⟩ (F key) = _ := delL_r hc hi key
  rw [e0] at this
  refine this.mono ?_
  rintro e w' ⟨rfl, O', s, f⟩
  refine ⟨_, rfl, O', _, _, s, f, ?_, ?_, ?_, ?_⟩
  · cases hz : (F key).findIdx? Z <;> simp [opsOf, redoKs, redoK]
  · cases hz : (F key).findIdx? Z with
    | none => simp [opsOf, redoFs, updF_self]
    | some i => simp [opsOf, redoFs, redoF, redoD_r hc hi key, hz]
  · cases hz : (F key).findIdx? Z with
    | none => simpa [updF_self] using rinv_mono hi
    | some i => exact rinv_die hi key i
  · cases hz : (F key).findIdx? Z with
    | none => simpa [updF_self] using hl.mono (by omega)
    | some i => exact (lim_die hl key i _).mono (by omega)
end

/-- Two that share no block. -/
def Dis (O O' : Nat → Prop) : Prop := ∀ k, O k → ¬ O' k
theorem Dis.symm {O O' : Nat → Prop} (h : Dis O O') : Dis O' O := fun k h1 h2 => h k h2 h1
theorem Dis.step {w w' : World} {O O1 O' : Nat → Prop} {B p h : Nat} {st : List Nat} {ks : List Int} {F : Int → List Vr} (d : Dis O O') (s : Stp O O1 w w') (a : Sd w B p h O' st ks F) : Dis O1 O' := fun k h1 h2 => by
  rcases s.2 k h1 with h3 | h3
  · exact d k h3 h2
  · have := (a.bound k h2).2; omega

theorem Mg.low {w : World} {B C p b : Nat} {v : Value} {st : List Nat} (h : Mg w B p b v st) (hC : C ≤ B) : Mg w C p b v st :=
  { h with hv := ownsRow_low h.hv hC, bp := Nat.le_trans hC h.bp, bb := Nat.le_trans hC h.bb }
theorem Mg.foot {w : World} {B p b : Nat} {v : Value} {st : List Nat} (h : Mg w B p b v st) : ∀ k, mfoot p b v k → B ≤ k ∧ k < w.heap.size := by
  intro k hk
  rcases hk with rfl | rfl | h1
  · exact ⟨h.bp, heap_lt h.hp⟩
  · exact ⟨h.bb, h.hm.lt⟩
  · exact World.ownsRow.lt h.hv k h1

end Go.Proofs.Ytdjhcdgehmpikaa
