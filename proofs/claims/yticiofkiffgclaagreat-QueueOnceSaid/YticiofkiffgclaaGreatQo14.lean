/-
  SnI, Ta, Tb in one text.
-/
import Derived.Test.YticiofkiffgclaaGreatQo13
import Derived.Test.YticiofkiffgclaaGreatQo1
import Derived.Maps.OwnSet
import Derived.Lib.SlKeysI
import Derived.Test.YticiofkiffgclaaGreatRows
import Derived.RegionTactic
import Derived.Outline
namespace Go.Proofs.YticiofkiffgclaaGreat
open Go.RowKit

theorem Tryz.infoI : (Tryz.prog.info? 2).map (fun i => (i.zero, i.size, i.bytes)) = some (some (.int .i64 0), 1, 8) := by kernel_rfl

def ic (l : List Int) : List Value := l.map fun n => Value.int .i64 n
theorem ic_get (l : List Int) (j : Nat) (h : j < l.length) : (ic l)[j]? = some (.int .i64 (l.getD j 0)) := by
  simp [ic, List.getD, h]

theorem owns_rdI {w : World} {B : Nat} {v : Value} {l : List Int} (h : w.ownsRow B 2 1 v l.length (ic l)) : RdI w v l := by
  rcases h.2 with ⟨rfl, hn⟩ | ⟨g, cap, cur, rfl, hb, hg, hnc, hcm, hcs, ht⟩
  · have : l = [] := List.eq_nil_of_length_eq_zero hn
    subst this
    exact RdI.nil w
  · refine ⟨some ⟨g, 0, none⟩, cap, rfl, hnc, hcm, by simp, fun _ => ⟨g, 0, rfl, fun i hi => ?_⟩⟩
    have := World.ownsRow.cells h (g := g) rfl i _ (ic_get l i hi)
    simpa [Addr.add_lit] using this

end Go.Proofs.YticiofkiffgclaaGreat

namespace Go.Proofs.YticiofkiffgclaaGreat
open Go.RowKit Go.Maps

def opensFrom : Nat → List Nat → List Int
  | _, [] => []
  | k, s :: r => if s = 1 then (k : Int) :: opensFrom (k + 1) r else opensFrom (k + 1) r
def opens (st : List Nat) : List Int := opensFrom 1 st

def stAt (st : List Nat) (x : Int) : Nat := if 1 ≤ x then st.getD (x.toNat - 1) 0 else 0

theorem stAt_in {st : List Nat} {x : Int} (h : stAt st x ≠ 0) : 1 ≤ x ∧ x ≤ st.length := by
  unfold stAt at h
  split at h
  · rename_i h1
    refine ⟨h1, ?_⟩
    by_cases h2 : x.toNat - 1 < st.length
    · omega
    · exact absurd (by simp [List.getD, List.getElem?_eq_none (by omega : st.length ≤ x.toNat - 1)]) h
  · exact absurd rfl h

theorem stAt_out {st : List Nat} {x : Int} (h : x < 1 ∨ (st.length : Int) < x) : stAt st x = 0 := by
  by_cases h1 : stAt st x = 0
  · exact h1
  · have := stAt_in h1; omega

theorem stAt_nat {st : List Nat} {i : Nat} (h : i < st.length) : stAt st ((i : Int) + 1) = st[i] := by
  unfold stAt
  rw [if_pos (by omega), show ((i : Int) + 1).toNat - 1 = i by omega]
  simp [List.getD, h]

theorem mem_opensFrom (x : Int) : ∀ (st : List Nat) (k : Nat), x ∈ opensFrom k st ↔ ∃ i : Nat, x = ((k + i : Nat) : Int) ∧ st[i]? = some 1
  | [], k => by simp [opensFrom]
  | s :: r, k => by
    have ih := mem_opensFrom x r (k + 1)
    unfold opensFrom
    split
    · rename_i hs
      subst hs
      rw [List.mem_cons, ih]
      constructor
      · rintro (h | ⟨i, h1, h2⟩)
        · exact ⟨0, by simpa using h, rfl⟩
        · exact ⟨i + 1, by rw [h1]; congr 1; omega, by simpa using h2⟩
      · rintro ⟨i, h1, h2⟩
        cases i with
        | zero => exact .inl (by simpa using h1)
        | succ i => exact .inr ⟨i, by rw [h1]; congr 1; omega, by simpa using h2⟩
    · rename_i hs
      rw [ih]
      constructor
      · rintro ⟨i, h1, h2⟩
        exact ⟨i + 1, by rw [h1]; congr 1; omega, by simpa using h2⟩
      · rintro ⟨i, h1, h2⟩
        cases i with
        | zero => simp at h2; exact absurd h2 hs
        | succ i => exact ⟨i, by rw [h1]; congr 1; omega, by simpa using h2⟩

theorem mem_opens {st : List Nat} {x : Int} : x ∈ opens st ↔ stAt st x = 1 := by
  rw [opens, mem_opensFrom]
  constructor
  · rintro ⟨i, h1, h2⟩
    obtain ⟨h3, h4⟩ := List.getElem?_eq_some_iff.1 h2
    rw [h1, show ((1 + i : Nat) : Int) = (i : Int) + 1 by omega, stAt_nat h3, h4]
  · intro h
    obtain ⟨h1, h2⟩ := stAt_in (by rw [h]; decide)
    refine ⟨x.toNat - 1, by omega, ?_⟩
    have h3 : x.toNat - 1 < st.length := by omega
    have := stAt_nat h3
    rw [show ((x.toNat - 1 : Nat) : Int) + 1 = x by omega, h] at this
    rw [List.getElem?_eq_getElem h3, ← this]

theorem opensFrom_ge : ∀ (st : List Nat) (k : Nat) (x : Int), x ∈ opensFrom k st → (k : Int) ≤ x ∧ x < k + st.length := by
  intro st k x h
  obtain ⟨i, h1, h2⟩ := (mem_opensFrom x st k).1 h
  have := (List.getElem?_eq_some_iff.1 h2).1
  omega

theorem opens_in {st : List Nat} {x : Int} (h : x ∈ opens st) : 1 ≤ x ∧ x ≤ st.length := by
  have := opensFrom_ge st 1 x h
  omega

theorem opensFrom_sorted : ∀ (st : List Nat) (k : Nat), (opensFrom k st).Pairwise (fun a b => a < b)
  | [], k => List.Pairwise.nil
  | s :: r, k => by
    have ih := opensFrom_sorted r (k + 1)
    unfold opensFrom
    split
    · refine List.pairwise_cons.2 ⟨fun y hy => ?_, ih⟩
      have := opensFrom_ge r (k + 1) y hy
      omega
    · exact ih

theorem opens_sorted (st : List Nat) : (opens st).Pairwise (fun a b => a < b) := opensFrom_sorted st 1

theorem opensFrom_append : ∀ (st : List Nat) (k : Nat) (r : List Nat), opensFrom k (st ++ r) = opensFrom k st ++ opensFrom (k + st.length) r
  | [], k, r => by simp [opensFrom]
  | s :: t, k, r => by
    have ih := opensFrom_append t (k + 1) r
    have e : k + 1 + t.length = k + (s :: t).length := by simp; omega
    rw [e] at ih
    rw [List.cons_append, opensFrom, opensFrom, ih]
    split
    · rfl
    · rfl

theorem opens_snoc (st : List Nat) : opens (st ++ [1]) = opens st ++ [(st.length : Int) + 1] := by
  rw [opens, opensFrom_append, opens]
  congr 1
  simp [opensFrom]
  omega

theorem opens_le (st : List Nat) : (opens st).length ≤ st.length := by
  have : ∀ (st : List Nat) (k : Nat), (opensFrom k st).length ≤ st.length := by
    intro st
    induction st with
    | nil => intro k; simp [opensFrom]
    | cons s r ih =>
      intro k
      have := ih (k + 1)
      unfold opensFrom
      split <;> simp <;> omega
  exact this st 1

theorem opensFrom_set (s : Nat) (hs : s ≠ 1) : ∀ (st : List Nat) (k i : Nat), st[i]? = some 1 → opensFrom k (st.set i s) = (opensFrom k st).filter (fun y => decide (y ≠ ((k + i : Nat) : Int)))
  | [], k, i, h => by simp at h
  | t :: r, k, 0, h => by
    simp at h
    subst h
    have h2 : (opensFrom (k + 1) r).filter (fun y => decide (y ≠ ((k + 0 : Nat) : Int))) = opensFrom (k + 1) r := by
      rw [List.filter_eq_self]
      intro y hy
      have := opensFrom_ge r (k + 1) y hy
      simp
      omega
    rw [List.set_cons_zero]
    conv => lhs; unfold opensFrom
    conv => rhs; rw [opensFrom]
    rw [if_neg hs, if_pos rfl, List.filter_cons, if_neg (by simp), h2]
  | t :: r, k, i + 1, h => by
    have ih := opensFrom_set s hs r (k + 1) i (by simpa using h)
    have e : k + 1 + i = k + (i + 1) := by omega
    rw [e] at ih
    rw [List.set_cons_succ]
    conv => lhs; unfold opensFrom
    conv => rhs; rw [opensFrom]
    rw [ih]
    split
    · rw [List.filter_cons, if_pos (by simp; omega)]
    · rfl

theorem opens_set {st : List Nat} {x : Int} {s : Nat} (h : stAt st x = 1) (hs : s ≠ 1) : opens (st.set (x.toNat - 1) s) = (opens st).filter (fun y => decide (y ≠ x)) := by
  obtain ⟨h1, h2⟩ := stAt_in (by rw [h]; decide)
  have h3 : x.toNat - 1 < st.length := by omega
  have h4 := stAt_nat h3
  rw [show ((x.toNat - 1 : Nat) : Int) + 1 = x by omega, h] at h4
  have := opensFrom_set s hs st 1 (x.toNat - 1) (by rw [List.getElem?_eq_getElem h3, ← h4])
  rw [show ((1 + (x.toNat - 1) : Nat) : Int) = x by omega] at this
  exact this

def Dm (l : List Int) : DataW Unit := .map (l.map fun x => (.int .i64 x, .lit (.bool true)))

theorem size_Dm (l : List Int) : Maps.size (Dm l) = l.length := by simp [Maps.size, Dm]

theorem intKeys_Dm (l : List Int) : intKeys (Dm l) = l := by
  simp only [intKeys, Dm, List.map_map]
  conv => rhs; rw [← List.map_id l]
  rfl

theorem at_Dm (x : Int) (l : List Int) : (Dm l).atKey (.int .i64 x) (.lit (.bool false)) = .lit (.bool (decide (x ∈ l))) := by
  simp only [DataW.atKey, Dm]
  induction l with
  | nil => simp
  | cons y r ih =>
    rw [List.map_cons, List.find?_cons]
    by_cases h : y = x
    · subst h; simp [Lit.sameKey]
    · have h' : ¬ x = y := fun e => h e.symm
      simp only [Lit.sameKey, h, and_false, decide_false, List.mem_cons, h', false_or]
      exact ih

theorem del_Dm (x : Int) (l : List Int) : (Dm l).del (.int .i64 x) = Dm (l.filter fun y => decide (y ≠ x)) := by
  simp only [DataW.del, Dm]
  congr 1
  rw [List.filter_map]
  congr 1
  apply List.filter_congr
  intro y _
  simp [Lit.sameKey]

theorem insert_last {x : Int} : ∀ {l : List Int}, (∀ y ∈ l, y < x) → DataW.insert (H := Unit) (.int .i64 x, .lit (.bool true)) (l.map fun x => (.int .i64 x, .lit (.bool true))) = (l ++ [x]).map fun x => (.int .i64 x, .lit (.bool true))
  | [], _ => rfl
  | y :: r, h => by
    have h1 := h y (by simp)
    have ih := insert_last (x := x) (l := r) (fun z hz => h z (by simp [hz]))
    rw [List.map_cons, DataW.insert, if_neg (by simp [Lit.before]; omega), ih]
    rfl

theorem put_Dm {x : Int} {l : List Int} (h : ∀ y ∈ l, y < x) : (Dm l).put (.int .i64 x) (.lit (.bool true)) = Dm (l ++ [x]) := by
  simp only [DataW.put, Dm]
  have e : (l.map fun x => ((.int .i64 x, .lit (.bool true)) : Lit × DataW Unit)).filter (fun p => !p.1.sameKey (.int .i64 x)) = l.map fun x => (.int .i64 x, .lit (.bool true)) := by
    rw [List.filter_eq_self]
    intro p hp
    obtain ⟨y, hy, rfl⟩ := List.mem_map.1 hp
    have := h y hy
    simp [Lit.sameKey]
    omega
  rw [e, insert_last h]

theorem sort_sorted {l ss : List Int} (hp : ss.Perm l) (h : l.Pairwise (fun a b => a < b)) : ss.mergeSort (fun x y => decide (x ≤ y)) = l := by
  rw [mergeSort_of_perm_i hp]
  exact List.mergeSort_of_pairwise (h.imp fun hab => by simp; omega)

end Go.Proofs.YticiofkiffgclaaGreat

namespace Go.Proofs.YticiofkiffgclaaGreat
open Go.RowKit Go.Maps

structure Fm (B : Nat) (ts : List TypeId) (w w' : World) : Prop where
  os : w'.os = w.os
  tape : w'.tape = w.tape
  output : w'.output = w.output
  size : w.heap.size ≤ w'.heap.size
  block : ∀ k, k < w.heap.size → w'.heap[k]? = w.heap[k]? ∨ (B ≤ k ∧ ((∃ cs cs' t fz, t ∈ ts ∧ w.heap[k]? = some (.cells cs t fz) ∧ w'.heap[k]? = some (.cells cs' t fz)) ∨ ∃ es c es' c', w.heap[k]? = some (.map es c) ∧ w'.heap[k]? = some (.map es' c')))

theorem Fm.refl (B : Nat) (ts : List TypeId) (w : World) : Fm B ts w w := ⟨rfl, rfl, rfl, Nat.le_refl _, fun _ _ => .inl rfl⟩

theorem Fm.trans {B : Nat} {ts : List TypeId} {a b c : World} (h : Fm B ts a b) (k : Fm B ts b c) : Fm B ts a c := by
  refine ⟨k.os.trans h.os, k.tape.trans h.tape, k.output.trans h.output, Nat.le_trans h.size k.size, fun i hi => ?_⟩
  rcases h.block i hi with h1 | ⟨hB, ⟨cs, cs', t, fz, ht, h1, h2⟩ | ⟨es, d, es', d', h1, h2⟩⟩
  · rcases k.block i (Nat.lt_of_lt_of_le hi h.size) with k1 | ⟨hB, ⟨cs, cs', t, fz, ht, k1, k2⟩ | ⟨es, d, es', d', k1, k2⟩⟩
    · exact .inl (k1.trans h1)
    · exact .inr ⟨hB, .inl ⟨cs, cs', t, fz, ht, h1 ▸ k1, k2⟩⟩
    · exact .inr ⟨hB, .inr ⟨es, d, es', d', h1 ▸ k1, k2⟩⟩
  · rcases k.block i (Nat.lt_of_lt_of_le hi h.size) with k1 | ⟨_, ⟨ds, ds', t', fz', ht', k1, k2⟩ | ⟨es, d, es', d', k1, k2⟩⟩
    · exact .inr ⟨hB, .inl ⟨cs, cs', t, fz, ht, h1, k1.trans h2⟩⟩
    · rw [h2] at k1
      injection k1 with k1
      injection k1 with _ e1 e2
      subst e1; subst e2
      exact .inr ⟨hB, .inl ⟨cs, ds', t, fz, ht, h1, k2⟩⟩
    · rw [h2] at k1; cases k1
  · rcases k.block i (Nat.lt_of_lt_of_le hi h.size) with k1 | ⟨_, ⟨ds, ds', t', fz', ht', k1, k2⟩ | ⟨fs, f, fs', f', k1, k2⟩⟩
    · exact .inr ⟨hB, .inr ⟨es, d, es', d', h1, k1.trans h2⟩⟩
    · rw [h2] at k1; cases k1
    · exact .inr ⟨hB, .inr ⟨es, d, fs', f', h1, k2⟩⟩

theorem Fm.mono {B B' : Nat} {ts ts' : List TypeId} {a b : World} (h : Fm B ts a b) (hB : B' ≤ B) (hs : ∀ t, t ∈ ts → t ∈ ts') : Fm B' ts' a b :=
  ⟨h.os, h.tape, h.output, h.size, fun k hk => (h.block k hk).imp id fun ⟨hb, r⟩ => ⟨by omega, r.imp (fun ⟨cs, cs', t, fz, ht, r⟩ => ⟨cs, cs', t, fz, hs t ht, r⟩) id⟩⟩

theorem Fm.ofFr {B : Nat} {ts : List TypeId} {a b : World} (h : Fr B ts a b) : Fm B ts a b :=
  ⟨h.os, h.tape, h.output, h.size, fun k hk => (h.block k hk).imp id fun ⟨hb, r⟩ => ⟨hb, .inl r⟩⟩

theorem Fm.ofKept {w w' : World} (h : Kept w w' []) (B : Nat) (ts : List TypeId) : Fm B ts w w' := Fm.ofFr (Fr.ofKept h B ts)

theorem Fm.kept {B : Nat} {ts : List TypeId} {w w' : World} (h : Fm B ts w w') (hB : w.heap.size ≤ B) : Kept w w' [] :=
  ⟨h.os, h.tape, h.output, h.size, fun k hk _ => (h.block k hk).resolve_right (fun ⟨hb, _⟩ => by omega)⟩

theorem Fm.heap {B : Nat} {ts : List TypeId} {w w' : World} (h : Fm B ts w w') {k : Nat} {cs : Array Value} {t : TypeId} {fz : Nat × Nat} (hk : w.heap[k]? = some (.cells cs t fz)) (ht : t ∉ ts) : w'.heap[k]? = some (.cells cs t fz) := by
  rcases h.block k (heap_lt hk) with h1 | ⟨_, ⟨ds, ds', t', fz', ht', h1, _⟩ | ⟨es, d, es', d', h1, _⟩⟩
  · exact h1.trans hk
  · rw [hk] at h1
    injection h1 with h1
    injection h1 with _ e1
    subst e1
    exact absurd ht' ht
  · rw [hk] at h1; cases h1

theorem Fm.turned {w w' : World} {b B : Nat} (h : w.mapTurned w' b) (ts : List TypeId) (hb : B ≤ b) : Fm B ts w w' := by
  obtain ⟨es, c, es', c', h1, rfl⟩ := h
  refine ⟨rfl, rfl, rfl, by simp [ChangeMaps.setBlock], fun k hk => ?_⟩
  by_cases e : k = b
  · subst e
    exact .inr ⟨hb, .inr ⟨es, c, es', c', h1, ChangeMaps.heap_setBlock_same h1 _⟩⟩
  · exact .inl (ChangeMaps.heap_setBlock_other h1 _ e)

theorem ownsRow_fm {w w' : World} {base e size n B : Nat} {ts : List TypeId} {v : Value} {xs : List Value} (h : w.ownsRow base e size v n xs) (hf : Fm B ts w w') (he : e ∉ ts) : w'.ownsRow base e size v n xs := by
  refine ⟨h.1, ?_⟩
  rcases h.2 with h2 | ⟨g, cap, cur, rfl, hbg, hg, r⟩
  · exact .inl h2
  · exact .inr ⟨g, cap, cur, rfl, hbg, hf.heap hg he, r⟩

theorem ownsRow_fr {w w' : World} {base e size n B : Nat} {ts : List TypeId} {v : Value} {xs : List Value} (h : w.ownsRow base e size v n xs) (hf : Fr B ts w w') (he : e ∉ ts) : w'.ownsRow base e size v n xs := ownsRow_fm h (Fm.ofFr hf) he

theorem ownsMap_fr {H : Type} {P : Program} {k : TypeId} {R : Value → Option (DataW H × List MemPlace)} {w w' : World} {b n B : Nat} {ts : List TypeId} {D : DataW H} (h : w.ownsMap P k R b n D) (hf : Fr B ts w w') : w'.ownsMap P k R b n D := by
  obtain ⟨es, c, hb, r⟩ := h
  refine ⟨es, c, ?_, r⟩
  rcases hf.block b (heap_lt hb) with h1 | ⟨_, cs, cs', t, fz, _, h1, _⟩
  · exact h1.trans hb
  · rw [hb] at h1; cases h1

theorem keyed : Keyed Tryz.prog 2 := int_keyed Tryz.underlying2
theorem wf_i64 {x : Int} (h : -9223372036854775808 ≤ x ∧ x < 9223372036854775808) : (Lit.int .i64 x).wf = true := by
  have h1 : IntKind.i64.min = -9223372036854775808 := rfl
  have h2 : IntKind.i64.max = 9223372036854775807 := rfl
  simp only [Lit.wf, h1, h2, Bool.and_eq_true, decide_eq_true_eq]
  omega
theorem key_of {x : Int} (h : (Lit.int .i64 x).wf = true) : keyOf Tryz.prog 2 (.int .i64 x) = some (.int .i64 x) := keyOf_int_mk Tryz.underlying2 h
theorem plainElem_bool_inv {H : Type} {P : Program} {e : TypeId} (he : P.underlying e = some .bool) {v : Value} {z : DataW H × List MemPlace} (h : plainElem P e v = some z) : ∃ x, v = .bool x ∧ z = (.lit (.bool x), []) := by
  unfold plainElem at h
  rw [he] at h
  cases v <;> simp at h
  exact ⟨_, rfl, h.symm⟩

abbrev Mp (w : World) (b n : Nat) (l : List Int) : Prop := w.ownsMap Tryz.prog 2 (plainElem Tryz.prog 4) b n (Dm l)

theorem look_bool {w : World} {b n : Nat} {l : List Int} (h : Mp w b n l) (x : Int) (hx : (Lit.int .i64 x).wf = true) :
    (Instr.lookup 117 (.map (some b)) (.int .i64 x) false).run Tryz.prog w = .ok (.bool (decide (x ∈ l))) w := by
  have hz : (zeroValue 4).run Tryz.prog w = .ok (.bool false) w := Tryz.zeroValue4 w
  obtain ⟨v, ps, hrun, hv⟩ := h.lookup keyed Tryz.underlying117 hz (plainElem_bool Tryz.underlying4 false) (key_of hx)
  rw [at_Dm] at hv
  obtain ⟨y, rfl, hy⟩ := plainElem_bool_inv Tryz.underlying4 hv
  simp only [Prod.mk.injEq, DataW.lit.injEq, Lit.bool.injEq] at hy
  have e : decide (x ∈ l) = y := hy.1
  rw [e]
  exact hrun

end Go.Proofs.YticiofkiffgclaaGreat
