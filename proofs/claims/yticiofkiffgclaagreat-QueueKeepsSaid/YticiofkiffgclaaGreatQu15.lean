/-
 Ta, Tb, Tc, Td in one text.
-/
import Derived.Test.YticiofkiffgclaaGreatQu0
import Derived.Maps.OwnSet
import Derived.Lib.SlKeysI
import Derived.Test.YticiofkiffgclaaGreatRows
import Derived.RegionTactic
import Derived.Outline
import Derived.Test.YticiofkiffgclaaGreatShelf
set_option linter.unusedVariables false
set_option maxHeartbeats 16000000
set_option maxRecDepth 100000
namespace Go.Proofs.YticiofkiffgclaaGreat
open Go.RowKit Go.Maps
def xqj : Nat -> List Nat -> List Int
 | _, [] => []
 | k, s :: r => if s = 1 then (k : Int) :: xqj (k + 1) r else xqj (k + 1) r
def xqp (st : List Nat) : List Int := xqj 1 st
def stAt (st : List Nat) (x : Int) : Nat := if 1 <= x then st.getD (x.toNat - 1) 0 else 0
theorem stAt_in {st : List Nat} {x : Int} (h : stAt st x ≠ 0) : 1 <= x /\ x <= st.length := by
 unfold stAt at h
 split at h
 ·rename_i h1
  refine ⟨h1, ?_⟩
  by_cases h2 : x.toNat - 1 < st.length
  ·omega
  exact absurd (by simp [List.getD, List.getElem?_eq_none (by omega : st.length <= x.toNat - 1)]) h
 exact absurd rfl h
theorem stAt_out {st : List Nat} {x : Int} (h : x < 1 ∨ (st.length : Int) < x) : stAt st x = 0 := by
 by_cases h1 : stAt st x = 0
 ·exact h1
 have := stAt_in h1; omega
theorem yqI {st : List Nat} {i : Nat} (h : i < st.length) : stAt st ((i : Int) + 1) = st[i] := by
 unfold stAt
 rw [if_pos (by omega), show ((i : Int) + 1).toNat - 1 = i by omega]
 simp [List.getD, h]
theorem yqK (x : Int) : ∀ (st : List Nat) (k : Nat), x ∈ xqj k st ↔ ∃ i : Nat, x = ((k + i : Nat) : Int) /\ st[i]? = some 1
 | [], k => by simp [xqj]
 | s :: r, k => by
  have ih := yqK x r (k + 1)
  unfold xqj
  split
  ·rename_i hs
   subst hs
   rw [List.mem_cons, ih]
   constructor
   ·rintro (h | ⟨i, h1, h2⟩)
    ·exact ⟨0, by simpa using h, rfl⟩
    exact ⟨i + 1, by rw [h1]; congr 1; omega, by simpa using h2⟩
   rintro ⟨i, h1, h2⟩
   cases i with
   | zero => exact .inl (by simpa using h1)
   | succ i => exact .inr ⟨i, by rw [h1]; congr 1; omega, by simpa using h2⟩
  rename_i hs
  rw [ih]
  constructor
  ·rintro ⟨i, h1, h2⟩
   exact ⟨i + 1, by rw [h1]; congr 1; omega, by simpa using h2⟩
  rintro ⟨i, h1, h2⟩
  cases i with
  | zero => simp at h2; exact absurd h2 hs
  | succ i => exact ⟨i, by rw [h1]; congr 1; omega, by simpa using h2⟩
theorem mem_opens {st : List Nat} {x : Int} : x ∈ xqp st ↔ stAt st x = 1 := by
 rw [xqp, yqK]
 constructor
 ·rintro ⟨i, h1, h2⟩
  obtain ⟨h3, h4⟩ := List.getElem?_eq_some_iff.1 h2
  rw [h1, show ((1 + i : Nat) : Int) = (i : Int) + 1 by omega, yqI h3, h4]
 intro h
 obtain ⟨h1, h2⟩ := stAt_in (by rw [h]; decide)
 refine ⟨x.toNat - 1, by omega, ?_⟩
 have h3 : x.toNat - 1 < st.length := by omega
 have := yqI h3
 rw [show ((x.toNat - 1 : Nat) : Int) + 1 = x by omega, h] at this
 rw [List.getElem?_eq_getElem h3, <- this]
theorem opensFrom_ge : ∀ (st : List Nat) (k : Nat) (x : Int), x ∈ xqj k st -> (k : Int) <= x /\ x < k + st.length := by
 intro st k x h
 obtain ⟨i, h1, h2⟩ := (yqK x st k).1 h
 have := (List.getElem?_eq_some_iff.1 h2).1
 omega
theorem opens_in {st : List Nat} {x : Int} (h : x ∈ xqp st) : 1 <= x /\ x <= st.length := by
 have := opensFrom_ge st 1 x h
 omega
theorem opensFrom_sorted : ∀ (st : List Nat) (k : Nat), (xqj k st).Pairwise (fun a b => a < b)
 | [], k => List.Pairwise.nil
 | s :: r, k => by
  have ih := opensFrom_sorted r (k + 1)
  unfold xqj
  split
  ·refine List.pairwise_cons.2 ⟨fun y hy => ?_, ih⟩
   have := opensFrom_ge r (k + 1) y hy
   omega
  exact ih
theorem opens_sorted (st : List Nat) : (xqp st).Pairwise (fun a b => a < b) := opensFrom_sorted st 1
theorem yqg : ∀ (st : List Nat) (k : Nat) (r : List Nat), xqj k (st ++ r) = xqj k st ++ xqj (k + st.length) r
 | [], k, r => by simp [xqj]
 | s :: t, k, r => by
  have ih := yqg t (k + 1) r
  have e : k + 1 + t.length = k + (s :: t).length := by simp; omega
  rw [e] at ih
  rw [List.cons_append, xqj, xqj, ih]
  split
  ·rfl
  rfl
theorem opens_snoc (st : List Nat) : xqp (st ++ [1]) = xqp st ++ [(st.length : Int) + 1] := by
 rw [xqp, yqg, xqp]
 congr 1
 simp [xqj]
 omega
theorem yqu (st : List Nat) : (xqp st).length <= st.length := by
 have : ∀ (st : List Nat) (k : Nat), (xqj k st).length <= st.length := by
  intro st
  induction st with
  | nil => intro k; simp [xqj]
  | cons s r ih =>
  intro k
  have := ih (k + 1)
  unfold xqj
  split <;> simp <;> omega
 exact this st 1
theorem opensFrom_set (s : Nat) (hs : s ≠ 1) : ∀ (st : List Nat) (k i : Nat), st[i]? = some 1 -> xqj k (st.set i s) = (xqj k st).filter (fun y => decide (y ≠ ((k + i : Nat) : Int)))
 | [], k, i, h => by simp at h
 | t :: r, k, 0, h => by
  simp at h
  subst h
  have h2 : (xqj (k + 1) r).filter (fun y => decide (y ≠ ((k + 0 : Nat) : Int))) = xqj (k + 1) r := by
   rw [List.filter_eq_self]
   intro y hy
   have := opensFrom_ge r (k + 1) y hy
   simp
   omega
  rw [List.set_cons_zero]
  conv => lhs; unfold xqj
  conv => rhs; rw [xqj]
  rw [if_neg hs, if_pos rfl, List.filter_cons, if_neg (by simp), h2]
 | t :: r, k, i + 1, h => by
  have ih := opensFrom_set s hs r (k + 1) i (by simpa using h)
  have e : k + 1 + i = k + (i + 1) := by omega
  rw [e] at ih
  rw [List.set_cons_succ]
  conv => lhs; unfold xqj
  conv => rhs; rw [xqj]
  rw [ih]
  split
  ·rw [List.filter_cons, if_pos (by simp; omega)]
  rfl
theorem opens_set {st : List Nat} {x : Int} {s : Nat} (h : stAt st x = 1) (hs : s ≠ 1) : xqp (st.set (x.toNat - 1) s) = (xqp st).filter (fun y => decide (y ≠ x)) := by
 obtain ⟨h1, h2⟩ := stAt_in (by rw [h]; decide)
 have h3 : x.toNat - 1 < st.length := by omega
 have h4 := yqI h3
 rw [show ((x.toNat - 1 : Nat) : Int) + 1 = x by omega, h] at h4
 have := opensFrom_set s hs st 1 (x.toNat - 1) (by rw [List.getElem?_eq_getElem h3, <- h4])
 rw [show ((1 + (x.toNat - 1) : Nat) : Int) = x by omega] at this
 exact this
def Dm (l : List Int) : DataW Unit := .map (l.map fun x => (.int .i64 x, .lit (.bool true)))
theorem size_Dm (l : List Int) : Maps.size (Dm l) = l.length := by simp [Maps.size, Dm]
theorem intKeys_Dm (l : List Int) : intKeys (Dm l) = l := by
 simp only [intKeys, Dm, List.map_map]
 conv => rhs; rw [<- List.map_id l]
 rfl
theorem at_Dm (x : Int) (l : List Int) : (Dm l).atKey (.int .i64 x) (.lit (.bool false)) = .lit (.bool (decide (x ∈ l))) := by
 simp only [DataW.atKey, Dm]
 induction l with
 | nil => simp
 | cons y r ih =>
 rw [List.map_cons, List.find?_cons]
 by_cases h : y = x
 ·subst h; simp [Lit.sameKey]
 have h' : ¬ x = y := fun e => h e.symm
 simp only [Lit.sameKey, h, and_false, decide_false, List.mem_cons, h', false_or]
 exact ih
theorem del_Dm (x : Int) (l : List Int) : (Dm l).del (.int .i64 x) = Dm (l.filter fun y => decide (y ≠ x)) := by
 simp only [DataW.del, Dm]
 congr 1
 rw [List.filter_map]
 congr 1
 apply List.filter_congr
 intro y _
 simp [Lit.sameKey]
theorem insert_last {x : Int} : ∀ {l : List Int}, (∀ y ∈ l, y < x) -> DataW.insert (H := Unit) (.int .i64 x, .lit (.bool true)) (l.map fun x => (.int .i64 x, .lit (.bool true))) = (l ++ [x]).map fun x => (.int .i64 x, .lit (.bool true))
 | [], _ => rfl
 | y :: r, h => by
  have h1 := h y (by simp)
  have ih := insert_last (x := x) (l := r) (fun z hz => h z (by simp [hz]))
  rw [List.map_cons, DataW.insert, if_neg (by simp [Lit.before]; omega), ih]
  rfl
theorem put_Dm {x : Int} {l : List Int} (h : ∀ y ∈ l, y < x) : (Dm l).put (.int .i64 x) (.lit (.bool true)) = Dm (l ++ [x]) := by
 simp only [DataW.put, Dm]
 have e : (l.map fun x => ((.int .i64 x, .lit (.bool true)) : Lit × DataW Unit)).filter (fun p => !p.1.sameKey (.int .i64 x)) = l.map fun x => (.int .i64 x, .lit (.bool true)) := by
  rw [List.filter_eq_self]
  intro p hp
  obtain ⟨y, hy, rfl⟩ := List.mem_map.1 hp
  have := h y hy
  simp [Lit.sameKey]
  omega
 rw [e, insert_last h]
theorem sort_sorted {l ss : List Int} (hp : ss.Perm l) (h : l.Pairwise (fun a b => a < b)) : ss.mergeSort (fun x y => decide (x <= y)) = l := by
 rw [mergeSort_of_perm_i hp]
 exact List.mergeSort_of_pairwise (h.imp fun hab => by simp; omega)
structure Fm (B : Nat) (ts : List TypeId) (w w' : World) : Prop where
 os : w'.os = w.os
 tape : w'.tape = w.tape
 output : w'.output = w.output
 size : w.heap.size <= w'.heap.size
 block : ∀ k, k < w.heap.size -> w'.heap[k]? = w.heap[k]? ∨ (B <= k /\ ((∃ cs cs' t fz, t ∈ ts /\ w.heap[k]? = some (.cells cs t fz) /\ w'.heap[k]? = some (.cells cs' t fz)) ∨ ∃ es c es' c', w.heap[k]? = some (.map es c) /\ w'.heap[k]? = some (.map es' c')))
theorem Fm.refl (B : Nat) (ts : List TypeId) (w : World) : Fm B ts w w := ⟨rfl, rfl, rfl, Nat.le_refl _, fun _ _ => .inl rfl⟩
theorem Fm.trans {B : Nat} {ts : List TypeId} {a b c : World} (h : Fm B ts a b) (k : Fm B ts b c) : Fm B ts a c := by
 refine ⟨k.os.trans h.os, k.tape.trans h.tape, k.output.trans h.output, Nat.le_trans h.size k.size, fun i hi => ?_⟩
 rcases h.block i hi with h1 | ⟨hB, ⟨cs, cs', t, fz, ht, h1, h2⟩ | ⟨es, d, es', d', h1, h2⟩⟩
 ·rcases k.block i (Nat.lt_of_lt_of_le hi h.size) with k1 | ⟨hB, ⟨cs, cs', t, fz, ht, k1, k2⟩ | ⟨es, d, es', d', k1, k2⟩⟩
  ·exact .inl (k1.trans h1)
  ·exact .inr ⟨hB, .inl ⟨cs, cs', t, fz, ht, h1 ▸ k1, k2⟩⟩
  exact .inr ⟨hB, .inr ⟨es, d, es', d', h1 ▸ k1, k2⟩⟩
 ·rcases k.block i (Nat.lt_of_lt_of_le hi h.size) with k1 | ⟨_, ⟨ds, ds', t', fz', ht', k1, k2⟩ | ⟨es, d, es', d', k1, k2⟩⟩
  ·exact .inr ⟨hB, .inl ⟨cs, cs', t, fz, ht, h1, k1.trans h2⟩⟩
  ·rw [h2] at k1
   injection k1 with k1
   injection k1 with _ e1 e2
   subst e1; subst e2
   exact .inr ⟨hB, .inl ⟨cs, ds', t, fz, ht, h1, k2⟩⟩
  rw [h2] at k1; cases k1
 rcases k.block i (Nat.lt_of_lt_of_le hi h.size) with k1 | ⟨_, ⟨ds, ds', t', fz', ht', k1, k2⟩ | ⟨fs, f, fs', f', k1, k2⟩⟩
 ·exact .inr ⟨hB, .inr ⟨es, d, es', d', h1, k1.trans h2⟩⟩
 ·rw [h2] at k1; cases k1
 exact .inr ⟨hB, .inr ⟨es, d, fs', f', h1, k2⟩⟩
theorem Fm.mono {B B' : Nat} {ts ts' : List TypeId} {a b : World} (h : Fm B ts a b) (hB : B' <= B) (hs : ∀ t, t ∈ ts -> t ∈ ts') : Fm B' ts' a b :=
 ⟨h.os, h.tape, h.output, h.size, fun k hk => (h.block k hk).imp id fun ⟨hb, r⟩ => ⟨by omega, r.imp (fun ⟨cs, cs', t, fz, ht, r⟩ => ⟨cs, cs', t, fz, hs t ht, r⟩) id⟩⟩
theorem Fm.ofFr {B : Nat} {ts : List TypeId} {a b : World} (h : Fr B ts a b) : Fm B ts a b :=
 ⟨h.os, h.tape, h.output, h.size, fun k hk => (h.block k hk).imp id fun ⟨hb, r⟩ => ⟨hb, .inl r⟩⟩
theorem Fm.ofKept {w w' : World} (h : Kept w w' []) (B : Nat) (ts : List TypeId) : Fm B ts w w' := Fm.ofFr (Fr.ofKept h B ts)
theorem Fm.kept {B : Nat} {ts : List TypeId} {w w' : World} (h : Fm B ts w w') (hB : w.heap.size <= B) : Kept w w' [] :=
 ⟨h.os, h.tape, h.output, h.size, fun k hk _ => (h.block k hk).resolve_right (fun ⟨hb, _⟩ => by omega)⟩
theorem Fm.heap {B : Nat} {ts : List TypeId} {w w' : World} (h : Fm B ts w w') {k : Nat} {cs : Array Value} {t : TypeId} {fz : Nat × Nat} (hk : w.heap[k]? = some (.cells cs t fz)) (ht : t ∉ ts) : w'.heap[k]? = some (.cells cs t fz) := by
 rcases h.block k (xqh hk) with h1 | ⟨_, ⟨ds, ds', t', fz', ht', h1, _⟩ | ⟨es, d, es', d', h1, _⟩⟩
 ·exact h1.trans hk
 ·rw [hk] at h1
  injection h1 with h1
  injection h1 with _ e1
  subst e1
  exact absurd ht' ht
 rw [hk] at h1; cases h1
theorem Fm.turned {w w' : World} {b B : Nat} (h : w.mapTurned w' b) (ts : List TypeId) (hb : B <= b) : Fm B ts w w' := by
 obtain ⟨es, c, es', c', h1, rfl⟩ := h
 refine ⟨rfl, rfl, rfl, by simp [ChangeMaps.setBlock], fun k hk => ?_⟩
 by_cases e : k = b
 ·subst e
  exact .inr ⟨hb, .inr ⟨es, c, es', c', h1, ChangeMaps.heap_setBlock_same h1 _⟩⟩
 exact .inl (ChangeMaps.heap_setBlock_other h1 _ e)
theorem ownsRow_fm {w w' : World} {base e size n B : Nat} {ts : List TypeId} {v : Value} {xs : List Value} (h : w.ownsRow base e size v n xs) (hf : Fm B ts w w') (he : e ∉ ts) : w'.ownsRow base e size v n xs := by
 refine ⟨h.1, ?_⟩
 rcases h.2 with h2 | ⟨g, cap, cur, rfl, hbg, hg, r⟩
 ·exact .inl h2
 exact .inr ⟨g, cap, cur, rfl, hbg, hf.heap hg he, r⟩
theorem xqW {w w' : World} {base e size n B : Nat} {ts : List TypeId} {v : Value} {xs : List Value} (h : w.ownsRow base e size v n xs) (hf : Fr B ts w w') (he : e ∉ ts) : w'.ownsRow base e size v n xs := ownsRow_fm h (Fm.ofFr hf) he
theorem yqC {H : Type} {P : Program} {k : TypeId} {R : Value -> Option (DataW H × List MemPlace)} {w w' : World} {b n B : Nat} {ts : List TypeId} {D : DataW H} (h : w.ownsMap P k R b n D) (hf : Fr B ts w w') : w'.ownsMap P k R b n D := by
 obtain ⟨es, c, hb, r⟩ := h
 refine ⟨es, c, ?_, r⟩
 rcases hf.block b (xqh hb) with h1 | ⟨_, cs, cs', t, fz, _, h1, _⟩
 ·exact h1.trans hb
 rw [hb] at h1; cases h1
theorem keyed : Keyed Tryz.prog 2 := int_keyed Tryz.underlying2
theorem wf_i64 {x : Int} (h : -9223372036854775808 <= x /\ x < 9223372036854775808) : (Lit.int .i64 x).wf = true := by
 have h1 : IntKind.i64.min = -9223372036854775808 := rfl
 have h2 : IntKind.i64.max = 9223372036854775807 := rfl
 simp only [Lit.wf, h1, h2, Bool.and_eq_true, decide_eq_true_eq]
 omega
theorem key_of {x : Int} (h : (Lit.int .i64 x).wf = true) : keyOf Tryz.prog 2 (.int .i64 x) = some (.int .i64 x) := keyOf_int_mk Tryz.underlying2 h
theorem plainElem_bool_inv {H : Type} {P : Program} {e : TypeId} (he : P.underlying e = some .bool) {v : Value} {z : DataW H × List MemPlace} (h : plainElem P e v = some z) : ∃ x, v = .bool x /\ z = (.lit (.bool x), []) := by
 unfold plainElem at h
 rw [he] at h
 cases v <;> simp at h
 exact ⟨_, rfl, h.symm⟩
abbrev Mp (w : World) (b n : Nat) (l : List Int) : Prop := w.ownsMap Tryz.prog 2 (plainElem Tryz.prog 4) b n (Dm l)
theorem look_bool {w : World} {b n : Nat} {l : List Int} (h : Mp w b n l) (x : Int) (hx : (Lit.int .i64 x).wf = true) :
 (Instr.lookup 117 (.map (some b)) (.int .i64 x) false).run Tryz.prog w = .ok (.bool (decide (x ∈ l))) w := by
 have hz : (zeroValue 4).run Tryz.prog w = .ok (.bool false) w := Tryz.zeroValue4 w
 obtain ⟨v, ps, hrun, hv⟩ := h.lookup keyed Tryz.underlying117 hz (plainElem_bool Tryz.underlying4 false) (key_of hx)
 rw [at_Dm] at hv
 obtain ⟨y, rfl, hy⟩ := plainElem_bool_inv Tryz.underlying4 hv
 simp only [Prod.mk.injEq, DataW.lit.injEq, Lit.bool.injEq] at hy
 have e : decide (x ∈ l) = y := hy.1
 rw [e]
 exact hrun
end Go.Proofs.YticiofkiffgclaaGreat
namespace Go.Proofs.YticiofkiffgclaaGreat
open Go.RowKit Go.Maps Go.Sort Go.Shelf
def bls (l : List Bool) : List Value := l.map Value.bool
theorem bls_length (l : List Bool) : (bls l).length = l.length := by simp [bls]
def comm (st : List Nat) : List Bool := false :: st.map (fun s => s == 2)
theorem comm_length (st : List Nat) : (comm st).length = st.length + 1 := by simp [comm]
theorem comm_at {st : List Nat} {x : Int} (h : 1 <= x /\ x <= st.length) : (comm st)[x.toNat]? = some (stAt st x == 2) := by
 obtain ⟨i, hi⟩ : ∃ i : Nat, x = (i : Int) + 1 := ⟨x.toNat - 1, by omega⟩
 subst hi
 rw [yqI (by omega), show ((i : Int) + 1).toNat = i + 1 by omega, comm, List.getElem?_cons_succ, List.getElem?_map, List.getElem?_eq_getElem (by omega)]
 rfl
structure Mg (w : World) (B p b : Nat) (v : Value) (st : List Nat) : Prop where
 hp : w.heap[p]? = some (.cells #[.map (some b), v] 120 (0, 0))
 hm : Mp w b st.length (xqp st)
 hv : w.ownsRow B 4 1 v (st.length + 1) (bls (comm st))
 bp : B <= p
 bb : B <= b
 hl : st.length < 1048576
 hs : ∀ s ∈ st, 1 <= s /\ s <= 3
def mts : List TypeId := [120, 4]
theorem Mg.frame {w w' : World} {B p b C : Nat} {v : Value} {st : List Nat} {ts : List TypeId} (h : Mg w B p b v st) (hf : Fr C ts w w') (h1 : 120 ∉ ts) (h2 : 4 ∉ ts) : Mg w' B p b v st :=
 { h with hp := hf.heap h.hp h1, hm := yqC h.hm hf, hv := xqW h.hv hf h2 }
theorem Mg.keep {w w' : World} {B p b : Nat} {v : Value} {st : List Nat} (h : Mg w B p b v st) (hk : Kept w w' []) : Mg w' B p b v st := h.frame (Fr.ofKept hk 0 []) (by simp) (by simp)
theorem Mg.cell {w : World} {B p b : Nat} {v : Value} {st : List Nat} (h : Mg w B p b v st) : w.cell? ⟨p, 0, none⟩ = some (.map (some b)) /\ w.cell? ⟨p, 1, none⟩ = some v := by
 constructor
 ·rw [cell_of_row w p 0 _ _ _ h.hp]; rfl
 rw [cell_of_row w p 1 _ _ _ h.hp]; rfl
theorem Mg.shape {w : World} {B p b : Nat} {v : Value} {st : List Nat} (h : Mg w B p b v st) : ∃ g cap, v = .slice (some ⟨g, 0, none⟩) (st.length + 1) cap /\ B <= g /\ st.length + 1 <= cap /\ (∃ cur, w.heap[g]? = some (.cells cur 4 (0, 0)) /\ cur.size = cap /\ cur.toList.take (st.length + 1) = bls (comm st)) := by
 rcases h.hv.2 with ⟨_, h0⟩ | ⟨g, cap, cur, hv, hbg, hgc, hnc, hcm, hcs, htk⟩
 ·omega
 exact ⟨g, cap, hv, hbg, hnc, cur, hgc, by simpa using hcs, by simpa using htk⟩
theorem Mg.cell_at {w : World} {B p b g cap : Nat} {st : List Nat} (h : Mg w B p b (.slice (some ⟨g, 0, none⟩) (st.length + 1) cap) st) {x : Nat} (hx : 1 <= x /\ x <= st.length) : w.cell? ⟨g, x, none⟩ = some (.bool (stAt st x == 2)) := by
 have h1 := comm_at (st := st) (x := (x : Int)) (by omega)
 have := World.ownsRow.cells h.hv (g := g) rfl x (.bool (stAt st x == 2)) (by rw [bls, List.getElem?_map, show (comm st)[x]? = _ from by simpa using h1]; rfl)
 simpa [Addr.add_lit] using this
theorem Tryz.infoBool : (Tryz.prog.info? 4).map (fun i => (i.zero, i.size, i.bytes)) = some (some (.bool false), 1, 1) := by kernel_rfl
theorem made_bools (k : Nat) : madeCells (Value.bool false).cells (k * 1) = (bls (List.replicate k false)).toArray := by
 apply Array.ext'
 rw [Nat.mul_one, show (Value.bool false).cells = #[.bool false] from rfl, toList_madeCells_one]
 simp [bls]
theorem mk_bools (k : Nat) (hk : k <= 1048576) (w : World) : (Instr.makeSlice 118 (.int .i64 k) (.int .i64 k)).run Tryz.prog w = .ok (.slice (some ⟨w.heap.size, 0, none⟩) k k) (w.alloc (.cells (bls (List.replicate k false)).toArray 4)) := by
 obtain ⟨i0, hi, hz0, hz1, hz2⟩ := info_parts Tryz.infoBool
 have h := run_make (P := Tryz.prog) w 118 4 i0 _ Tryz.underlying118 hi hz0 .i64 .i64 k k (by omega) (by omega) (by rw [hz2]; omega) (by omega)
 rw [h, hz1, Int.toNat_natCast, made_bools]
theorem own_bools {w : World} {B g n : Nat} {l : List Bool} (hg : w.heap[g]? = some (.cells (bls l).toArray 4 (0, 0))) (hB : B <= g) (hn : l.length = n) (h63 : n <= maxLen) : w.ownsRow B 4 1 (.slice (some ⟨g, 0, none⟩) n n) n (bls l) := by
 subst hn
 refine ⟨by simp [bls_length], .inr ⟨g, l.length, _, rfl, hB, hg, Nat.le_refl _, h63, by simp [bls_length], ?_⟩⟩
 rw [List.toList_toArray, List.take_of_length_le (by simp [bls_length])]
theorem mnew_any (w : World) : Calls Tryz.prog 13 #[] w fun e w' => ∃ p b v, e = .returned (.pointer (some ⟨p, 0, none⟩)) /\ Mg w' w.heap.size p b v [] /\ Kept w w' [] := by
 have hmk : ∀ w : World, (Instr.makeSlice 118 (.int .i64 1) (.int .i64 1)).run Tryz.prog w = .ok (.slice (some ⟨w.heap.size, 0, none⟩) 1 1) (w.alloc (.cells (bls [false]).toArray 4)) := fun w => mk_bools 1 (by decide) w
 have hmm : ∀ w : World, (Instr.makeMap 117 none).run Tryz.prog w = .ok (.map (some w.heap.size)) (w.alloc (.map #[] 0)) := fun w => run_makeMap _ w
 go_enter Tryz.func13, Tryz.ntmps13
 go_wp2
 go_ret
 refine ⟨_, w.heap.size, .slice (some ⟨w.heap.size + 1, 0, none⟩) 1 1, rfl, ?_, ((((Kept.refl w []).alloc _).alloc _).alloc _)⟩
 have hz : ((w.alloc (.map #[] 0)).alloc (.cells (bls [false]).toArray 4)).heap.size = w.heap.size + 1 + 1 := by simp
 have m0 : Mp (w.alloc (.map #[] 0)) w.heap.size 0 (xqp []) := World.ownsMap_made w _ _ _
 have b0 : ((w.alloc (.map #[] 0)).alloc (.cells (bls [false]).toArray 4)).heap[w.heap.size + 1]? = some (.cells (bls [false]).toArray 4 (0, 0)) := by
  have := heap_alloc_new (w.alloc (.map #[] 0)) (.cells (bls [false]).toArray 4)
  simpa using this
 refine { hp := ?_, hm := (m0.alloc _).alloc _, hv := ?_, bp := by omega, bb := Nat.le_refl _, hl := by decide, hs := by simp }
 ·have := heap_alloc_new ((w.alloc (.map #[] 0)).alloc (.cells (bls [false]).toArray 4)) (.cells #[.map (some w.heap.size), .slice (some ⟨w.heap.size + 1, 0, none⟩) 1 1] 120)
  rw [hz] at this
  simpa using this
 exact own_bools ((Below.heap_alloc _ _ _ (by rw [hz]; omega)).trans b0) (by omega) rfl (by decide)
theorem mnext_any {w : World} {B p b : Nat} {v : Value} {st : List Nat} (h : Mg w B p b v st) : Calls Tryz.prog 17 #[.pointer (some ⟨p, 0, none⟩)] w fun e w' => e = .returned (.int .i64 ((st.length : Int) + 1)) /\ w = w' := by
 obtain ⟨g, cap, rfl, _⟩ := h.shape
 obtain ⟨c0, c1⟩ := h.cell
 clear h
 go_enter Tryz.func17, Tryz.ntmps17
 go_wp2
 go_ret
 exact ⟨by simp, rfl⟩
theorem mstate_any {w : World} {B p b : Nat} {v : Value} {st : List Nat} (h : Mg w B p b v st) (x : Int) (hx : (Lit.int .i64 x).wf = true) : Calls Tryz.prog 19 #[.pointer (some ⟨p, 0, none⟩), .int .i64 x] w fun e w' => e = .returned (.int .u8 (stAt st x)) /\ w = w' := by
 have hnx := mnext_any h
 have hlk := look_bool h.hm x hx
 obtain ⟨g, cap, rfl, _, hcap, _⟩ := h.shape
 obtain ⟨c0, c1⟩ := h.cell
 by_cases h1 : x < 1
 ·rw [stAt_out (.inl h1)]
  clear h hlk
  go_enter Tryz.func19, Tryz.ntmps19
  go_wp2
  go_ret
  exact ⟨by simp, rfl⟩
 by_cases h2 : (st.length : Int) < x
 ·rw [stAt_out (.inr h2)]
  have h3 : (st.length : Int) + 1 <= x := by omega
  clear h hlk
  go_enter Tryz.func19, Tryz.ntmps19
  go_wp2_with (go_at_call 17; refine hnx.mono ?_; rintro e w' ⟨rfl, rfl⟩)
  go_ret
  exact ⟨by simp, rfl⟩
 obtain ⟨k, hk⟩ : ∃ k : Nat, x = k := ⟨x.toNat, by omega⟩
 subst hk
 have hc := h.cell_at (x := k) (by omega)
 have h3 : ¬ (st.length : Int) + 1 <= k := by omega
 have h4 : (k : Int) < (st.length : Int) + 1 := by omega
 have hin : stAt st k = 1 ∨ stAt st k = 2 ∨ stAt st k = 3 := by
  have e := yqI (st := st) (i := k - 1) (by omega)
  rw [show ((k - 1 : Nat) : Int) + 1 = k by omega] at e
  have := h.hs _ (List.getElem_mem (by omega : k - 1 < st.length))
  rw [e]; omega
 have hmem := mem_opens (st := st) (x := (k : Int))
 have h0 : ¬ (k : Int) < 1 := by omega
 rcases hin with hs | hs | hs
 ·have e : decide ((k : Int) ∈ xqp st) = true := by rw [decide_eq_true_eq, hmem, hs]
  rw [e] at hlk
  rw [hs]
  clear h hc hmem e hs h1 h2 hx hcap
  go_enter Tryz.func19, Tryz.ntmps19
  go_wp2_with (go_at_call 17; refine hnx.mono ?_; rintro e w' ⟨rfl, rfl⟩)
  go_ret
  exact ⟨by simp, rfl⟩
 ·have e : decide ((k : Int) ∈ xqp st) = false := by rw [decide_eq_false_iff_not, hmem, hs]; decide
  rw [e] at hlk
  rw [hs] at hc ⊢
  clear h hmem e hs h1 h2 hx hcap
  have hc' : w.cell? ⟨g, k, none⟩ = some (.bool true) := hc
  clear hc
  go_enter Tryz.func19, Tryz.ntmps19
  go_wp2_with (go_at_call 17; refine hnx.mono ?_; rintro e w' ⟨rfl, rfl⟩)
  go_ret
  exact ⟨by simp, rfl⟩
 have e : decide ((k : Int) ∈ xqp st) = false := by rw [decide_eq_false_iff_not, hmem, hs]; decide
 rw [e] at hlk
 rw [hs] at hc ⊢
 clear h hmem e hs h1 h2 hx hcap
 have hc' : w.cell? ⟨g, k, none⟩ = some (.bool false) := hc
 clear hc
 go_enter Tryz.func19, Tryz.ntmps19
 go_wp2_with (go_at_call 17; refine hnx.mono ?_; rintro e w' ⟨rfl, rfl⟩)
 go_ret
 exact ⟨by simp, rfl⟩
end Go.Proofs.YticiofkiffgclaaGreat
namespace Go.Proofs.YticiofkiffgclaaGreat
open Go.RowKit Go.Maps
theorem Mg.size {w : World} {B p b : Nat} {v : Value} {st : List Nat} (h : Mg w B p b v st) : B <= w.heap.size := by have := xqh h.hp; have := h.bp; omega
theorem Mg.len {w : World} {B p b : Nat} {v : Value} {st : List Nat} (h : Mg w B p b v st) (ty : TypeId) : (Builtin.len_ #[117] ty #[.map (some b)]).run Tryz.prog w = .ok (.int .i64 (xqp st).length) w := by
 have := h.hm.len Tryz.underlying117 ty
 rw [size_Dm] at this
 exact this
theorem opens_lt {st : List Nat} : ∀ y ∈ xqp st, y < (st.length : Int) + 1 := fun y hy => by have := opens_in hy; omega
theorem comm_snoc (st : List Nat) : comm (st ++ [1]) = comm st ++ [false] := by simp [comm]
theorem mbegin_full {w : World} {B p b : Nat} {v : Value} {st : List Nat} (h : Mg w B p b v st) (hf : 6 <= (xqp st).length ∨ st.length + 1 = 1048576) :
 Calls Tryz.prog 18 #[.pointer (some ⟨p, 0, none⟩)] w fun e w' => e = .returned (.tuple #[.int .i64 0, .int .i64 8]) /\ w = w' := by
 have hnx := mnext_any h
 have hln := h.len
 obtain ⟨c0, c1⟩ := h.cell
 clear h
 obtain ⟨n, hn⟩ : ∃ n, (xqp st).length = n := ⟨_, rfl⟩
 rw [hn] at hln hf
 clear hn
 by_cases h1 : 6 <= n
 ·go_enter Tryz.func18, Tryz.ntmps18
  go_wp2_with (go_at_call 17; refine hnx.mono ?_; rintro e w' ⟨rfl, rfl⟩)
  go_ret2
  exact ⟨rfl, rfl⟩
 ·have h2 : (1048576 : Int) <= (st.length : Int) + 1 := by omega
  clear hf
  go_enter Tryz.func18, Tryz.ntmps18
  go_wp2_with (go_at_call 17; refine hnx.mono ?_; rintro e w' ⟨rfl, rfl⟩)
  go_ret2
  exact ⟨rfl, rfl⟩
theorem mbegin_ok {w : World} {B p b : Nat} {v : Value} {st : List Nat} (h : Mg w B p b v st) (h1 : (xqp st).length < 6) (h2 : st.length + 1 < 1048576) :
 Calls Tryz.prog 18 #[.pointer (some ⟨p, 0, none⟩)] w fun e w' => e = .returned (.tuple #[.int .i64 ((st.length : Int) + 1), .int .i64 0]) /\ ∃ v', Mg w' B p b v' (st ++ [1]) /\ Fm B mts w w' := by
 have hnx := mnext_any h
 have hln := h.len
 obtain ⟨g, cap, rfl, hgB, hcap, hgc⟩ := h.shape
 obtain ⟨c0, c1⟩ := h.cell
 obtain ⟨n, hn⟩ : ∃ n, (xqp st).length = n := ⟨_, rfl⟩
 have Hn := iH hn
 rw [hn] at hln h1
 have H := iH h
 have hsz := h.size
 have hwf : (Lit.int .i64 ((st.length : Int) + 1)).wf = true := wf_i64 (by omega)
 obtain ⟨N, hN⟩ : ∃ N : Int, (st.length : Int) + 1 = N := ⟨_, rfl⟩
 have h3 : decide ((1048576 : Int) <= N) = false := by rw [decide_eq_false_iff_not]; omega
 rw [hN] at hnx hwf ⊢
 have HN := iH hN
 have h4 : ¬ (6 : Int) <= (n : Int) := by omega
 obtain ⟨i0, hi, hz0, hz1, hz2⟩ := info_parts Tryz.infoBool
 have I := iH (And.intro hi (And.intro hz0 (And.intro hz1 hz2)))
 have hkey := iH (key_of hwf)
 have HM := iH H.out.hm
 have hmax : st.length < maxLen := by simp only [maxLen]; omega
 have Hmax := iH hmax
 have H2 := iH h2
 clear h hN hn hwf hi hz0 hz1 hz2 hcap hgc h2 hmax
 go_enter Tryz.func18, Tryz.ntmps18
 go_wp2_with (first
  | (go_at_call 17; refine hnx.mono ?_; rintro e w' ⟨rfl, rfl⟩)
  | (at_mapUpdate; go_must (refine wpList_mapUpdate_in _ rfl _ _ _ 117 rfl 2 4 keyed Tryz.underlying117 (plainElem Tryz.prog 4) b st.length (Dm (xqp st)) rfl HM.out Hmax.out _ _ _ rfl rfl hkey.out (.lit (.bool true)) [] (plainElem_bool Tryz.underlying4 true) ?_)))
 ·intro w1 hm1 ht1
  have fm1 := Fm.turned ht1 [] H.out.bb
  rw [put_Dm (by rw [<- HN.out]; exact opens_lt), <- HN.out, <- opens_snoc] at hm1
  have hp1 := fm1.heap H.out.hp (by simp)
  have hv1 := ownsRow_fm H.out.hv fm1 (by simp)
  have F1 := iH fm1; have P1 := iH hp1; have V1 := iH hv1; have M1 := iH hm1
  have c0' : w1.cell? ⟨p, 0, none⟩ = some (.map (some b)) := by rw [cell_of_row w1 p 0 _ _ _ hp1]; rfl
  have c1' : w1.cell? ⟨p, 1, none⟩ = some (.slice (some ⟨g, 0, none⟩) (st.length + 1) cap) := by rw [cell_of_row w1 p 1 _ _ _ hp1]; rfl
  have hs1 : B <= w1.heap.size := by have := xqh hp1; have := H.out.bp; omega
  have f1 : w1.frozen? ⟨p, 1, none⟩ = false := frozen_of_row _ _ _ _ _ hp1
  clear hm1 ht1 fm1 hp1 hv1 c0 c1
  go_wp2_with (at_builtin; refine yqf _ rfl (.tmp 28) (.tmp 29) 118 118 rfl B 4 i0 (.bool false) 1 1 Tryz.underlying118 I.out.1 I.out.2.1 I.out.2.2.1 I.out.2.2.2 rfl (.slice (some ⟨g, 0, none⟩) (st.length + 1) cap) (st.length + 1) (bls (comm st)) rfl ?hown _ 1 [.bool false] rfl (src_one Tryz.underlying118 w1 _ rfl _) ?b1 ?b2 ?base ?next)
  case hown => exact xqW V1.out ((Fr.refl B [] w1).alloc _) (by simp)
  case b1 => have := H2.out; simp only [maxLen]; omega
  case b2 => have := H2.out; omega
  case base => simp; omega
  case next =>
  intro v2 w2 ho2 hf2 _
  obtain ⟨g2, cap2, rfl⟩ : ∃ g2 cap2, v2 = .slice (some ⟨g2, 0, none⟩) (st.length + 1 + 1) cap2 := by
   rcases ho2.2 with ⟨_, h0⟩ | ⟨g2, cap2, _, hv, _⟩
   ·omega
   exact ⟨g2, cap2, hv⟩
  have ha : Fr B [] w1 (w1.alloc (.cells #[.bool false] 4)) := (Fr.refl B [] w1).alloc _
  have P2 := iH (hf2.heap (ha.heap P1.out (by simp)) (by decide))
  have M2 := iH (yqC (yqC M1.out ha) hf2)
  have O2 := iH ho2
  have F2 := iH (((F1.out.mono (Nat.le_refl B) (ts' := mts) (by simp)).trans (Fm.ofFr (ha.mono (Nat.le_refl B) (by simp)))).trans (Fm.ofFr (hf2.mono (Nat.le_refl B) (ts' := mts) (by simp [mts]))))
  have f2 : w2.frozen? ⟨p, 1, none⟩ = false := frozen_of_row _ _ _ _ _ P2.out
  have c2 : w2.cell? ⟨p, 1, none⟩ = some (.slice (some ⟨g, 0, none⟩) (st.length + 1) cap) := by rw [cell_of_row w2 p 1 _ _ _ P2.out]; rfl
  clear ho2 hf2 ha
  go_wp2
  go_ret2
  refine ⟨rfl, .slice (some ⟨g2, 0, none⟩) (st.length + 1 + 1) cap2, ?_, ?_⟩
  ·have f3 : Fr B [120] w2 (w2.setCell ⟨p, 1, none⟩ (.slice (some ⟨g2, 0, none⟩) (st.length + 1 + 1) cap2)) := (Fr.refl B _ w2).setCell P2.out (.inr ⟨H.out.bp, by simp⟩) 1 _
   refine { hp := ?_, hm := ?_, hv := ?_, bp := H.out.bp, bb := H.out.bb, hl := by have := H2.out; simp; omega, hs := ?_ }
   ·simpa using xqb P2.out 1 (.slice (some ⟨g2, 0, none⟩) (st.length + 1 + 1) cap2)
   ·simpa using yqC M2.out f3
   ·have := xqW O2.out f3 (by decide)
    rw [comm_snoc, bls, List.map_append, List.length_append]
    exact this
   intro s hs
   rcases List.mem_append.1 hs with h | h
   ·exact H.out.hs s h
   simp at h; omega
  exact F2.out.trans (Fm.ofFr ((Fr.refl B mts w2).setCell P2.out (.inr ⟨H.out.bp, by simp [mts]⟩) 1 _))
theorem mend_bad {w : World} {B p b : Nat} {v : Value} {st : List Nat} (h : Mg w B p b v st) (x : Int) (hx : (Lit.int .i64 x).wf = true) (hb : stAt st x ≠ 1) :
 Calls Tryz.prog 81 #[.pointer (some ⟨p, 0, none⟩), .int .i64 x] w fun e w' => e = .returned (.int .i64 7) /\ w = w' := by
 have hlk := look_bool h.hm x hx
 rw [show decide (x ∈ xqp st) = false by rw [decide_eq_false_iff_not, mem_opens]; exact hb] at hlk
 obtain ⟨c0, c1⟩ := h.cell
 clear h hx hb
 go_enter Tryz.func81, Tryz.ntmps81
 go_wp2
 go_ret
 exact ⟨rfl, rfl⟩
theorem comm_abort {st : List Nat} {x : Int} (h : stAt st x = 1) : comm (st.set (x.toNat - 1) 3) = comm st := by
 obtain ⟨h1, h2⟩ := stAt_in (by rw [h]; decide)
 have h3 : x.toNat - 1 < st.length := by omega
 have h4 := yqI h3
 rw [show ((x.toNat - 1 : Nat) : Int) + 1 = x by omega, h] at h4
 rw [comm, comm, List.map_set]
 congr 1
 apply List.ext_getElem?
 intro i
 rw [List.getElem?_set]
 by_cases e : x.toNat - 1 = i
 ·subst e
  simp [h3, <- h4]
 rw [if_neg e]
theorem comm_commit {st : List Nat} {x : Int} (h : stAt st x = 1) : comm (st.set (x.toNat - 1) 2) = (comm st).set x.toNat true := by
 obtain ⟨h1, h2⟩ := stAt_in (by rw [h]; decide)
 rw [comm, comm, List.map_set, show x.toNat = (x.toNat - 1) + 1 by omega, List.set_cons_succ]
 rfl
theorem set_states {st : List Nat} {i s : Nat} (h : ∀ s ∈ st, 1 <= s /\ s <= 3) (hs : 1 <= s /\ s <= 3) : ∀ t ∈ st.set i s, 1 <= t /\ t <= 3 := by
 intro t ht
 rcases List.mem_or_eq_of_mem_set ht with h1 | h1
 ·exact h t h1
 rw [h1]; exact hs
theorem mend_ok {w : World} {B p b : Nat} {v : Value} {st : List Nat} (h : Mg w B p b v st) (x : Int) (hx : (Lit.int .i64 x).wf = true) (hb : stAt st x = 1) :
 Calls Tryz.prog 81 #[.pointer (some ⟨p, 0, none⟩), .int .i64 x] w fun e w' => e = .returned (.int .i64 0) /\ Mg w' B p b v (st.set (x.toNat - 1) 3) /\ Fm B [] w w' := by
 have hlk := look_bool h.hm x hx
 rw [show decide (x ∈ xqp st) = true by rw [decide_eq_true_eq, mem_opens]; exact hb] at hlk
 obtain ⟨c0, c1⟩ := h.cell
 have H := iH h; have hkey := iH (key_of hx); have HM := iH h.hm; have Hb := iH hb
 clear h hx hb
 go_enter Tryz.func81, Tryz.ntmps81
 go_wp2_with (at_delete; refine wpList_delete_own _ rfl _ _ 117 2 rfl 4 keyed Tryz.underlying117 (plainElem Tryz.prog 4) b st.length (Dm (xqp st)) rfl HM.out _ _ rfl hkey.out ?_)
 intro w1 hm1 ht1
 have fm := iH (Fm.turned ht1 [] H.out.bb)
 rw [del_Dm, <- opens_set (s := 3) Hb.out (by decide)] at hm1
 have M := iH hm1
 clear hm1 ht1
 go_wp2
 go_ret
 refine ⟨rfl, ?_, fm.out⟩
 exact { hp := fm.out.heap H.out.hp (by simp), hm := by simpa using M.out, hv := by rw [comm_abort Hb.out, List.length_set]; exact ownsRow_fm H.out.hv fm.out (by simp), bp := H.out.bp, bb := H.out.bb, hl := by simpa using H.out.hl, hs := set_states H.out.hs (by decide) }
theorem mabort_bad {w : World} {B p b : Nat} {v : Value} {st : List Nat} (h : Mg w B p b v st) (x : Int) (hx : (Lit.int .i64 x).wf = true) (hb : stAt st x ≠ 1) :
 Calls Tryz.prog 22 #[.pointer (some ⟨p, 0, none⟩), .int .i64 x] w fun e w' => e = .returned (.int .i64 7) /\ w = w' := by
 have hc := mend_bad h x hx hb
 clear h hx hb
 go_enter Tryz.func22, Tryz.ntmps22
 go_wp2_with (go_at_call 81; refine hc.mono ?_; rintro e w' ⟨rfl, rfl⟩)
 go_ret
 exact ⟨rfl, rfl⟩
theorem mabort_ok {w : World} {B p b : Nat} {v : Value} {st : List Nat} (h : Mg w B p b v st) (x : Int) (hx : (Lit.int .i64 x).wf = true) (hb : stAt st x = 1) :
 Calls Tryz.prog 22 #[.pointer (some ⟨p, 0, none⟩), .int .i64 x] w fun e w' => e = .returned (.int .i64 0) /\ Mg w' B p b v (st.set (x.toNat - 1) 3) /\ Fm B mts w w' := by
 have hc := iH (mend_ok h x hx hb)
 clear h hx hb
 go_enter Tryz.func22, Tryz.ntmps22
 go_wp2_with (go_at_call 81; refine hc.out.mono ?_; rintro e w' ⟨rfl, h1, h2⟩)
 go_ret
 exact ⟨rfl, h1, h2.mono (Nat.le_refl _) (by simp)⟩
theorem mcommit_bad {w : World} {B p b : Nat} {v : Value} {st : List Nat} (h : Mg w B p b v st) (x : Int) (hx : (Lit.int .i64 x).wf = true) (hb : stAt st x ≠ 1) :
 Calls Tryz.prog 21 #[.pointer (some ⟨p, 0, none⟩), .int .i64 x] w fun e w' => e = .returned (.int .i64 7) /\ w = w' := by
 have hc := mend_bad h x hx hb
 clear h hx hb
 go_enter Tryz.func21, Tryz.ntmps21
 go_wp2_with (go_at_call 81; refine hc.mono ?_; rintro e w' ⟨rfl, rfl⟩)
 go_ret
 exact ⟨rfl, rfl⟩
theorem Mg.fz {w : World} {B p b g n cap : Nat} {st : List Nat} (h : Mg w B p b (.slice (some ⟨g, 0, none⟩) n cap) st) (i : Nat) : w.frozen? ⟨g, i, none⟩ = false := by
 obtain ⟨g', cap', e, _, _, cur, hc, _⟩ := h.shape
 simp only [Value.slice.injEq, Option.some.injEq, Addr.mk.injEq] at e
 obtain ⟨⟨rfl, _⟩, _⟩ := e
 exact frozen_of_row _ _ _ _ _ hc
theorem Mg.commit {w : World} {B p b g cap k : Nat} {st : List Nat} (h : Mg w B p b (.slice (some ⟨g, 0, none⟩) (st.length + 1) cap) (st.set (k - 1) 3)) (hb : stAt st k = 1) (h0 : ∀ s ∈ st, 1 <= s /\ s <= 3) :
 Mg (w.setCell ⟨g, k, none⟩ (.bool true)) B p b (.slice (some ⟨g, 0, none⟩) (st.length + 1) cap) (st.set (k - 1) 2) /\ Fr B [4] w (w.setCell ⟨g, k, none⟩ (.bool true)) := by
 obtain ⟨h1, h2⟩ := stAt_in (by rw [hb]; decide : stAt st k ≠ 0)
 obtain ⟨g', cap', e, hgB, hcap, cur, hc, hsz, htk⟩ := h.shape
 simp only [Value.slice.injEq, Option.some.injEq, Addr.mk.injEq, List.length_set] at e
 obtain ⟨⟨rfl, _⟩, _, rfl⟩ := e
 have f3 : Fr B [4] w (w.setCell ⟨g, k, none⟩ (.bool true)) := (Fr.refl B _ w).setCell hc (.inr ⟨hgB, by simp⟩) k _
 have e3 : comm (st.set (k - 1) 3) = comm st := by have := comm_abort hb; rwa [Int.toNat_natCast] at this
 have e2 : comm (st.set (k - 1) 2) = (comm st).set k true := by have := comm_commit hb; rwa [Int.toNat_natCast] at this
 have o3 : xqp (st.set (k - 1) 3) = xqp (st.set (k - 1) 2) := by
  have a := opens_set (s := 3) hb (by decide)
  have b := opens_set (s := 2) hb (by decide)
  rw [Int.toNat_natCast] at a b
  rw [a, b]
 have hl : st.length < 1048576 := by simpa using h.hl
 refine ⟨{ hp := f3.heap h.hp (by decide), hm := ?_, hv := ?_, bp := h.bp, bb := h.bb, hl := by simpa using hl, hs := set_states h0 (by decide) }, f3⟩
 ·have := yqC h.hm f3
  rw [<- o3, List.length_set]
  simpa using this
 ·rw [e2, List.length_set]
  rw [e3, List.length_set] at htk
  refine ⟨by simp [bls_length, comm_length], .inr ⟨g, cap, _, rfl, hgB, xqb hc k _, by simpa using hcap, ?_, ?_, ?_⟩⟩
  ·rcases h.hv.2 with ⟨h9, _⟩ | ⟨_, _, _, e, _, _, _, hcm, _⟩
   ·cases h9
   simp only [Value.slice.injEq] at e
   obtain ⟨_, _, rfl⟩ := e
   exact hcm
  ·simpa using hsz
  rw [Array.toList_setIfInBounds, Nat.mul_one, List.take_set, htk, bls, bls, List.map_set]
theorem mcommit_ok {w : World} {B p b : Nat} {v : Value} {st : List Nat} (h : Mg w B p b v st) (x : Int) (hx : (Lit.int .i64 x).wf = true) (hb : stAt st x = 1) :
 Calls Tryz.prog 21 #[.pointer (some ⟨p, 0, none⟩), .int .i64 x] w fun e w' => e = .returned (.int .i64 0) /\ Mg w' B p b v (st.set (x.toNat - 1) 2) /\ Fm B mts w w' := by
 have hc := iH (mend_ok h x hx hb)
 obtain ⟨h1, h2⟩ := stAt_in (by rw [hb]; decide : stAt st x ≠ 0)
 obtain ⟨k, hk⟩ : ∃ k : Nat, x = k := ⟨x.toNat, by omega⟩
 subst hk
 have Hb := iH hb
 have H0 := iH h.hs
 have h3 : (k : Int) < (st.length : Int) + 1 := by omega
 have h4 : ¬ (k : Int) < 0 := by omega
 obtain ⟨g, cap, rfl, hgB, hcap, _⟩ := h.shape
 rw [Int.toNat_natCast] at hc ⊢
 have H12 := iH (And.intro h1 h2)
 clear h hx hb hcap h1 h2
 go_enter Tryz.func21, Tryz.ntmps21
 go_wp2_with fail
 refine hc.out.mono ?_
 rintro e w1 ⟨rfl, hm, hf⟩
 have c1 := hm.cell.2
 have fz := hm.fz k
 have hu : w1.cell? ⟨g, k, none⟩ = some (.bool (stAt (st.set (k - 1) 3) k == 2)) := by
  obtain ⟨_, _, e, _⟩ := hm.shape
  simp only [Value.slice.injEq, List.length_set] at e
  obtain ⟨_, _, rfl⟩ := e
  have h : Mg w1 B p b (.slice (some ⟨g, 0, none⟩) ((st.set (k - 1) 3).length + 1) cap) (st.set (k - 1) 3) := by rw [List.length_set]; exact hm
  exact h.cell_at (by have := H12.out; rw [List.length_set]; omega)
 obtain ⟨u, hu'⟩ : ∃ u : Bool, u = (stAt (st.set (k - 1) 3) k == 2) := ⟨_, rfl⟩
 rw [<- hu'] at hu
 have M := iH hm; have F := iH hf
 clear hm hf hu'
 go_wp2
 go_ret
 obtain ⟨m2, f2⟩ := M.out.commit Hb.out H0.out
 exact ⟨rfl, m2, (F.out.mono (Nat.le_refl _) (by simp)).trans (Fm.ofFr (f2.mono (Nat.le_refl _) (by simp [mts])))⟩
end Go.Proofs.YticiofkiffgclaaGreat
