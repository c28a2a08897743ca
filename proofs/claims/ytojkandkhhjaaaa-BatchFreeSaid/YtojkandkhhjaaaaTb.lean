/-
  The frame 'Fm B ts' (of what was there only maps from B on, and blocks from B on of a type of ts, may have turned), what a manager in memory is ('Mg'), looking into its map.
-/
import Derived.Test.YtojkandkhhjaaaaRows
import Derived.Test.YtojkandkhhjaaaaTa
import Derived.RegionTactic
import Derived.Outline
namespace Go.Proofs.Ytojkandkhhjaaaa
open Go.RowKit Go.Maps

/-- Of the blocks that were there only such have turned as lie from B on and are a map, or bear a type of ts; they stay such. -/
structure Fm (B : Nat) (ts : List TypeId) (w w' : World) : Prop where
  os : w'.os = w.os
  tape : w'.tape = w.tape
  output : w'.output = w.output
  size : w.heap.size ≤ w'.heap.size
  block : ∀ k, k < w.heap.size → w'.heap[k]? = w.heap[k]? ∨ (B ≤ k ∧ ((∃ cs cs' t fz, t ∈ ts ∧ w.heap[k]? = some (.cells cs t fz) ∧ w'.heap[k]? = some (.cells cs' t fz)) ∨ ∃ es c es' c', w.heap[k]? = some (.map es c) ∧ w'.heap[k]? = some (.map es' c')))

theorem Fm.refl (B : Nat) (ts : List TypeId) (w : World) : Fm B ts w w := ⟨rfl, rfl, rfl, Nat.le_refl _, fun _ _ => .inl rfl⟩

theorem Fm.trans {B : Nat} {ts : List TypeId} {a b c : World} (h : Fm B ts a b) (k : Fm B ts b c) : Fm B ts a c := by
  refine ⟨k.os.trans h.os, k.tape.trans h.tape, k.output.trans h.output, Nat.le_trans h.size k.size, fun i hi => ?_⟩
  rcases h.block i hi with h1 | ⟨hB, ⟨cs, cs', t, fz, ht, h1, h2⟩ | ⟨es, d, es', d', h1, h2⟩⟩
  · rcases k.block i (Nat.lt_of_lt_of_le hi h.size) with k1 | ⟨hB, ⟨cs, cs', t, fz, ht, k1, k2⟩ | ⟨es, d, es', d', k1, k2⟩⟩
    · exact .inl (k1.trans h1)
    · exact .inr ⟨hB, .inl ⟨cs, cs', t, fz, ht, h1 ▸ k1, k2⟩⟩
    · exact .inr ⟨hB, .inr ⟨es, d, es', d', h1 ▸ k1, k2⟩⟩
  · rcases k.block i (Nat.lt_of_lt_of_le hi h.size) with k1 | ⟨_, ⟨ds, ds', t', fz', ht', k1, k2⟩ | ⟨es, d, es', d', k1, k2⟩⟩
    · exact .inr ⟨hB, .inl ⟨cs, cs', t, fz, ht, h1, k1.trans h2⟩⟩
    · rw [h2] at k1
      injection k1 with k1
      injection k1 with _ e1 e2
      subst e1; subst e2
      exact .inr ⟨hB, .inl ⟨cs, ds', t, fz, ht, h1, k2⟩⟩
    · rw [h2] at k1; cases k1
  · rcases k.block i (Nat.lt_of_lt_of_le hi h.size) with k1 | ⟨_, ⟨ds, ds', t', fz', ht', k1, k2⟩ | ⟨fs, f, fs', f', k1, k2⟩⟩
    · exact .inr ⟨hB, .inr ⟨es, d, es', d', h1, k1.trans h2⟩⟩
    · rw [h2] at k1; cases k1
    · exact .inr ⟨hB, .inr ⟨es, d, fs', f', h1, k2⟩⟩

theorem Fm.mono {B B' : Nat} {ts ts' : List TypeId} {a b : World} (h : Fm B ts a b) (hB : B' ≤ B) (hs : ∀ t, t ∈ ts → t ∈ ts') : Fm B' ts' a b :=
  ⟨h.os, h.tape, h.output, h.size, fun k hk => (h.block k hk).imp id fun ⟨hb, r⟩ => ⟨by omega, r.imp (fun ⟨cs, cs', t, fz, ht, r⟩ => ⟨cs, cs', t, fz, hs t ht, r⟩) id⟩⟩

/-- Blocks that came later than a's do not count. -/
theorem Fm.later {B B' : Nat} {ts ts' : List TypeId} {a b c : World} (h : Fm B ts a b) (k : Fm B' ts' b c) (hB : a.heap.size ≤ B') : Fm B ts a c := by
  refine ⟨k.os.trans h.os, k.tape.trans h.tape, k.output.trans h.output, Nat.le_trans h.size k.size, fun i hi => ?_⟩
  rcases k.block i (Nat.lt_of_lt_of_le hi h.size) with k1 | ⟨hb, _⟩
  · rw [k1]; exact h.block i hi
  · omega

theorem Fm.ofFr {B : Nat} {ts : List TypeId} {a b : World} (h : Fr B ts a b) : Fm B ts a b :=
  ⟨h.os, h.tape, h.output, h.size, fun k hk => (h.block k hk).imp id fun ⟨hb, r⟩ => ⟨hb, .inl r⟩⟩

theorem Fm.ofKept {w w' : World} (h : Kept w w' []) (B : Nat) (ts : List TypeId) : Fm B ts w w' := Fm.ofFr (Fr.ofKept h B ts)

theorem Fm.below {B : Nat} {ts : List TypeId} {w w' : World} (h : Fm B ts w w') {C : Nat} (hC : C ≤ w.heap.size) (hB : C ≤ B) : Below C w w' :=
  ⟨h.os, h.tape, h.output, h.size, fun k hk => (h.block k (by omega)).resolve_right (fun ⟨hb, _⟩ => by omega)⟩

/-- Where nothing that was there has turned. -/
theorem Fm.kept {B : Nat} {ts : List TypeId} {w w' : World} (h : Fm B ts w w') (hB : w.heap.size ≤ B) : Kept w w' [] :=
  ⟨h.os, h.tape, h.output, h.size, fun k hk _ => (h.block k hk).resolve_right (fun ⟨hb, _⟩ => by omega)⟩

/-- A block of another type stands. -/
theorem Fm.heap {B : Nat} {ts : List TypeId} {w w' : World} (h : Fm B ts w w') {k : Nat} {cs : Array Value} {t : TypeId} {fz : Nat × Nat} (hk : w.heap[k]? = some (.cells cs t fz)) (ht : t ∉ ts) : w'.heap[k]? = some (.cells cs t fz) := by
  rcases h.block k (heap_lt hk) with h1 | ⟨_, ⟨ds, ds', t', fz', ht', h1, _⟩ | ⟨es, d, es', d', h1, _⟩⟩
  · exact h1.trans hk
  · rw [hk] at h1
    injection h1 with h1
    injection h1 with _ e1
    subst e1
    exact absurd ht' ht
  · rw [hk] at h1; cases h1

/-- A block below B stands. -/
theorem Fm.heapLt {B : Nat} {ts : List TypeId} {w w' : World} (h : Fm B ts w w') {k : Nat} {o : Obj} (hk : w.heap[k]? = some o) (hB : k < B) : w'.heap[k]? = some o := by
  rcases h.block k (heap_lt hk) with h1 | ⟨hb, _⟩
  · exact h1.trans hk
  · omega

/-- A map has turned, nothing else. -/
theorem Fm.turned {w w' : World} {b B : Nat} (h : w.mapTurned w' b) (ts : List TypeId) (hb : B ≤ b) : Fm B ts w w' := by
  obtain ⟨es, c, es', c', h1, rfl⟩ := h
  refine ⟨rfl, rfl, rfl, by simp [ChangeMaps.setBlock], fun k hk => ?_⟩
  by_cases e : k = b
  · subst e
    exact .inr ⟨hb, .inr ⟨es, c, es', c', h1, ChangeMaps.heap_setBlock_same h1 _⟩⟩
  · exact .inl (ChangeMaps.heap_setBlock_other h1 _ e)

theorem ownsRow_fm {w w' : World} {base e size n B : Nat} {ts : List TypeId} {v : Value} {xs : List Value} (h : w.ownsRow base e size v n xs) (hf : Fm B ts w w') (he : e ∉ ts) : w'.ownsRow base e size v n xs := by
  refine ⟨h.1, ?_⟩
  rcases h.2 with h2 | ⟨g, cap, cur, rfl, hbg, hg, r⟩
  · exact .inl h2
  · exact .inr ⟨g, cap, cur, rfl, hbg, hf.heap hg he, r⟩

theorem ownsRow_fr {w w' : World} {base e size n B : Nat} {ts : List TypeId} {v : Value} {xs : List Value} (h : w.ownsRow base e size v n xs) (hf : Fr B ts w w') (he : e ∉ ts) : w'.ownsRow base e size v n xs := ownsRow_fm h (Fm.ofFr hf) he

/-- A map stands where only cells have turned. -/
theorem ownsMap_fr {H : Type} {P : Program} {k : TypeId} {R : Value → Option (DataW H × List MemPlace)} {w w' : World} {b n B : Nat} {ts : List TypeId} {D : DataW H} (h : w.ownsMap P k R b n D) (hf : Fr B ts w w') : w'.ownsMap P k R b n D := by
  obtain ⟨es, c, hb, r⟩ := h
  refine ⟨es, c, ?_, r⟩
  rcases hf.block b (heap_lt hb) with h1 | ⟨_, cs, cs', t, fz, _, h1, _⟩
  · exact h1.trans hb
  · rw [hb] at h1; cases h1

theorem keyed : Keyed Try.prog 2 := int_keyed Try.underlying2
theorem wf_i64 {x : Int} (h : -9223372036854775808 ≤ x ∧ x < 9223372036854775808) : (Lit.int .i64 x).wf = true := by
  have h1 : IntKind.i64.min = -9223372036854775808 := rfl
  have h2 : IntKind.i64.max = 9223372036854775807 := rfl
  simp only [Lit.wf, h1, h2, Bool.and_eq_true, decide_eq_true_eq]
  omega
theorem i64_wf {x : Int} (h : (Lit.int .i64 x).wf = true) : -9223372036854775808 ≤ x ∧ x < 9223372036854775808 := by
  have h1 : IntKind.i64.min = -9223372036854775808 := rfl
  have h2 : IntKind.i64.max = 9223372036854775807 := rfl
  simp only [Lit.wf, h1, h2, Bool.and_eq_true, decide_eq_true_eq] at h
  omega
theorem key_of {x : Int} (h : (Lit.int .i64 x).wf = true) : keyOf Try.prog 2 (.int .i64 x) = some (.int .i64 x) := keyOf_int_mk Try.underlying2 h
theorem plainElem_bool_inv {H : Type} {P : Program} {e : TypeId} (he : P.underlying e = some .bool) {v : Value} {z : DataW H × List MemPlace} (h : plainElem P e v = some z) : ∃ x, v = .bool x ∧ z = (.lit (.bool x), []) := by
  unfold plainElem at h
  rw [he] at h
  cases v <;> simp at h
  exact ⟨_, rfl, h.symm⟩

/-- A map of numbers to bools, of the call's own. -/
abbrev Mp (w : World) (b n : Nat) (l : List Int) : Prop := w.ownsMap Try.prog 2 (plainElem Try.prog 4) b n (Dm l)

theorem look_bool {w : World} {b n : Nat} {l : List Int} (h : Mp w b n l) (x : Int) (hx : (Lit.int .i64 x).wf = true) :
    (Instr.lookup 75 (.map (some b)) (.int .i64 x) false).run Try.prog w = .ok (.bool (decide (x ∈ l))) w := by
  have hz : (zeroValue 4).run Try.prog w = .ok (.bool false) w := Try.zeroValue4 w
  obtain ⟨v, ps, hrun, hv⟩ := h.lookup keyed Try.underlying75 hz (plainElem_bool Try.underlying4 false) (key_of hx)
  rw [at_Dm] at hv
  obtain ⟨y, rfl, hy⟩ := plainElem_bool_inv Try.underlying4 hv
  simp only [Prod.mk.injEq, DataW.lit.injEq, Lit.bool.injEq] at hy
  have e : decide (x ∈ l) = y := hy.1
  rw [e]
  exact hrun

end Go.Proofs.Ytojkandkhhjaaaa
