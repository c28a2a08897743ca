/-
  Dqe in one text.
-/
import Derived.Test.YticiofkiffgclaaGreatNr40
namespace Go.Proofs.YticiofkiffgclaaGreat
set_option linter.unusedVariables false
open Go.RowKit Go.Maps

structure EvW (e : Ev) : Prop where
  tx : -100 ≤ e.tx ∧ e.tx ≤ 100000
  tr : 0 ≤ e.tr ∧ e.tr ≤ 2147483647
  id : -100000 ≤ e.id ∧ e.id ≤ 100000
theorem EvW.wf {e : Ev} (h : EvW e) : (Lit.int .i64 e.tx).wf = true := wf_i64 (by have := h.tx; omega)
theorem EvW.tr0 {e : Ev} (h : EvW e) : -9223372036854775808 ≤ e.tr := by have := h.tr; omega
theorem trN_le {n : Int} (h : 0 ≤ n ∧ n ≤ 2147483647) : 0 ≤ trN n ∧ trN n ≤ 2147483647 := by unfold trN; split <;> omega
theorem EvW.addX {e : Ev} (h : EvW e) (ow : ByteArray) (at' : Int) : EvW (addX e ow at').e := ⟨h.tx, trN_le h.tr, h.id⟩
theorem EvW.setTx {e : Ev} (h : EvW e) {x : Int} (hx : -100 ≤ x ∧ x ≤ 100000) : EvW (setTx x e) := ⟨hx, h.tr, h.id⟩

structure SzQ (k : Nat) (q : Qs) : Prop where
  ok : OkQ q
  oki : OkI q.rs
  len : lenN q.l ≤ 16 * k
  nx : 1 ≤ q.nx ∧ q.nx ≤ (k : Int) + 1
  ev : ∀ e ∈ pre q.l 3, EvW e
  it : ∀ x ∈ q.rs, EvW x.e
  last : lastN q.ps ≤ k

theorem SzQ.mono {k k' : Nat} {q : Qs} (h : SzQ k q) (hk : k ≤ k') : SzQ k' q := ⟨h.ok, h.oki, by have := h.len; omega, by have := h.nx; omega, h.ev, h.it, by have := h.last; omega⟩
theorem SzQ.new : SzQ 0 Qs.new := ⟨OkQ.new, OkI.nil, by simp [lenN, Qs.new], by simp [Qs.new], by simp [Qs.new, pre], by simp [Qs.new], by simp [Qs.new, lastN]⟩
theorem lenN_ge (l : Nat → List Ev) {i : Nat} (hi : i < 3) : (l i).length ≤ lenN l := by
  unfold lenN
  have : i = 0 ∨ i = 1 ∨ i = 2 := by omega
  rcases this with rfl | rfl | rfl <;> omega
theorem SzQ.table {k : Nat} {q : Qs} (h : SzQ k q) {i : Nat} (hi : i < 3) : (q.l i).length ≤ 16 * k := Nat.le_trans (lenN_ge q.l hi) h.len
theorem pre_lenN (l : Nat → List Ev) : (pre l 3).length = lenN l := by simp [pre, lenN]; omega
theorem SzQ.all {k : Nat} {q : Qs} (h : SzQ k q) : (allE q).length ≤ 16 * k ∧ ∀ e ∈ allE q, EvW e := by
  refine ⟨?_, fun e he => h.ev e (srtQ_mem.1 he)⟩
  unfold allE
  rw [srt_length, pre_lenN]
  exact h.len
theorem SzQ.bat {k : Nat} {q : Qs} (h : SzQ k q) (st : List Nat) (n : ByteArray) : (batV st q n).length ≤ 16 * k ∧ ∀ e ∈ batV st q n, EvW e := by
  unfold batV
  split
  · simp
  · split
    · simp
    · refine ⟨?_, fun e he => ?_⟩
      · rw [srt_length]
        exact Nat.le_trans (List.length_filter_le _ _) h.all.1
      · rw [srtQ_mem, List.mem_filter] at he
        exact h.all.2 e he.1
theorem lenN_upd (l : Nat → List Ev) {c : Nat} (hc : c < 3) (m : List Ev) : lenN (upd l c (l c ++ m)) = lenN l + m.length := by
  unfold lenN
  have : c = 0 ∨ c = 1 ∨ c = 2 := by omega
  rcases this with rfl | rfl | rfl
  · simp [upd]; omega
  · simp [upd]; omega
  · simp [upd]; omega
theorem mem_upd {l : Nat → List Ev} {c : Nat} {m : List Ev} {e : Ev} (h : e ∈ pre (upd l c (l c ++ m)) 3) : e ∈ pre l 3 ∨ e ∈ m := by
  obtain ⟨i, hi, hm⟩ := mem_pre3.1 h
  by_cases hic : i = c
  · subst hic
    rw [upd_same] at hm
    rcases List.mem_append.1 hm with hm | hm
    · exact .inl (mem_pre3.2 ⟨i, hi, hm⟩)
    · exact .inr hm
  · rw [upd_ne _ _ hic] at hm
    exact .inl (mem_pre3.2 ⟨i, hi, hm⟩)

theorem SzQ.wri {k : Nat} {q : Qs} (h : SzQ k q) (hk : k < 1000) {x : Int} (hx : -100 ≤ x ∧ x ≤ 100000) (tb kd key : Int) (t : ByteArray) : SzQ (k + 1) (wriQ q x tb kd key t) ∧ (wriQ q x tb kd key t).nx = q.nx + 1 := by
  have hw : wrap64 (q.nx + 1) = q.nx + 1 := by have := h.nx; unfold wrap64; omega
  have e1 : (wriQ q x tb kd key t).nx = q.nx + 1 := hw
  refine ⟨⟨h.ok.wri x tb kd key t, h.oki, ?_, by rw [e1]; have := h.nx; omega, ?_, h.it, by have := h.last; show lastN q.ps ≤ _; omega⟩, e1⟩
  · show lenN (upd q.l q.c (q.l q.c ++ [wriV q x tb kd key t])) ≤ _
    rw [lenN_upd _ h.ok.c3]
    have := h.len
    simp only [List.length_singleton]
    omega
  · intro e he
    rcases mem_upd he with he | he
    · exact h.ev e he
    · obtain rfl := List.mem_singleton.1 he
      have := h.nx
      exact ⟨hx, by show (0 : Int) ≤ 0 ∧ (0 : Int) ≤ 2147483647; omega, by show -100000 ≤ q.nx ∧ q.nx ≤ 100000; omega⟩
theorem SzQ.tck {k : Nat} {q : Qs} (h : SzQ k q) {M : Int} {l : List Int} (now : Int) (hM : M ≤ 9223372036854775807) (hl : l.length ≤ 1000) : SzQ (k + 1) (tckQ q M l now) := by
  have h1 := h.len
  have h2 := h.nx
  have h3 := h.last
  refine ⟨h.ok.tck now hM hl, h.oki, by show lenN q.l ≤ _; omega, by show 1 ≤ q.nx ∧ q.nx ≤ _; omega, h.ev, h.it, ?_⟩
  show lastN (addS q.ps M l now) ≤ _
  rw [lastN_add]
  split <;> omega
theorem SzQ.rgs {k : Nat} {q : Qs} (h : SzQ k q) (n : ByteArray) : SzQ k (rgsQ q n) := by
  have := h.ok.rgs n
  unfold rgsQ at this ⊢
  split
  · exact h
  · rename_i h0
    rw [if_neg h0] at this
    exact ⟨this, h.oki, h.len, h.nx, h.ev, h.it, h.last⟩
theorem SzQ.nxt {k : Nat} {q : Qs} (h : SzQ k q) (n : ByteArray) : SzQ k (nxtQ q n) := by
  have := h.ok.nxt n
  unfold nxtQ at this ⊢
  cases ho : nxtO q n with
  | none => exact h
  | some p =>
    rw [ho] at this
    exact ⟨this, h.oki, h.len, h.nx, h.ev, h.it, h.last⟩
theorem SzQ.fns {k : Nat} {q : Qs} (h : SzQ k q) (n : ByteArray) : SzQ k (fnsQ q n) := ⟨h.ok.fns n, h.oki, h.len, h.nx, h.ev, h.it, h.last⟩
theorem agnO_mem {st : List Nat} {q : Qs} {n : ByteArray} {id : Int} {e : Ev} (h : agnO st q n id = some e) : e ∈ batV st q n ∧ e.id = id := by
  unfold agnO at h
  exact ⟨List.mem_of_find?_eq_some h, by simpa using List.find?_some h⟩
theorem SzQ.rty {k : Nat} {q : Qs} (h : SzQ k q) (st : List Nat) (n : ByteArray) (id at' : Int) : SzQ k (rtyQ st q n id at') := by
  have ho := h.ok.rty st n id at'
  unfold rtyQ at ho ⊢
  split
  · rename_i h0
    rw [if_pos h0] at ho
    cases ha : agnO st q n id with
    | none => exact h
    | some e =>
      rw [ha] at ho
      refine ⟨ho, h.oki.add e n at', h.len, h.nx, h.ev, ?_, h.last⟩
      exact adiL_all (P := fun x => EvW x.e) h.it (((h.bat st n).2 e (agnO_mem ha).1).addX n at')
  · exact h
theorem mntV_len {k : Nat} {q : Qs} (h : SzQ k q) (x now : Int) : (mntV q x now).length ≤ 16 := by
  unfold mntV
  rw [List.length_map, evs_length]
  exact Nat.le_trans (List.length_filter_le _ _) h.oki.few
theorem mntV_ev {k : Nat} {q : Qs} (h : SzQ k q) {x : Int} (hx : -100 ≤ x ∧ x ≤ 100000) (now : Int) : ∀ e ∈ mntV q x now, EvW e := by
  intro e he
  unfold mntV evs at he
  obtain ⟨y, hy, rfl⟩ := List.mem_map.1 he
  obtain ⟨z, hz, rfl⟩ := List.mem_map.1 hy
  exact (h.it z (List.mem_filter.1 hz).1).setTx hx
theorem SzQ.mnt {k : Nat} {q : Qs} (h : SzQ k q) {x : Int} (hx : -100 ≤ x ∧ x ≤ 100000) (now : Int) : SzQ (k + 1) (mntQ q x now) := by
  have h1 := h.len
  have h2 := h.nx
  have h3 := h.last
  refine ⟨h.ok.mnt x now, h.oki.lft now, ?_, by show 1 ≤ q.nx ∧ q.nx ≤ _; omega, ?_, fun y hy => h.it y (List.mem_filter.1 hy).1, by show lastN q.ps ≤ _; omega⟩
  · show lenN (upd q.l q.c (q.l q.c ++ mntV q x now)) ≤ _
    rw [lenN_upd _ h.ok.c3]
    have := mntV_len h x now
    omega
  · intro e he
    rcases mem_upd he with he | he
    · exact h.ev e he
    · exact mntV_ev h hx now e he
end Go.Proofs.YticiofkiffgclaaGreat
