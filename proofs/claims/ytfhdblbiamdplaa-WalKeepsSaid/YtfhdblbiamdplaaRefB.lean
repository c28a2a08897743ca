/-
  The contracts of the document's own answers for layer 3 (carrierref03), first part: what its device in memory is ('Rf'); New, Put.
-/
import Derived.Test.YtfhdblbiamdplaaR01
import Derived.Test.YtfhdblbiamdplaaDev
import Derived.Test.YtfhdblbiamdplaaDRead
import Derived.RegionTactic
import Derived.Deep.RegionHeld3
namespace Go.Proofs.Ytfhdblbiamdplaa
open Go.RowKit

theorem Try.infoQ : (Try.prog.info? 108).map (fun i => (i.zero, i.size, i.bytes)) = some (some (.agg #[.int .i64 0, .slice none 0 0]), 2, 32) := by kernel_rfl

/-- The cells of writes that wait: each a block's number and a slice. -/
def qcells (xs : List (Nat × Value)) : List Value := xs.flatMap fun x => [.int .i64 x.1, x.2]

theorem qcells_length (xs : List (Nat × Value)) : (qcells xs).length = xs.length * 2 := by
  induction xs with
  | nil => rfl
  | cons x r ih => simp [qcells] at ih ⊢; omega

theorem qcells_at (xs : List (Nat × Value)) : ∀ (i : Nat) (hi : i < xs.length), (qcells xs)[2 * i]? = some (.int .i64 xs[i].1) ∧ (qcells xs)[2 * i + 1]? = some xs[i].2 := by
  induction xs with
  | nil => intro i hi; simp at hi
  | cons x r ih =>
    intro i hi
    have e : qcells (x :: r) = .int .i64 x.1 :: x.2 :: qcells r := rfl
    rw [e]
    cases i with
    | zero => exact ⟨rfl, rfl⟩
    | succ i =>
      have := ih i (by simpa using hi)
      have e1 : 2 * (i + 1) = 2 * i + 1 + 1 := by omega
      rw [e1]
      simpa using this

/-- The writes in memory are those that are told. -/
def Wq (w : World) (B : Nat) (xs : List (Nat × Value)) (ws : List (Nat × List UInt8)) : Prop :=
  xs.length = ws.length ∧ ∀ (i : Nat) (h : i < xs.length) (h' : i < ws.length), xs[i].1 = ws[i].1 ∧ Rb w B 5 xs[i].2 ws[i].2

theorem Wq.frame {w w' : World} {B C : Nat} {ts : List TypeId} {xs : List (Nat × Value)} {ws : List (Nat × List UInt8)} (h : Wq w B xs ws) (hf : Fr C ts w w') (hB : B ≤ C) (ht : 5 ∉ ts) : Wq w' B xs ws :=
  ⟨h.1, fun i h1 h2 => ⟨(h.2 i h1 h2).1, (h.2 i h1 h2).2.frame hf hB ht⟩⟩

theorem Wq.snoc {w : World} {B : Nat} {xs : List (Nat × Value)} {ws : List (Nat × List UInt8)} (h : Wq w B xs ws) (i : Nat) (v : Value) (l : List UInt8) (hv : Rb w B 5 v l) : Wq w B (xs ++ [(i, v)]) (ws ++ [(i, l)]) := by
  refine ⟨by simp [h.1], fun j h1 h2 => ?_⟩
  by_cases hj : j < xs.length
  · have := h.2 j hj (by rw [← h.1]; exact hj)
    rw [List.getElem_append_left hj, List.getElem_append_left (by rw [← h.1]; exact hj)]
    exact this
  · have e : j = xs.length := by simp at h1; omega
    subst e
    have e2 : xs.length = ws.length := h.1
    simp [e2]
    exact hv

/-- The document's device at block q: its bytes that are safe in vs, its writes that wait in vw. -/
structure Rf (w : World) (B q : Nat) (vs vw : Value) (n : Nat) (safe : List UInt8) (ws : List (Nat × List UInt8)) : Prop where
  hq : w.heap[q]? = some (.cells #[vs, vw] 52 (0, 0))
  hs : Own w B 5 vs safe
  hw : ∃ xs, w.ownsRow B 108 2 vw ws.length (qcells xs) ∧ Wq w B xs ws
  bq : B ≤ q
  n12 : n ≤ 4096
  ls : safe.length = 32 * n
  ok : Okw n ws

/-- The types of its blocks that may be written. -/
def rts : List TypeId := [52, 108]

theorem Own.frame {w w' : World} {base B : Nat} {e : TypeId} {ts : List TypeId} {v : Value} {l : List UInt8} (h : Own w base e v l) (hf : Fr B ts w w') (he : e ∉ ts) : Own w' base e v l := by
  refine ⟨h.1, ?_⟩
  rcases h.2 with h2 | ⟨g, cap, cur, rfl, hbg, hg, r⟩
  · exact .inl h2
  · exact .inr ⟨g, cap, cur, rfl, hbg, hf.heap hg he, r⟩

theorem Rf.frame {w w' : World} {B q n C : Nat} {vs vw : Value} {safe : List UInt8} {ws : List (Nat × List UInt8)} {ts : List TypeId} (h : Rf w B q vs vw n safe ws) (hf : Fr C ts w w') (hC : B ≤ C)
    (h1 : 52 ∉ ts) (h2 : 108 ∉ ts) (h3 : 5 ∉ ts) : Rf w' B q vs vw n safe ws := by
  obtain ⟨xs, h4, h5⟩ := h.hw
  have h4' : w'.ownsRow B 108 2 vw ws.length (qcells xs) := by
    refine ⟨h4.1, ?_⟩
    rcases h4.2 with h6 | ⟨g, cap, cur, rfl, hbg, hg, r⟩
    · exact .inl h6
    · exact .inr ⟨g, cap, cur, rfl, hbg, hf.heap hg h2, r⟩
  exact { h with hq := hf.heap h.hq h1, hs := h.hs.frame hf h3, hw := ⟨xs, h4', h5.frame hf hC h3⟩ }

theorem Rf.cell0 {w : World} {B q n : Nat} {vs vw : Value} {safe : List UInt8} {ws : List (Nat × List UInt8)} (h : Rf w B q vs vw n safe ws) : w.cell? ⟨q, 0, none⟩ = some vs := by simpa using cell_of_row w q 0 _ _ _ h.hq
theorem Rf.cell1 {w : World} {B q n : Nat} {vs vw : Value} {safe : List UInt8} {ws : List (Nat × List UInt8)} (h : Rf w B q vs vw n safe ws) : w.cell? ⟨q, 1, none⟩ = some vw := by simpa using cell_of_row w q 1 _ _ _ h.hq
theorem Rf.frozen {w : World} {B q n : Nat} {vs vw : Value} {safe : List UInt8} {ws : List (Nat × List UInt8)} (h : Rf w B q vs vw n safe ws) (j : Nat) : w.frozen? ⟨q, j, none⟩ = false := frozen_of_row _ _ _ _ _ h.hq

set_option maxHeartbeats 1000000 in
set_option maxRecDepth 100000 in
theorem rnew_any (n : Int) (w : World) :
    Calls Try.prog 16 #[.int .i64 n] w fun e w' => ∃ q vs, e = .returned (.pointer (some ⟨q, 0, none⟩)) ∧ Rf w' w.heap.size q vs (.slice none 0 0) (clampN n) (noughts (clampN n)) [] ∧ Kept w w' [] := by
  obtain ⟨k, hk, hk2⟩ : ∃ k, k = clampN n ∧ k ≤ 4096 := ⟨_, rfl, by unfold clampN; omega⟩
  rw [← hk]
  have hmk := mk_bytes (32 * k) (by omega)
  have fin : ∀ w1 : World, w1 = w.alloc (.cells (bc (noughts k)).toArray 5) → Rf (w1.alloc (.cells #[.slice (some ⟨w.heap.size, 0, none⟩) (32 * k) (32 * k), .slice none 0 0] 52)) w.heap.size w1.heap.size (.slice (some ⟨w.heap.size, 0, none⟩) (32 * k) (32 * k)) (.slice none 0 0) k (noughts k) [] ∧ w1.heap.size = w.heap.size + 1 ∧
      Kept w (w1.alloc (.cells #[.slice (some ⟨w.heap.size, 0, none⟩) (32 * k) (32 * k), .slice none 0 0] 52)) [] := by
    rintro w1 rfl
    refine ⟨{ hq := heap_alloc_new _ _, hs := ?_, hw := ⟨[], World.ownsRow_nil _ _ _ _, rfl, fun i h => by simp at h⟩, bq := by simp, n12 := hk2, ls := by simp [noughts], ok := fun x hx => by simp at hx }, by simp, ((Kept.refl w []).alloc _).alloc _⟩
    exact own_block ((Below.heap_alloc _ _ _ (by simp)).trans (heap_alloc_new w _)) (Nat.le_refl _) (by simp [noughts]) (by unfold maxLen; omega)
  obtain ⟨f1, f2, f3⟩ := fin _ rfl
  rw [f2] at f1
  have F1 := Lib.hid f1; have F3 := Lib.hid f3
  clear fin f1 f2 f3
  by_cases h1 : n < 0
  · have e : k = 0 := by unfold clampN at hk; omega
    have Hk := Lib.hid e; clear hk e
    have hmk0 : ∀ w : World, (Instr.makeSlice 36 (.int .i64 0) (.int .i64 0)).run Try.prog w = .ok (.slice (some ⟨w.heap.size, 0, none⟩) (32 * k) (32 * k)) (w.alloc (.cells (bc (noughts k)).toArray 5)) := by
      intro w; rw [noughts, ← hmk w, Hk.out]; rfl
    clear hmk
    go_enter Try.func16, Try.ntmps16
    go_wp2
    go_ret
    first | exact ⟨_, _, rfl, F1.out, F3.out⟩ | exact ⟨_, rfl, ⟨_, F1.out⟩, F3.out⟩
  · by_cases h2 : 4096 < n
    · have e : k = 4096 := by unfold clampN at hk; omega
      have Hk := Lib.hid e; clear hk e
      have hmk0 : ∀ w : World, (Instr.makeSlice 36 (.int .i64 131072) (.int .i64 131072)).run Try.prog w = .ok (.slice (some ⟨w.heap.size, 0, none⟩) (32 * k) (32 * k)) (w.alloc (.cells (bc (noughts k)).toArray 5)) := by
        intro w; rw [noughts, ← hmk w, Hk.out]; rfl
      clear hmk
      go_enter Try.func16, Try.ntmps16
      go_wp2
      go_ret
      first | exact ⟨_, _, rfl, F1.out, F3.out⟩ | exact ⟨_, rfl, ⟨_, F1.out⟩, F3.out⟩
    · obtain rfl : n = (k : Int) := by unfold clampN at hk; omega
      clear hk
      have hmk0 : ∀ w : World, (Instr.makeSlice 36 (.int .i64 (32 * (k : Int))) (.int .i64 (32 * (k : Int)))).run Try.prog w = .ok (.slice (some ⟨w.heap.size, 0, none⟩) (32 * k) (32 * k)) (w.alloc (.cells (bc (noughts k)).toArray 5)) := by
        intro w; rw [noughts, ← hmk w]; norm_cast
      clear hmk
      go_enter Try.func16, Try.ntmps16
      go_wp2
      go_ret
      first | exact ⟨_, _, rfl, F1.out, F3.out⟩ | exact ⟨_, rfl, ⟨_, F1.out⟩, F3.out⟩

/-- How many blocks: the quotient that the document's answers reckon. -/
theorem quo_len {n : Nat} : ((32 * n : Nat) : Int) / 32 = (n : Int) := by omega
theorem wrap_len {n : Nat} (h : n ≤ 4096) : wrap64 (n : Int) = (n : Int) := by
  simp only [wrap64]
  omega

set_option maxHeartbeats 1000000 in
set_option maxRecDepth 100000 in
theorem rput_bad {w : World} {B q n : Nat} {vs vw : Value} {safe : List UInt8} {ws : List (Nat × List UInt8)} (h : Rf w B q vs vw n safe ws) (i : Int) (a : Option Addr) (len c : Nat) (hi : i < 0 ∨ (n : Int) ≤ i ∨ 32 < len) :
    Calls Try.prog 58 #[.pointer (some ⟨q, 0, none⟩), .int .i64 i, .slice a len c] w fun e w' => e = .returned (.int .i64 1) ∧ w = w' := by
  obtain ⟨as0, cs0, hvs⟩ := h.hs.shape
  subst hvs
  have c0 := h.cell0
  rw [h.ls] at c0
  have hq : ((32 * n : Nat) : Int) / 32 = (n : Int) := quo_len
  have hwn := wrap_len h.n12
  clear h
  by_cases h1 : i < 0
  · clear hi
    go_enter Try.func58, Try.ntmps58
    go_wp2
    go_ret
    exact ⟨rfl, rfl⟩
  · by_cases h2 : (n : Int) ≤ i
    · clear hi
      go_enter Try.func58, Try.ntmps58
      go_wp2
      go_ret
      exact ⟨rfl, rfl⟩
    · have h3 : (32 : Int) < (len : Int) := by omega
      clear hi
      go_enter Try.func58, Try.ntmps58
      go_wp2
      go_ret
      exact ⟨rfl, rfl⟩

end Go.Proofs.Ytfhdblbiamdplaa
