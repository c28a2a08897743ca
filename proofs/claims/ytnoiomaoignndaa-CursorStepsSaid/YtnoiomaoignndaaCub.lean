/-
  The order of names as strings.Compare tells it; the closure of find; slices.BinarySearchFunc on consumers.
-/
import Derived.Test.YtnoiomaoignndaaRows
import Derived.Test.YtnoiomaoignndaaCua
import Derived.Lib.Bytealg
import Derived.Lib.SliceRun
import Derived.LoopTactic
import Derived.Shelf.Abstract
import Derived.Deep.QuietTactic
import Derived.BigQuiet
import Derived.RegionTactic
namespace Go.Proofs.Ytnoiomaoignndaa
set_option linter.unusedVariables false
open Go.RowKit

theorem cb_lt : ∀ l m : List UInt8, (Lib.compareBytes l m < 0 ↔ Op.bytesLess l m = true)
  | [], [] => by simp [Lib.compareBytes, Op.bytesLess]
  | [], _ :: _ => by simp [Lib.compareBytes, Op.bytesLess]
  | _ :: _, [] => by simp [Lib.compareBytes, Op.bytesLess]
  | a :: l, b :: m => by
    rw [Lib.compareBytes, Op.bytesLess]
    by_cases h : a < b
    · simp [h]
    · by_cases k : b < a
      · have e : (a == b) = false := by
          rw [beq_eq_false_iff_ne]
          rintro rfl
          exact h k
        simp [h, k, e]
      · obtain rfl : a = b := UInt8.le_antisymm (UInt8.not_lt.1 k) (UInt8.not_lt.1 h)
        simp [h, cb_lt l m]
theorem cb_zero : ∀ l m : List UInt8, (Lib.compareBytes l m = 0 ↔ l = m)
  | [], [] => by simp [Lib.compareBytes]
  | [], _ :: _ => by simp [Lib.compareBytes]
  | _ :: _, [] => by simp [Lib.compareBytes]
  | a :: l, b :: m => by
    rw [Lib.compareBytes]
    by_cases h : a < b
    · have e : a ≠ b := by rintro rfl; exact absurd h (UInt8.lt_irrefl a)
      simp [h, e]
    · by_cases k : b < a
      · have e : a ≠ b := by rintro rfl; exact h k
        simp [h, k, e]
      · obtain rfl : a = b := UInt8.le_antisymm (UInt8.not_lt.1 k) (UInt8.not_lt.1 h)
        simp [h, cb_zero l m]

/-- What strings.Compare tells. -/
def cmpN (a b : ByteArray) : Int := Lib.compareBytes a.data.toList b.data.toList
theorem cmpN_lt {a b : ByteArray} : cmpN a b < 0 ↔ ltN a b = true := by rw [cmpN, cb_lt, ltN, ByteArray.toList_eq, ByteArray.toList_eq]
theorem cmpN_zero {a b : ByteArray} : cmpN a b = 0 ↔ a = b := by
  rw [cmpN, cb_zero]
  constructor
  · intro h
    cases a; cases b
    simp only at h
    congr 1
    exact Array.toList_inj.1 h
  · intro h; rw [h]

/-- How many names stand ahead of n. -/
def ahd (l : List Cu) (n : ByteArray) : Nat := l.countP fun x => ltN x.nm n
theorem ahd_le (l : List Cu) (n : ByteArray) : ahd l n ≤ l.length := List.countP_le_length
theorem ahd_eq : ∀ {l : List Cu} {n : ByteArray} {i : Nat}, i ≤ l.length → (∀ j y, j < i → l[j]? = some y → ltN y.nm n = true) → (∀ j y, i ≤ j → l[j]? = some y → ltN y.nm n = false) → ahd l n = i
  | [], n, i, hi, _, _ => by simp at hi; subst hi; rfl
  | x :: t, n, 0, hi, _, h2 => by
    unfold ahd
    rw [List.countP_eq_zero]
    intro y hy
    obtain ⟨j, hj, rfl⟩ := List.mem_iff_getElem.1 hy
    rw [h2 j _ (Nat.zero_le _) (List.getElem?_eq_getElem hj)]
    simp
  | x :: t, n, i + 1, hi, h1, h2 => by
    have hx := h1 0 x (by omega) rfl
    have ih := ahd_eq (l := t) (n := n) (i := i) (by simpa using hi) (fun j y hj hy => h1 (j + 1) y (by omega) (by simpa using hy)) (fun j y hj hy => h2 (j + 1) y (by omega) (by simpa using hy))
    unfold ahd at ih ⊢
    rw [List.countP_cons_of_pos (by exact hx), ih]

/-- Where names rise, those ahead of n are the first ones. -/
theorem nms_lt {l : List Cu} (h : Nms l) {n : ByteArray} {i j : Nat} {x y : Cu} (hij : i ≤ j) (hx : l[i]? = some x) (hy : l[j]? = some y) (hl : ltN y.nm n = true) : ltN x.nm n = true := by
  rcases Nat.lt_or_ge i j with c | c
  · obtain ⟨hi, rfl⟩ := List.getElem?_eq_some_iff.1 hx
    obtain ⟨hj, rfl⟩ := List.getElem?_eq_some_iff.1 hy
    exact bl_trans _ _ _ (List.pairwise_iff_getElem.1 h i j hi hj c) hl
  · obtain rfl : i = j := by omega
    rw [hx] at hy
    cases hy
    exact hl

theorem plc_found {l : List Cu} (h : Nms l) {n : ByteArray} {x : Cu} (hx : l[ahd l n]? = some x) (hn : x.nm = n) : plc l n = some (ahd l n) := by
  refine plc_hit hx (isN_iff.2 hn) (fun j y hj hy => ?_)
  cases hc : isN n y with
  | false => rfl
  | true => have := nms_one h hx hy (hn.trans (isN_iff.1 hc).symm); omega
theorem plc_lost {l : List Cu} (h : Nms l) {n : ByteArray} (h1 : ∀ j y, j < ahd l n → l[j]? = some y → ltN y.nm n = true) (h2 : ∀ y, l[ahd l n]? = some y → y.nm ≠ n) : plc l n = none := by
  refine plc_miss (fun j y hj hy => ?_)
  cases hc : isN n y with
  | false => rfl
  | true =>
    have e := isN_iff.1 hc
    rcases Nat.lt_trichotomy j (ahd l n) with c | c | c
    · have := h1 j y c hy
      rw [e, ltN, bl_irrefl] at this
      cases this
    · subst c; exact absurd e (h2 y hy)
    · obtain ⟨hj', rfl⟩ := List.getElem?_eq_some_iff.1 hy
      have hz := List.pairwise_iff_getElem.1 h (ahd l n) j (by omega) hj' c
      have h3 : ahd l n + 1 ≤ ahd l n := by
        have : (l.take (ahd l n + 1)).countP (fun x => ltN x.nm n) = ahd l n + 1 := by
          have hl : (l.take (ahd l n + 1)).length = ahd l n + 1 := by rw [List.length_take]; omega
          conv => rhs; rw [← hl]
          rw [List.countP_eq_length]
          intro x hx
          obtain ⟨q, hq, rfl⟩ := List.mem_iff_getElem.1 hx
          rw [List.getElem_take]
          rw [hl] at hq
          by_cases hqa : q < ahd l n
          · exact h1 q _ hqa (List.getElem?_eq_getElem _)
          · obtain rfl : q = ahd l n := by omega
            rw [e] at hz; exact hz
        conv => rhs; rw [ahd, ← List.take_append_drop (ahd l n + 1) l, List.countP_append]
        omega
      omega

/-- A consumer's three cells. -/
theorem OwnK.three {w : World} {base : Nat} {e : TypeId} {g n c : Nat} {l : List Cu} (h : OwnK encCu w base e (.slice (some ⟨g, 0, none⟩) n c) l) {k : Nat} {x : Cu} (hx : l[k]? = some x) :
    w.cell? ⟨g, k * 3, none⟩ = some (.string x.nm) ∧ w.cell? ⟨g, k * 3 + 1, none⟩ = some (.int .i64 x.la) ∧ w.cell? ⟨g, k * 3 + 2, none⟩ = some (.int .i64 x.op) := by
  obtain ⟨g', hg, hc⟩ := h.at hx
  simp only [Option.some.injEq, Addr.mk.injEq] at hg
  obtain ⟨rfl, _⟩ := hg
  exact ⟨(hc 0 (by decide)).1, (hc 1 (by decide)).1, (hc 2 (by decide)).1⟩
theorem OwnK.threeF {w : World} {base : Nat} {e : TypeId} {g n c : Nat} {l : List Cu} (h : OwnK encCu w base e (.slice (some ⟨g, 0, none⟩) n c) l) {k : Nat} {x : Cu} (hx : l[k]? = some x) :
    w.frozen? ⟨g, k * 3, none⟩ = false ∧ w.frozen? ⟨g, k * 3 + 1, none⟩ = false ∧ w.frozen? ⟨g, k * 3 + 2, none⟩ = false := by
  obtain ⟨g', hg, hc⟩ := h.at hx
  simp only [Option.some.injEq, Addr.mk.injEq] at hg
  obtain ⟨rfl, _⟩ := hg
  exact ⟨(hc 0 (by decide)).2, (hc 1 (by decide)).2, (hc 2 (by decide)).2⟩

set_option maxHeartbeats 1000000 in
set_option maxRecDepth 100000 in
theorem cmpstr_any (a b : ByteArray) (w : World) : Calls Try.prog 36 #[.string a, .string b] w fun e w' => e = .returned (.int .i64 (cmpN a b)) ∧ w' = w := by
  go_enter Try.func36, Try.ntmps36
  go_wp2
  rw [run_callFunc_extern Try.func38 (by kernel_rfl) (by kernel_rfl) (by kernel_rfl) (e := Extern.BytealgCompare.compare) (by kernel_rfl), Lib.run_compareString]
  simp only [Result.andThen]
  rw [Oper.upon_value]
  go_wp2
  go_ret
  exact ⟨rfl, rfl⟩

set_option maxHeartbeats 1000000 in
theorem compare_any (a b : ByteArray) (w : World) : Calls Try.prog 33 #[.string a, .string b] w fun e w' => e = .returned (.int .i64 (cmpN a b)) ∧ w' = w := by
  go_enter Try.func33, Try.ntmps33
  go_wp2_with (go_at_call 36; refine (cmpstr_any _ _ _).mono ?_; rintro e w' ⟨rfl, rfl⟩)
  go_ret
  exact ⟨rfl, rfl⟩

set_option maxHeartbeats 1000000 in
theorem closure_any (x : Cu) (n : ByteArray) (w : World) : Calls Try.prog 32 #[.agg x.cs, .string n] w fun e w' => e = .returned (.int .i64 (cmpN x.nm n)) ∧ Kept w w' [] := by
  obtain ⟨b0, b1, b2⟩ := x
  simp only [Cu.cs]
  go_enter Try.func32, Try.ntmps32
  go_wp2_with (go_at_call 33; refine (compare_any _ _ _).mono ?_; rintro e w' ⟨rfl, rfl⟩)
  go_ret
  exact ⟨rfl, (Kept.refl w []).alloc _⟩


end Go.Proofs.Ytnoiomaoignndaa
