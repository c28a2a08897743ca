/-
  Gkf, Cub, Cus in one text.
-/
import Derived.Test.YticiofkiffgclaaGreatNr4
import Derived.Test.YticiofkiffgclaaGreatRows
import Derived.Test.YticiofkiffgclaaGreatNr6
import Derived.Lib.Bytealg
import Derived.Lib.SliceRun
import Derived.LoopTactic
import Derived.Shelf.Abstract
import Derived.Deep.QuietTactic
import Derived.BigQuiet
import Derived.RegionTactic
namespace Go.Proofs.YticiofkiffgclaaGreat
set_option linter.unusedVariables false
open Go.RowKit

variable {α : Type} {E : Enc α}

def lfoot (h : Nat) (V : Value) : Nat → Prop := fun k => k = h ∨ V.ownBlock = some k

variable (E) in
structure Ls (T e : TypeId) (w : World) (B h : Nat) (V : Value) (l : List α) : Prop where
  hh : w.heap[h]? = some (.cells #[V] T (0, 0))
  bh : B ≤ h
  hT : T ≠ e
  own : OwnK E w B e V l

variable {T e : TypeId} {w w' : World} {B h : Nat} {V : Value} {l : List α}

theorem Ls.cell (a : Ls E T e w B h V l) : w.cell? ⟨h, 0, none⟩ = some V ∧ w.frozen? ⟨h, 0, none⟩ = false :=
  ⟨by rw [cell_of_row _ _ _ _ _ _ a.hh]; rfl, frozen_of_row _ _ _ _ _ a.hh⟩
theorem Ls.lt (a : Ls E T e w B h V l) : ∀ k, lfoot h V k → B ≤ k ∧ k < w.heap.size := by
  rintro k (rfl | hk)
  · exact ⟨a.bh, heap_lt a.hh⟩
  · exact a.own.lt k hk
theorem Ls.size (a : Ls E T e w B h V l) : B ≤ w.heap.size := by have := heap_lt a.hh; have := a.bh; omega
theorem Ls.shape (a : Ls E T e w B h V l) : ∃ u c, V = .slice u l.length c := a.own.shape
theorem Ls.apart (a : Ls E T e w B h V l) : V.ownBlock ≠ some h := a.own.apart a.hh a.hT
theorem Ls.fo (a : Ls E T e w B h V l) {O : Nat → Prop} (hf : Fo O w w') (hd : ∀ k, lfoot h V k → ¬ O k) : Ls E T e w' B h V l :=
  ⟨hf.heap (hd h (.inl rfl)) a.hh, a.bh, a.hT, a.own.fo hf (fun g hg => hd g (.inr hg))⟩
theorem Ls.keep (a : Ls E T e w B h V l) (hk : Kept w w' []) : Ls E T e w' B h V l := a.fo (Fo.ofKept hk (fun _ => False)) (fun _ _ h => h)
theorem Ls.lay (a : Ls E T e w B h V l) {w1 : World} (f : Fo (fun k => V.ownBlock = some k) w w1) {v : Value} {m : List α} (x : OwnK E w1 B e v m) (hv : ∀ k, v.ownBlock = some k → V.ownBlock = some k ∨ w.heap.size ≤ k) :
    (w1.cell? ⟨h, 0, none⟩ = some V ∧ w1.frozen? ⟨h, 0, none⟩ = false) ∧ Ls E T e (w1.setCell ⟨h, 0, none⟩ v) B h v m ∧ Stp (lfoot h V) (lfoot h v) w (w1.setCell ⟨h, 0, none⟩ v) := by
  have hh : w1.heap[h]? = _ := f.heap a.apart a.hh
  have f2 : Fo (lfoot h V) w w1 := f.mono (fun k hk => .inr hk)
  have f3 : Fo (fun k => k = h) w1 (w1.setCell ⟨h, 0, none⟩ v) := Fo.setCell (O := fun k => k = h) (Fo.refl _ w1) (p := ⟨h, 0, none⟩) (.inl rfl) v
  have hvh : v.ownBlock ≠ some h := by
    intro hk
    rcases hv h hk with h1 | h1
    · exact a.apart h1
    · have := heap_lt a.hh; omega
  refine ⟨⟨by rw [cell_of_row _ _ _ _ _ _ hh]; rfl, frozen_of_row _ _ _ _ _ hh⟩, ⟨?_, a.bh, a.hT, x.fo f3 (fun g hg e => by subst e; exact hvh hg)⟩, f2.setCell (.inl (.inl rfl)) v, ?_⟩
  · rw [heap_setCell_at hh]
    rfl
  · rintro k (rfl | hk)
    · exact .inl (.inl rfl)
    · exact (hv k hk).imp (fun h => .inr h) id
theorem Ls.hit (a : Ls E T e w B h V l) {i : Nat} {x : α} (hx : l[i]? = some x) : ∃ g c, V = .slice (some ⟨g, 0, none⟩) l.length c := by
  obtain ⟨u, c, e⟩ := a.shape
  have o1 := a.own
  rw [e] at o1
  obtain ⟨g, rfl, _⟩ := o1.at hx
  exact ⟨g, c, e⟩

theorem Stp.ofK {O : Nat → Prop} {a b : World} (h : Kept a b []) : Stp O O a b := ⟨Fo.ofKept h O, fun _ h => .inl h⟩
theorem Stp.afterK {O O1 : Nat → Prop} {a b c : World} (h : Kept a b []) (k : Stp O O1 b c) : Stp O O1 a c := (Stp.ofK h).trans k
theorem Kept.foC {O : Nat → Prop} {a b c : World} (k : Kept a b []) (f : Fo O b c) (hB : ∀ k, O k → a.heap.size ≤ k) : Kept a c [] :=
  ⟨f.os.trans k.os, f.tape.trans k.tape, f.output.trans k.output, Nat.le_trans k.size f.size, fun i hi _ => (f.block i (Nat.lt_of_lt_of_le hi k.size) (fun ho => by have := hB i ho; omega)).trans (k.block i hi (by simp))⟩

end Go.Proofs.YticiofkiffgclaaGreat

namespace Go.Proofs.YticiofkiffgclaaGreat
set_option linter.unusedVariables false
open Go.RowKit

theorem cb_lt : ∀ l m : List UInt8, (Lib.compareBytes l m < 0 ↔ Op.bytesLess l m = true)
  | [], [] => by simp [Lib.compareBytes, Op.bytesLess]
  | [], _ :: _ => by simp [Lib.compareBytes, Op.bytesLess]
  | _ :: _, [] => by simp [Lib.compareBytes, Op.bytesLess]
  | a :: l, b :: m => by
    rw [Lib.compareBytes, Op.bytesLess]
    by_cases h : a < b
    · simp [h]
    · by_cases k : b < a
      · have e : (a == b) = false := by
          rw [beq_eq_false_iff_ne]
          rintro rfl
          exact h k
        simp [h, k, e]
      · obtain rfl : a = b := UInt8.le_antisymm (UInt8.not_lt.1 k) (UInt8.not_lt.1 h)
        simp [h, cb_lt l m]
theorem cb_zero : ∀ l m : List UInt8, (Lib.compareBytes l m = 0 ↔ l = m)
  | [], [] => by simp [Lib.compareBytes]
  | [], _ :: _ => by simp [Lib.compareBytes]
  | _ :: _, [] => by simp [Lib.compareBytes]
  | a :: l, b :: m => by
    rw [Lib.compareBytes]
    by_cases h : a < b
    · have e : a ≠ b := by rintro rfl; exact absurd h (UInt8.lt_irrefl a)
      simp [h, e]
    · by_cases k : b < a
      · have e : a ≠ b := by rintro rfl; exact h k
        simp [h, k, e]
      · obtain rfl : a = b := UInt8.le_antisymm (UInt8.not_lt.1 k) (UInt8.not_lt.1 h)
        simp [h, cb_zero l m]

def cmpN (a b : ByteArray) : Int := Lib.compareBytes a.data.toList b.data.toList
theorem cmpN_lt {a b : ByteArray} : cmpN a b < 0 ↔ ltN a b = true := by rw [cmpN, cb_lt, ltN, ByteArray.toList_eq, ByteArray.toList_eq]
theorem cmpN_zero {a b : ByteArray} : cmpN a b = 0 ↔ a = b := by
  rw [cmpN, cb_zero]
  constructor
  · intro h
    cases a; cases b
    simp only at h
    congr 1
    exact Array.toList_inj.1 h
  · intro h; rw [h]

def ahd (l : List Cu) (n : ByteArray) : Nat := l.countP fun x => ltN x.nm n
theorem ahd_le (l : List Cu) (n : ByteArray) : ahd l n ≤ l.length := List.countP_le_length
theorem ahd_eq : ∀ {l : List Cu} {n : ByteArray} {i : Nat}, i ≤ l.length → (∀ j y, j < i → l[j]? = some y → ltN y.nm n = true) → (∀ j y, i ≤ j → l[j]? = some y → ltN y.nm n = false) → ahd l n = i
  | [], n, i, hi, _, _ => by simp at hi; subst hi; rfl
  | x :: t, n, 0, hi, _, h2 => by
    unfold ahd
    rw [List.countP_eq_zero]
    intro y hy
    obtain ⟨j, hj, rfl⟩ := List.mem_iff_getElem.1 hy
    rw [h2 j _ (Nat.zero_le _) (List.getElem?_eq_getElem hj)]
    simp
  | x :: t, n, i + 1, hi, h1, h2 => by
    have hx := h1 0 x (by omega) rfl
    have ih := ahd_eq (l := t) (n := n) (i := i) (by simpa using hi) (fun j y hj hy => h1 (j + 1) y (by omega) (by simpa using hy)) (fun j y hj hy => h2 (j + 1) y (by omega) (by simpa using hy))
    unfold ahd at ih ⊢
    rw [List.countP_cons_of_pos (by exact hx), ih]

theorem nms_lt {l : List Cu} (h : Nms l) {n : ByteArray} {i j : Nat} {x y : Cu} (hij : i ≤ j) (hx : l[i]? = some x) (hy : l[j]? = some y) (hl : ltN y.nm n = true) : ltN x.nm n = true := by
  rcases Nat.lt_or_ge i j with c | c
  · obtain ⟨hi, rfl⟩ := List.getElem?_eq_some_iff.1 hx
    obtain ⟨hj, rfl⟩ := List.getElem?_eq_some_iff.1 hy
    exact bl_trans _ _ _ (List.pairwise_iff_getElem.1 h i j hi hj c) hl
  · obtain rfl : i = j := by omega
    rw [hx] at hy
    cases hy
    exact hl

theorem plc_found {l : List Cu} (h : Nms l) {n : ByteArray} {x : Cu} (hx : l[ahd l n]? = some x) (hn : x.nm = n) : plc l n = some (ahd l n) := by
  refine plc_hit hx (isN_iff.2 hn) (fun j y hj hy => ?_)
  cases hc : isN n y with
  | false => rfl
  | true => have := nms_one h hx hy (hn.trans (isN_iff.1 hc).symm); omega
theorem plc_lost {l : List Cu} (h : Nms l) {n : ByteArray} (h1 : ∀ j y, j < ahd l n → l[j]? = some y → ltN y.nm n = true) (h2 : ∀ y, l[ahd l n]? = some y → y.nm ≠ n) : plc l n = none := by
  refine plc_miss (fun j y hj hy => ?_)
  cases hc : isN n y with
  | false => rfl
  | true =>
    have e := isN_iff.1 hc
    rcases Nat.lt_trichotomy j (ahd l n) with c | c | c
    · have := h1 j y c hy
      rw [e, ltN, bl_irrefl] at this
      cases this
    · subst c; exact absurd e (h2 y hy)
    · obtain ⟨hj', rfl⟩ := List.getElem?_eq_some_iff.1 hy
      have hz := List.pairwise_iff_getElem.1 h (ahd l n) j (by omega) hj' c
      have h3 : ahd l n + 1 ≤ ahd l n := by
        have : (l.take (ahd l n + 1)).countP (fun x => ltN x.nm n) = ahd l n + 1 := by
          have hl : (l.take (ahd l n + 1)).length = ahd l n + 1 := by rw [List.length_take]; omega
          conv => rhs; rw [← hl]
          rw [List.countP_eq_length]
          intro x hx
          obtain ⟨q, hq, rfl⟩ := List.mem_iff_getElem.1 hx
          rw [List.getElem_take]
          rw [hl] at hq
          by_cases hqa : q < ahd l n
          · exact h1 q _ hqa (List.getElem?_eq_getElem _)
          · obtain rfl : q = ahd l n := by omega
            rw [e] at hz; exact hz
        conv => rhs; rw [ahd, ← List.take_append_drop (ahd l n + 1) l, List.countP_append]
        omega
      omega

theorem OwnK.three {w : World} {base : Nat} {e : TypeId} {g n c : Nat} {l : List Cu} (h : OwnK encCu w base e (.slice (some ⟨g, 0, none⟩) n c) l) {k : Nat} {x : Cu} (hx : l[k]? = some x) :
    w.cell? ⟨g, k * 3, none⟩ = some (.string x.nm) ∧ w.cell? ⟨g, k * 3 + 1, none⟩ = some (.int .i64 x.la) ∧ w.cell? ⟨g, k * 3 + 2, none⟩ = some (.int .i64 x.op) := by
  obtain ⟨g', hg, hc⟩ := h.at hx
  simp only [Option.some.injEq, Addr.mk.injEq] at hg
  obtain ⟨rfl, _⟩ := hg
  exact ⟨(hc 0 (by decide)).1, (hc 1 (by decide)).1, (hc 2 (by decide)).1⟩
theorem OwnK.threeF {w : World} {base : Nat} {e : TypeId} {g n c : Nat} {l : List Cu} (h : OwnK encCu w base e (.slice (some ⟨g, 0, none⟩) n c) l) {k : Nat} {x : Cu} (hx : l[k]? = some x) :
    w.frozen? ⟨g, k * 3, none⟩ = false ∧ w.frozen? ⟨g, k * 3 + 1, none⟩ = false ∧ w.frozen? ⟨g, k * 3 + 2, none⟩ = false := by
  obtain ⟨g', hg, hc⟩ := h.at hx
  simp only [Option.some.injEq, Addr.mk.injEq] at hg
  obtain ⟨rfl, _⟩ := hg
  exact ⟨(hc 0 (by decide)).2, (hc 1 (by decide)).2, (hc 2 (by decide)).2⟩

set_option maxHeartbeats 1000000 in
set_option maxRecDepth 100000 in
theorem cmpstr_any (a b : ByteArray) (w : World) : Calls Tryz.prog 199 #[.string a, .string b] w fun e w' => e = .returned (.int .i64 (cmpN a b)) ∧ w' = w := by
  go_enter Tryz.func199, Tryz.ntmps199
  go_wp2
  rw [run_callFunc_extern Tryz.func218 (by kernel_rfl) (by kernel_rfl) (by kernel_rfl) (e := Extern.BytealgCompare.compare) (by kernel_rfl), Lib.run_compareString]
  simp only [Result.andThen]
  rw [Oper.upon_value]
  go_wp2
  go_ret
  exact ⟨rfl, rfl⟩

set_option maxHeartbeats 1000000 in
theorem compare_any (a b : ByteArray) (w : World) : Calls Tryz.prog 178 #[.string a, .string b] w fun e w' => e = .returned (.int .i64 (cmpN a b)) ∧ w' = w := by
  go_enter Tryz.func178, Tryz.ntmps178
  go_wp2_with (go_at_call 199; refine (cmpstr_any _ _ _).mono ?_; rintro e w' ⟨rfl, rfl⟩)
  go_ret
  exact ⟨rfl, rfl⟩

set_option maxHeartbeats 1000000 in
theorem closure_any (x : Cu) (n : ByteArray) (w : World) : Calls Tryz.prog 177 #[.agg x.cs, .string n] w fun e w' => e = .returned (.int .i64 (cmpN x.nm n)) ∧ Kept w w' [] := by
  obtain ⟨b0, b1, b2⟩ := x
  simp only [Cu.cs]
  go_enter Tryz.func177, Tryz.ntmps177
  go_wp2_with (go_at_call 178; refine (compare_any _ _ _).mono ?_; rintro e w' ⟨rfl, rfl⟩)
  go_ret
  exact ⟨rfl, (Kept.refl w []).alloc _⟩


end Go.Proofs.YticiofkiffgclaaGreat

namespace Go.Proofs.YticiofkiffgclaaGreat
set_option linter.unusedVariables false
open Go.RowKit

theorem retib {a : Int} {b c : Bool} (h : b = c) : Ending.returned (.tuple #[.int .i64 a, .bool b]) = .returned (.tuple #[.int .i64 a, .bool c]) := by rw [h]

set_option maxHeartbeats 2000000 in
set_option maxRecDepth 100000 in
theorem csearch_any (v : Value) (l : List Cu) (n : ByteArray) (w : World) {base : Nat} {e : TypeId} (h : OwnK encCu w base e v l) (hs : Nms l) (hlen : l.length ≤ 1000000) :
    Calls Tryz.prog 176 #[v, .string n, .func (.func 177) #[] #[]] w fun e w' =>
      e = .returned (.tuple #[.int .i64 (ahd l n), .bool (plc l n).isSome]) ∧ Kept w w' [] := by
  have ec : ∀ args w, (callFunc 177 args).run Tryz.prog w = .ok (.enter 177 args) w := enters_of Tryz.func177 (by kernel_rfl) rfl
  rcases id h.2 with ⟨rfl, h0⟩ | ⟨g, cap, cur, rfl, _⟩
  · obtain rfl : l = [] := List.eq_nil_of_length_eq_zero h0
    clear h
    go_enter Tryz.func176, Tryz.ntmps176
    go_wp2
    go_loop [9, 10] (fun t s => t = .int .i64 0 ∧ s = .int .i64 0) (fun _ _ => 0)
    case atStart => exact ⟨rfl, rfl⟩
    case round =>
      obtain ⟨rfl, rfl⟩ := hrel
      go_wp2
      go_ret2
      exact ⟨rfl, Kept.refl w []⟩
  · have H := Lib.hid h; have S := Lib.hid hs
    clear h hs
    go_enter Tryz.func176, Tryz.ntmps176
    go_wp2
    go_loopw [9, 10] (fun t s wr => ∃ i j : Nat, t = .int .i64 i ∧ s = .int .i64 j ∧ i ≤ j ∧ j ≤ l.length ∧ (∀ q y, q < i → l[q]? = some y → ltN y.nm n = true) ∧ (∀ q y, j ≤ q → l[q]? = some y → ltN y.nm n = false) ∧ Kept w wr []) (fun t s _ => (intOf s).toNat - (intOf t).toNat)
    case atStart =>
      refine ⟨0, l.length, rfl, rfl, Nat.zero_le _, Nat.le_refl _, fun q y hq => absurd hq (Nat.not_lt_zero _), fun q y h1 h2 => ?_, Kept.refl w []⟩
      have := (List.getElem?_eq_some_iff.1 h2).1
      omega
    case round =>
      obtain ⟨i, j, rfl, rfl, hij, hj, hL, hR, hk⟩ := hrel
      have L := Lib.hid hL; have R := Lib.hid hR; have K := Lib.hid hk
      clear hL hR hk
      by_cases hlt : i < j
      · have x1 : (i : Int) < (j : Int) := by omega
        obtain ⟨k, hk⟩ : ∃ k : Nat, k = (i + j) / 2 := ⟨_, rfl⟩
        have hk1 : i ≤ k := by omega
        have hk2 : k < j := by omega
        obtain ⟨x, hx⟩ : ∃ x, l[k]? = some x := ⟨_, List.getElem?_eq_getElem (by omega)⟩
        obtain ⟨c0, c1, c2⟩ := (H.out.kept K.out (by simp)).three hx
        have X := Lib.hid hx
        have x2 : (k : Int) < (l.length : Int) := by omega
        have e3 : ((i : Int) + (j : Int)) / 2 = (k : Int) := by omega
        have e2 : ((i : Int) + (j : Int)) % 18446744073709551616 = (i : Int) + (j : Int) := by clear c0 c1 c2; omega
        have call := closure_any x n wr
        obtain ⟨z, hz⟩ : ∃ z, z = cmpN x.nm n := ⟨_, rfl⟩
        rw [← hz] at call
        have Hz := Lib.hid hz
        obtain ⟨b0, b1, b2⟩ := x
        simp only [Cu.cs] at c0 c1 c2 call
        clear hz hk hx
        by_cases hzl : z < 0
        · go_wp2_with (go_at_fn 177; refine call.mono ?_; rintro e w2 ⟨rfl, k2⟩)
          go_roundw
          case rel => exact ⟨k + 1, j, by go_num, rfl, by omega, by omega, fun q y hq hy => nms_lt S.out (by omega) hy X.out (cmpN_lt.1 (by rw [← Hz.out]; exact hzl)), R.out, K.out.trans k2 (by simp)⟩
          case measure => simp [intOf]; omega
        · go_wp2_with (go_at_fn 177; refine call.mono ?_; rintro e w2 ⟨rfl, k2⟩)
          go_roundw
          case rel =>
            refine ⟨i, k, rfl, rfl, by omega, by omega, L.out, fun q y hq hy => ?_, K.out.trans k2 (by simp)⟩
            cases hc : ltN y.nm n with
            | false => rfl
            | true => exact absurd (cmpN_lt.2 (nms_lt S.out hq X.out hy hc)) (by rw [← Hz.out]; omega)
          case measure => simp [intOf]; omega
      · have x1 : ¬ (i : Int) < (j : Int) := by omega
        obtain rfl : i = j := by omega
        have EA := Lib.hid (ahd_eq (l := l) (n := n) hj L.out R.out)
        by_cases hil : i < l.length
        · obtain ⟨x, hx⟩ : ∃ x, l[i]? = some x := ⟨_, List.getElem?_eq_getElem hil⟩
          obtain ⟨c0, c1, c2⟩ := (H.out.kept K.out (by simp)).three hx
          have X := Lib.hid hx
          have x2 : (i : Int) < (l.length : Int) := by omega
          have call := closure_any x n wr
          have fin : ((cmpN x.nm n == 0) = (plc l n).isSome) := by
            by_cases hxn : x.nm = n
            · rw [plc_found S.out (by rw [EA.out]; exact hx) hxn, cmpN_zero.2 hxn]; rfl
            · rw [plc_lost S.out (by rw [EA.out]; exact L.out) (by rw [EA.out, hx]; rintro y hy; cases hy; exact hxn)]
              simp [cmpN_zero, hxn]
          obtain ⟨z, hz⟩ : ∃ z, z = cmpN x.nm n := ⟨_, rfl⟩
          rw [← hz] at call fin
          have FIN := Lib.hid fin
          obtain ⟨b0, b1, b2⟩ := x
          simp only [Cu.cs] at c0 c1 c2 call
          clear hx fin hz
          go_wp2_with (go_at_fn 177; refine call.mono ?_; rintro e w2 ⟨rfl, k2⟩)
          go_ret2
          rw [EA.out]
          exact ⟨retib FIN.out, K.out.trans k2 (by simp)⟩
        · have x2 : ¬ (i : Int) < (l.length : Int) := by omega
          have P0 := Lib.hid (plc_lost S.out (by rw [EA.out]; exact L.out) (by rw [EA.out]; intro y hy; have := (List.getElem?_eq_some_iff.1 hy).1; omega))
          go_wp2
          go_ret2
          rw [EA.out, P0.out]
          exact ⟨rfl, K.out⟩

end Go.Proofs.YticiofkiffgclaaGreat
