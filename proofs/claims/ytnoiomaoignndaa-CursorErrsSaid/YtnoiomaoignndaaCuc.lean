/-
  Consumers in memory (the code's, and the document's); the code's New, find, Get, All.
-/
import Derived.Test.YtnoiomaoignndaaCuk
namespace Go.Proofs.Ytnoiomaoignndaa
set_option linter.unusedVariables false
open Go.RowKit

theorem ahd_spec : ∀ {l : List Cu} (h : Nms l) (n : ByteArray), (∀ j y, j < ahd l n → l[j]? = some y → ltN y.nm n = true) ∧ (∀ j y, ahd l n ≤ j → l[j]? = some y → ltN y.nm n = false)
  | [], _, n => ⟨fun j y _ hy => by simp at hy, fun j y _ hy => by simp at hy⟩
  | x :: t, h, n => by
    obtain ⟨hx, ht⟩ := List.pairwise_cons.1 h
    obtain ⟨i1, i2⟩ := ahd_spec ht n
    cases hc : ltN x.nm n with
    | true =>
      have e : ahd (x :: t) n = ahd t n + 1 := by rw [ahd, List.countP_cons_of_pos (by exact hc)]; rfl
      rw [e]
      refine ⟨fun j y hj hy => ?_, fun j y hj hy => ?_⟩
      · cases j with
        | zero => simp at hy; subst hy; exact hc
        | succ j => exact i1 j y (by omega) (by simpa using hy)
      · cases j with
        | zero => omega
        | succ j => exact i2 j y (by omega) (by simpa using hy)
    | false =>
      have hn : ∀ y ∈ t, ltN y.nm n = false := fun y hy => by
        cases hk : ltN y.nm n with
        | false => rfl
        | true =>
          have := bl_trans _ _ _ (hx y hy) hk
          rw [ltN] at hc
          rw [hc] at this
          cases this
      have e : ahd (x :: t) n = 0 := by
        rw [ahd, List.countP_eq_zero]
        intro y hy
        rcases List.mem_cons.1 hy with rfl | hy
        · rw [hc]; decide
        · rw [hn y hy]; decide
      rw [e]
      refine ⟨fun j y hj _ => by omega, fun j y _ hy => ?_⟩
      rcases List.mem_cons.1 (List.mem_of_getElem? hy) with rfl | hy
      · exact hc
      · exact hn y hy

theorem plc_ahd {l : List Cu} (h : Nms l) {n : ByteArray} {i : Nat} (hp : plc l n = some i) : ahd l n = i := by
  obtain ⟨x, hx, hn⟩ := plc_some hp
  obtain ⟨h1, h2⟩ := ahd_spec h n
  rcases Nat.lt_trichotomy i (ahd l n) with c | c | c
  · have := h1 i x c hx
    rw [hn, ltN, bl_irrefl] at this
    cases this
  · exact c.symm
  · obtain ⟨hi, rfl⟩ := List.getElem?_eq_some_iff.1 hx
    have h3 := h2 (ahd l n) _ (Nat.le_refl _) (List.getElem?_eq_getElem (by omega))
    have h4 := List.pairwise_iff_getElem.1 h (ahd l n) i (by omega) hi c
    rw [hn] at h4
    rw [h4] at h3
    cases h3

theorem ins_ahd {l : List Cu} (h : Nms l) {x : Cu} (hp : plc l x.nm = none) : l.take (ahd l x.nm) ++ x :: l.drop (ahd l x.nm) = insC x l := by
  obtain ⟨h1, h2⟩ := ahd_spec h x.nm
  refine insC_at h (ahd_le l x.nm) (fun j y hj hy => ?_) (fun y h0 hy => bl_asymm (h1 _ y (by omega) hy))
  have h3 := h2 j y hj hy
  cases hc : ltN x.nm y.nm with
  | true => rfl
  | false => exact absurd (toList_inj (bl_tri _ _ h3 hc)) (plc_none hp y (List.mem_of_getElem? hy))

/-- Consumers in memory, at h: one cell, the slice. -/
structure Cc (T e : TypeId) (w : World) (B h : Nat) (V : Value) (l : List Cu) : Prop where
  hh : w.heap[h]? = some (.cells #[V] T (0, 0))
  bh : B ≤ h
  hT : T ≠ e
  own : OwnK encCu w B e V l

/-- Their blocks. -/
def cfoot (h : Nat) (V : Value) : Nat → Prop := fun k => k = h ∨ V.ownBlock = some k

variable {T e : TypeId} {w w' : World} {B h : Nat} {V : Value} {l : List Cu}

theorem Cc.cell (a : Cc T e w B h V l) : w.cell? ⟨h, 0, none⟩ = some V ∧ w.frozen? ⟨h, 0, none⟩ = false :=
  ⟨by rw [cell_of_row _ _ _ _ _ _ a.hh]; rfl, frozen_of_row _ _ _ _ _ a.hh⟩
theorem Cc.lt (a : Cc T e w B h V l) : ∀ k, cfoot h V k → B ≤ k ∧ k < w.heap.size := by
  rintro k (rfl | hk)
  · exact ⟨a.bh, heap_lt a.hh⟩
  · exact a.own.lt k hk
theorem Cc.size (a : Cc T e w B h V l) : B ≤ w.heap.size := by have := heap_lt a.hh; have := a.bh; omega
theorem Cc.shape (a : Cc T e w B h V l) : ∃ u c, V = .slice u l.length c := a.own.shape
theorem Cc.apart (a : Cc T e w B h V l) : V.ownBlock ≠ some h := a.own.apart a.hh a.hT
theorem Cc.fo (a : Cc T e w B h V l) {O : Nat → Prop} (hf : Fo O w w') (hd : ∀ k, cfoot h V k → ¬ O k) : Cc T e w' B h V l :=
  ⟨hf.heap (hd h (.inl rfl)) a.hh, a.bh, a.hT, a.own.fo hf (fun g hg => hd g (.inr hg))⟩
theorem Cc.keep (a : Cc T e w B h V l) (hk : Kept w w' []) : Cc T e w' B h V l := a.fo (Fo.ofKept hk (fun _ => False)) (fun _ _ h => h)

/-- Two of other types share no block. -/
theorem Cc.dis {T2 e2 : TypeId} {h2 : Nat} {V2 : Value} {m : List Cu} (a : Cc T e w B h V l) (b : Cc T2 e2 w B h2 V2 m) (h1 : T ≠ T2) (h3 : T ≠ e2) (h4 : e ≠ T2) (h5 : e ≠ e2) : ∀ k, cfoot h V k → ¬ cfoot h2 V2 k := by
  rintro k (rfl | hk) (rfl | hk2)
  · have := a.hh
    rw [b.hh] at this
    simp only [Option.some.injEq, Obj.cells.injEq] at this
    exact h1 this.2.1.symm
  · exact b.own.apart a.hh h3 hk2
  · exact a.own.apart b.hh (fun e => h4 e.symm) hk
  · obtain ⟨c1, hc1⟩ := a.own.tag hk
    obtain ⟨c2, hc2⟩ := b.own.tag hk2
    rw [hc1] at hc2
    simp only [Option.some.injEq, Obj.cells.injEq] at hc2
    exact h5 hc2.2.1

/-- The row is laid anew; it lies where it lay, or in what is new. -/
theorem Cc.lay (a : Cc T e w B h V l) {w1 : World} (f : Fo (fun k => V.ownBlock = some k) w w1) {v : Value} {m : List Cu} (x : OwnK encCu w1 B e v m) (hv : ∀ k, v.ownBlock = some k → V.ownBlock = some k ∨ w.heap.size ≤ k) :
    (w1.cell? ⟨h, 0, none⟩ = some V ∧ w1.frozen? ⟨h, 0, none⟩ = false) ∧ Cc T e (w1.setCell ⟨h, 0, none⟩ v) B h v m ∧ Stp (cfoot h V) (cfoot h v) w (w1.setCell ⟨h, 0, none⟩ v) := by
  have hh : w1.heap[h]? = _ := f.heap a.apart a.hh
  have f2 : Fo (cfoot h V) w w1 := f.mono (fun k hk => .inr hk)
  have f3 : Fo (fun k => k = h) w1 (w1.setCell ⟨h, 0, none⟩ v) := Fo.setCell (O := fun k => k = h) (Fo.refl _ w1) (p := ⟨h, 0, none⟩) (.inl rfl) v
  have hvh : v.ownBlock ≠ some h := by
    intro hk
    rcases hv h hk with h1 | h1
    · exact a.apart h1
    · have := heap_lt a.hh; omega
  refine ⟨⟨by rw [cell_of_row _ _ _ _ _ _ hh]; rfl, frozen_of_row _ _ _ _ _ hh⟩, ⟨?_, a.bh, a.hT, x.fo f3 (fun g hg e => by subst e; exact hvh hg)⟩, f2.setCell (.inl (.inl rfl)) v, ?_⟩
  · rw [heap_setCell_at hh]
    rfl
  · rintro k (rfl | hk)
    · exact .inl (.inl rfl)
    · exact (hv k hk).imp (fun h => .inr h) id

/-- The row itself turns, in place. -/
theorem Cc.turn (a : Cc T e w B h V l) (f : Fo (fun k => V.ownBlock = some k) w w') {m : List Cu} (x : OwnK encCu w' B e V m) : Cc T e w' B h V m ∧ Stp (cfoot h V) (cfoot h V) w w' :=
  ⟨⟨f.heap a.apart a.hh, a.bh, a.hT, x⟩, f.mono (fun k hk => .inr hk), fun k hk => .inl hk⟩

theorem Stp.ofK {O : Nat → Prop} {a b : World} (h : Kept a b []) : Stp O O a b := ⟨Fo.ofKept h O, fun _ h => .inl h⟩
theorem Stp.afterK {O O1 : Nat → Prop} {a b c : World} (h : Kept a b []) (k : Stp O O1 b c) : Stp O O1 a c := (Stp.ofK h).trans k
theorem Stp.thenK {O O1 : Nat → Prop} {a b c : World} (h : Stp O O1 a b) (k : Kept b c []) : Stp O O1 a c := h.trans (Stp.ofK k)

abbrev cuT : TypeId := 55
abbrev cuE : TypeId := 39

set_option maxHeartbeats 1000000 in
theorem cnew_any (w : World) : Calls Try.prog 10 #[] w fun e w' => e = .returned (.pointer (some ⟨w.heap.size, 0, none⟩)) ∧ Cc cuT cuE w' w.heap.size w.heap.size (.slice none 0 0) [] ∧ Kept w w' [] := by
  go_enter Try.func10, Try.ntmps10
  go_wp2
  go_ret
  exact ⟨rfl, ⟨heap_alloc_new w _, Nat.le_refl _, by decide, OwnK.nil _ _ _⟩, (Kept.refl w []).alloc _⟩

set_option maxHeartbeats 1000000 in
theorem cfind_nil (n : ByteArray) (w : World) : Calls Try.prog 25 #[.pointer none, .string n] w fun e w' => e = .returned (.tuple #[.int .i64 0, .bool false]) ∧ w' = w := by
  go_enter Try.func25, Try.ntmps25
  go_wp2
  go_ret2
  exact ⟨rfl, rfl⟩

set_option maxHeartbeats 1000000 in
theorem cfind_any (a : Cc cuT cuE w B h V l) (ok : OkC l) (n : ByteArray) : Calls Try.prog 25 #[.pointer (some ⟨h, 0, none⟩), .string n] w fun e w' => e = .returned (.tuple #[.int .i64 (ahd l n), .bool (plc l n).isSome]) ∧ Kept w w' [] := by
  obtain ⟨u, c, e⟩ := a.shape
  have c0 := a.cell.1
  have S := Lib.hid (csearch_any V l n w a.own ok.nms (by have := ok.few; omega))
  rw [e] at c0 S
  clear a e ok
  go_enter Try.func25, Try.ntmps25
  go_wp2_with (go_at_call 31; refine S.out.mono ?_; rintro e w' ⟨rfl, k2⟩)
  go_ret2
  exact ⟨rfl, k2⟩

def noCu : Cu := ⟨⟨#[]⟩, 0, 0⟩
/-- What Get tells. -/
def getV (l : List Cu) (n : ByteArray) : Value := .tuple #[.agg ((getC l n).getD noCu).cs, .bool (getC l n).isSome]

set_option maxHeartbeats 1000000 in
theorem cget_nil (n : ByteArray) (w : World) : Calls Try.prog 20 #[.pointer none, .string n] w fun e w' => e = .returned (.tuple #[.agg noCu.cs, .bool false]) ∧ Kept w w' [] := by
  simp only [noCu, Cu.cs]
  go_enter Try.func20, Try.ntmps20
  go_wp2_with (go_at_call 25; refine (cfind_nil _ _).mono ?_; rintro e w' ⟨rfl, rfl⟩)
  refine bodyPost_ret (v := .tuple #[.agg #[.string ⟨#[]⟩, .int .i64 0, .int .i64 0], .bool false]) (by simp [results, Try.results20, go_sem]) rfl ?_
  exact ⟨rfl, (Kept.refl w []).alloc _⟩

set_option maxHeartbeats 2000000 in
set_option maxRecDepth 100000 in
theorem cget_any (a : Cc cuT cuE w B h V l) (ok : OkC l) (n : ByteArray) : Calls Try.prog 20 #[.pointer (some ⟨h, 0, none⟩), .string n] w fun e w' => e = .returned (getV l n) ∧ Kept w w' [] := by
  obtain ⟨z, hz⟩ : ∃ z, z = w.heap.size := ⟨_, rfl⟩
  obtain ⟨W1, hW1⟩ : ∃ W1, W1 = w.alloc (.cells #[.string ⟨#[]⟩, .int .i64 0, .int .i64 0] cuE) := ⟨_, rfl⟩
  have k1 : Kept w W1 [] := by rw [hW1]; exact (Kept.refl w []).alloc _
  have g1 : W1.heap[z]? = some (.cells #[.string ⟨#[]⟩, .int .i64 0, .int .i64 0] cuE (0, 0)) := by rw [hW1, hz]; exact heap_alloc_new w _
  have FD := Lib.hid (cfind_any (a.keep k1) ok n)
  have K1 := Lib.hid k1; have HW1 := Lib.hid hW1; have HZ := Lib.hid hz; have G1 := Lib.hid g1
  have A1 := Lib.hid (a.keep k1)
  have OK := Lib.hid ok
  clear a k1 g1
  cases hp : plc l n with
  | none =>
    have e1 : getV l n = .tuple #[.agg noCu.cs, .bool false] := by rw [getV, getC_none hp]; rfl
    rw [e1]
    rw [hp] at FD
    clear hp e1
    simp only [noCu, Cu.cs, Option.isSome_none] at *
    go_enter Try.func20, Try.ntmps20
    go_wp2_with fail
    rw [← HW1.out, ← HZ.out]
    clear hW1 hz
    refine FD.out.mono ?_
    rintro e w2 ⟨rfl, k2⟩
    have K2 := Lib.hid k2
    have g2 := k2.heap (by simp) G1.out
    obtain ⟨f0, f1, f2⟩ : w2.frozen? ⟨z, 0, none⟩ = false ∧ w2.frozen? ⟨z, 1, none⟩ = false ∧ w2.frozen? ⟨z, 2, none⟩ = false := ⟨frozen_of_row _ _ _ _ _ g2, frozen_of_row _ _ _ _ _ g2, frozen_of_row _ _ _ _ _ g2⟩
    obtain ⟨c0, c1, c2⟩ : w2.cell? ⟨z, 0, none⟩ = some (.string ⟨#[]⟩) ∧ w2.cell? ⟨z, 1, none⟩ = some (.int .i64 0) ∧ w2.cell? ⟨z, 2, none⟩ = some (.int .i64 0) := ⟨by rw [cell_of_row _ _ _ _ _ _ g2]; rfl, by rw [cell_of_row _ _ _ _ _ _ g2]; rfl, by rw [cell_of_row _ _ _ _ _ _ g2]; rfl⟩
    clear k2 g2
    go_wp2
    refine bodyPost_ret (v := .tuple #[.agg #[.string ⟨#[]⟩, .int .i64 0, .int .i64 0], .bool false]) (by simp [results, Try.results20, go_sem, *]) rfl ?_
    have hz := HZ.out
    exact ⟨rfl, (((K1.out.trans K2.out (by simp)).setCell (p := ⟨z, 0, none⟩) (.inr (by show w.heap.size ≤ z; omega)) _).setCell (p := ⟨z, 1, none⟩) (.inr (by show w.heap.size ≤ z; omega)) _).setCell (p := ⟨z, 2, none⟩) (.inr (by show w.heap.size ≤ z; omega)) _⟩
  | some i =>
    obtain ⟨x, hx, hxn⟩ := plc_some hp
    have e1 : getV l n = .tuple #[.agg x.cs, .bool true] := by rw [getV, getC_plc hp hx]; rfl
    rw [e1]
    rw [hp, plc_ahd OK.out.nms hp] at FD
    obtain ⟨u, c, e⟩ := A1.out.shape
    have o1 := A1.out.own
    have v1 := A1.out.cell.1
    rw [e] at o1 v1
    obtain ⟨g, rfl, hgc⟩ := o1.at hx
    obtain ⟨d0, d1, d2⟩ := o1.three hx
    have V1 := Lib.hid v1; have D0 := Lib.hid d0; have D1 := Lib.hid d1; have D2 := Lib.hid d2
    have hil : i < l.length := (List.getElem?_eq_some_iff.1 hx).1
    have x2 : (i : Int) < (l.length : Int) := by omega
    have few := OK.out.few
    clear hp e1 e o1 hgc d0 d1 d2 v1 hx hxn ok
    obtain ⟨b0, b1, b2⟩ := x
    simp only [Cu.cs, Option.isSome_some] at *
    go_enter Try.func20, Try.ntmps20
    go_wp2_with fail
    rw [← HW1.out, ← HZ.out]
    clear hW1 hz
    refine FD.out.mono ?_
    rintro e w2 ⟨rfl, k2⟩
    have K2 := Lib.hid k2
    have g2 := k2.heap (by simp) G1.out
    obtain ⟨f0, f1, f2⟩ : w2.frozen? ⟨z, 0, none⟩ = false ∧ w2.frozen? ⟨z, 1, none⟩ = false ∧ w2.frozen? ⟨z, 2, none⟩ = false := ⟨frozen_of_row _ _ _ _ _ g2, frozen_of_row _ _ _ _ _ g2, frozen_of_row _ _ _ _ _ g2⟩
    obtain ⟨c0, c1, c2⟩ : w2.cell? ⟨z, 0, none⟩ = some (.string ⟨#[]⟩) ∧ w2.cell? ⟨z, 1, none⟩ = some (.int .i64 0) ∧ w2.cell? ⟨z, 2, none⟩ = some (.int .i64 0) := ⟨by rw [cell_of_row _ _ _ _ _ _ g2]; rfl, by rw [cell_of_row _ _ _ _ _ _ g2]; rfl, by rw [cell_of_row _ _ _ _ _ _ g2]; rfl⟩
    have v2 := k2.cell (by simp) V1.out
    have d0 := k2.cell (by simp) D0.out
    have d1 := k2.cell (by simp) D1.out
    have d2 := k2.cell (by simp) D2.out
    clear k2 g2
    go_wp2
    refine bodyPost_ret (v := .tuple #[.agg #[.string b0, .int .i64 b1, .int .i64 b2], .bool true]) (by simp [results, Try.results20, go_sem, *]) rfl ?_
    have hz := HZ.out
    exact ⟨rfl, (((K1.out.trans K2.out (by simp)).setCell (p := ⟨z, 0, none⟩) (.inr (by show w.heap.size ≤ z; omega)) _).setCell (p := ⟨z, 1, none⟩) (.inr (by show w.heap.size ≤ z; omega)) _).setCell (p := ⟨z, 2, none⟩) (.inr (by show w.heap.size ≤ z; omega)) _⟩

set_option maxHeartbeats 1000000 in
theorem call_nil (w : World) : Calls Try.prog 23 #[.pointer none] w fun e w' => e = .returned (.slice none 0 0) ∧ w' = w := by
  go_enter Try.func23, Try.ntmps23
  go_wp2
  go_ret
  exact ⟨rfl, rfl⟩

set_option maxHeartbeats 1000000 in
theorem call_any (a : Cc cuT cuE w B h V l) (hl : l.length ≤ 1000) : Calls Try.prog 23 #[.pointer (some ⟨h, 0, none⟩)] w fun e w' => ∃ v', e = .returned v' ∧ OwnK encCu w' w.heap.size cuE v' l ∧ Kept w w' [] := by
  obtain ⟨u, c, e⟩ := a.shape
  have c0 := a.cell.1
  have CL := Lib.hid (cclone_any V l w a.own.rd hl)
  rw [e] at c0 CL
  clear a e
  go_enter Try.func23, Try.ntmps23
  go_wp2_with fail
  refine CL.out.mono ?_
  rintro e w2 ⟨v', rfl, ho, hk⟩
  have Ho := Lib.hid ho; have Hk := Lib.hid hk
  clear ho hk
  go_wp2
  go_ret
  exact ⟨_, rfl, Ho.out, Hk.out⟩

end Go.Proofs.Ytnoiomaoignndaa
