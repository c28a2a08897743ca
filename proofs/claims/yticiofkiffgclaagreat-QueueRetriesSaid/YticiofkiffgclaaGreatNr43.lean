/-
  Zqa, Zqb in one text.
-/
import Derived.Test.YticiofkiffgclaaGreatNr42
import Derived.Test.YticiofkiffgclaaGreatNr5
import Derived.Test.YticiofkiffgclaaGreatNr38
import Derived.Test.YticiofkiffgclaaGreatNr17
import Derived.Test.YticiofkiffgclaaGreatNr10
import Derived.Test.YticiofkiffgclaaGreatNr32
import Derived.Test.YticiofkiffgclaaGreatRows
import Derived.Test.YticiofkiffgclaaGreatChecked
import Derived.ProofKit
import Derived.Deep.QuietTactic
import Derived.BigQuiet
namespace Go.Proofs.YticiofkiffgclaaGreat
set_option linter.unusedVariables false
open Go.RowKit Go.Maps

abbrev quT : TypeId := 122
structure Hk where
  h : Nat
  p : Nat
  hs : Nat
  ht : Nat
  hc : Nat
  hr : Nat
structure Kv where
  V : Nat → Value
  VT : Value
  VC : Value
  VR : Value
  nx : Value
def kR (a : Hk) (d : Kv) : Array Value := #[.pointer (some ⟨a.p, 0, none⟩), .pointer (some ⟨a.hs, 0, none⟩), .pointer (some ⟨a.ht, 0, none⟩), .pointer (some ⟨a.hc, 0, none⟩), .pointer (some ⟨a.hr, 0, none⟩), d.nx]
def kfoot (a : Hk) (d : Kv) : Nat → Prop := fun k => k = a.h ∨ sfoot a.hs d.V k ∨ tfoot a.ht d.VT k ∨ cfoot a.hc d.VC k ∨ lfoot a.hr d.VR k

structure Kq (w : World) (B : Nat) (a : Hk) (d : Kv) (l : Nat → List Ev) (c : Nat) (xs : List Tk) (cs : List Cu) (rs : List It) : Prop where
  hh : w.heap[a.h]? = some (.cells (kR a d) quT (0, 0))
  bh : B ≤ a.h
  sp : Sp spT w B a.hs d.V l c
  ds : Dst d.V
  tk : Tc tkT [] w B a.ht d.VT xs
  cu : Cc cuT cuE w B a.hc d.VC cs
  rt : Ls encIt rtT rtE w B a.hr d.VR rs

variable {w w' : World} {B : Nat} {a : Hk} {d : Kv} {l : Nat → List Ev} {c : Nat} {xs : List Tk} {cs : List Cu} {rs : List It}

theorem Kq.tyS (q : Kq w B a d l c xs cs rs) {k : Nat} (hk : sfoot a.hs d.V k) : ∃ x t f, w.heap[k]? = some (.cells x t f) ∧ t ∈ [spT, evT] := by
  rcases hk with rfl | ⟨i, hi, hk⟩
  · exact ⟨_, _, _, q.sp.hh, by simp⟩
  · obtain ⟨x, hx⟩ := (q.sp.own i hi).tag hk
    exact ⟨_, _, _, hx, by simp⟩
theorem Kq.tyT (q : Kq w B a d l c xs cs rs) {k : Nat} (hk : tfoot a.ht d.VT k) : ∃ x t f, w.heap[k]? = some (.cells x t f) ∧ t ∈ [tkT, 38] := by
  rcases hk with rfl | hk
  · exact ⟨_, _, _, q.tk.hh, by simp⟩
  · obtain ⟨x, hx⟩ := q.tk.own.tag hk
    exact ⟨_, _, _, hx, by simp⟩
theorem Kq.tyC (q : Kq w B a d l c xs cs rs) {k : Nat} (hk : cfoot a.hc d.VC k) : ∃ x t f, w.heap[k]? = some (.cells x t f) ∧ t ∈ [cuT, cuE] := by
  rcases hk with rfl | hk
  · exact ⟨_, _, _, q.cu.hh, by simp⟩
  · obtain ⟨x, hx⟩ := q.cu.own.tag hk
    exact ⟨_, _, _, hx, by simp⟩
theorem Kq.tyR (q : Kq w B a d l c xs cs rs) {k : Nat} (hk : lfoot a.hr d.VR k) : ∃ x t f, w.heap[k]? = some (.cells x t f) ∧ t ∈ [rtT, rtE] := by
  rcases hk with rfl | hk
  · exact ⟨_, _, _, q.rt.hh, by simp⟩
  · obtain ⟨x, hx⟩ := q.rt.own.tag hk
    exact ⟨_, _, _, hx, by simp⟩
def kts : List TypeId := [quT, spT, evT, tkT, 38, cuT, cuE, rtT, rtE]
theorem two_tags {w : World} {k : Nat} {c1 c2 : Array Value} {t1 t2 : TypeId} {f1 f2 : Nat × Nat} {A C : List TypeId} (x : w.heap[k]? = some (.cells c1 t1 f1)) (hx : t1 ∈ A) (y : w.heap[k]? = some (.cells c2 t2 f2)) (hy : t2 ∈ C) (h : ∀ t ∈ A, t ∉ C) : False := by
  have := tag_one x y
  subst this
  exact h _ hx hy
theorem Kq.kind (q : Kq w B a d l c xs cs rs) {k : Nat} (hk : kfoot a d k) : ∃ x t f, w.heap[k]? = some (.cells x t f) ∧ t ∈ kts := by
  rcases hk with rfl | hk | hk | hk | hk
  · exact ⟨_, _, _, q.hh, by simp [kts]⟩
  · obtain ⟨x, t, f, h1, h2⟩ := q.tyS hk
    exact ⟨x, t, f, h1, (by decide : ∀ t ∈ [spT, evT], t ∈ kts) t h2⟩
  · obtain ⟨x, t, f, h1, h2⟩ := q.tyT hk
    exact ⟨x, t, f, h1, (by decide : ∀ t ∈ [tkT, 38], t ∈ kts) t h2⟩
  · obtain ⟨x, t, f, h1, h2⟩ := q.tyC hk
    exact ⟨x, t, f, h1, (by decide : ∀ t ∈ [cuT, cuE], t ∈ kts) t h2⟩
  · obtain ⟨x, t, f, h1, h2⟩ := q.tyR hk
    exact ⟨x, t, f, h1, (by decide : ∀ t ∈ [rtT, rtE], t ∈ kts) t h2⟩
theorem Kq.lt (q : Kq w B a d l c xs cs rs) : ∀ k, kfoot a d k → B ≤ k ∧ k < w.heap.size := by
  rintro k (rfl | hk | hk | hk | hk)
  · exact ⟨q.bh, heap_lt q.hh⟩
  · exact q.sp.lt k hk
  · exact q.tk.lt k hk
  · exact q.cu.lt k hk
  · exact q.rt.lt k hk
theorem Kq.noT (q : Kq w B a d l c xs cs rs) {ts : List TypeId} (ht : ∀ t ∈ kts, t ∉ ts) : NoT w (kfoot a d) ts := by
  intro k hk x t f hc hm
  obtain ⟨x2, t2, f2, h1, h2⟩ := q.kind hk
  exact two_tags h1 h2 hc hm ht
theorem Kq.noI (q : Kq w B a d l c xs cs rs) : NoI w (kfoot a d) := fun k hk x f hc => q.noT (ts := [2]) (by decide) k hk x _ f hc (by simp)
theorem Kq.noM (q : Kq w B a d l c xs cs rs) : NoM w (kfoot a d) := by
  intro k hk es x hc
  obtain ⟨x2, t2, f2, h1, h2⟩ := q.kind hk
  rw [h1] at hc
  cases hc
theorem Kq.fo (q : Kq w B a d l c xs cs rs) {O : Nat → Prop} (hf : Fo O w w') (hd : ∀ k, kfoot a d k → ¬ O k) (hn : NoI w O) : Kq w' B a d l c xs cs rs :=
  ⟨hf.heap (hd _ (.inl rfl)) q.hh, q.bh, q.sp.fo hf (fun k hk => hd k (.inr (.inl hk))), q.ds, q.tk.fo hf (fun k hk => hd k (.inr (.inr (.inl hk)))) hn, q.cu.fo hf (fun k hk => hd k (.inr (.inr (.inr (.inl hk))))), q.rt.fo hf (fun k hk => hd k (.inr (.inr (.inr (.inr hk)))))⟩
theorem Kq.keep (q : Kq w B a d l c xs cs rs) (hk : Kept w w' []) : Kq w' B a d l c xs cs rs := q.fo (Fo.ofKept hk (fun _ => False)) (fun _ _ h => h) (NoI.none w)
theorem Kq.fm (q : Kq w B a d l c xs cs rs) {C : Nat} {ts : List TypeId} (hf : Fm C ts w w') (ht : ∀ t ∈ kts, t ∉ ts) (hi : 2 ∉ ts) : Kq w' B a d l c xs cs rs := by
  refine q.fo hf.fo (fun k hk ho => ?_) (off_noI hi)
  obtain ⟨c, t, f, h1, h2⟩ := q.kind hk
  exact off_not h1 (ht t h2) ho
theorem Kq.cell (q : Kq w B a d l c xs cs rs) {i : Nat} {v : Value} (hv : (kR a d)[i]? = some v) : w.cell? ⟨a.h, i, none⟩ = some v ∧ w.frozen? ⟨a.h, i, none⟩ = false :=
  ⟨by have e : (kR a d) = (kR a d).toList.toArray := rfl
      have hh := q.hh
      rw [e] at hh
      rw [cell_of_row _ _ _ _ _ _ hh]; simpa using hv, by
      have e : (kR a d) = (kR a d).toList.toArray := rfl
      have hh := q.hh
      rw [e] at hh
      exact frozen_of_row _ _ _ _ _ hh⟩

theorem not_h {w : World} {k h : Nat} {x : Array Value} {T : TypeId} {f : Nat × Nat} (hh : w.heap[h]? = some (.cells x T f)) {C : List TypeId} (hT : T ∉ C) (y : ∃ x t f, w.heap[k]? = some (.cells x t f) ∧ t ∈ C) : k ≠ h := by
  rintro rfl
  obtain ⟨x2, t2, f2, h1, h2⟩ := y
  rw [tag_one hh h1] at hT
  exact hT h2
theorem dis2 {w : World} {k : Nat} {A C : List TypeId} (x : ∃ x t f, w.heap[k]? = some (.cells x t f) ∧ t ∈ A) (y : ∃ x t f, w.heap[k]? = some (.cells x t f) ∧ t ∈ C) (h : ∀ t ∈ A, t ∉ C) : False := by
  obtain ⟨x1, t1, f1, h1, h2⟩ := x
  obtain ⟨x2, t2, f2, h3, h4⟩ := y
  exact two_tags h1 h2 h3 h4 h

theorem Kq.ofSpools (q : Kq w B a d l c xs cs rs) {V' : Nat → Value} {l' : Nat → List Ev} {c' : Nat} (s : Sp spT w' B a.hs V' l' c') (hd : Dst V') (st : Stp (sfoot a.hs d.V) (sfoot a.hs V') w w') :
    Kq w' B a { d with V := V' } l' c' xs cs rs ∧ Stp (kfoot a d) (kfoot a { d with V := V' }) w w' := by
  have hf := st.1
  have hn : NoI w (sfoot a.hs d.V) := fun k hk => q.noI k (.inr (.inl hk))
  refine ⟨⟨hf.heap (fun hk => not_h q.hh (by decide) (q.tyS hk) rfl) q.hh, q.bh, s, hd, q.tk.fo hf (fun k hk ho => dis2 (q.tyT hk) (q.tyS ho) (by decide)) hn, q.cu.fo hf (fun k hk ho => dis2 (q.tyC hk) (q.tyS ho) (by decide)), q.rt.fo hf (fun k hk ho => dis2 (q.tyR hk) (q.tyS ho) (by decide))⟩, hf.mono (fun k hk => .inr (.inl hk)), ?_⟩
  rintro k (hk | hk | hk)
  · exact .inl (.inl hk)
  · exact (st.2 k hk).imp (fun h => .inr (.inl h)) id
  · exact .inl (.inr (.inr hk))
theorem Kq.ofTicks (q : Kq w B a d l c xs cs rs) {VT' : Value} {xs' : List Tk} (s : Tc tkT [] w' B a.ht VT' xs') (st : Stp (tfoot a.ht d.VT) (tfoot a.ht VT') w w') :
    Kq w' B a { d with VT := VT' } l c xs' cs rs ∧ Stp (kfoot a d) (kfoot a { d with VT := VT' }) w w' := by
  have hf := st.1
  refine ⟨⟨hf.heap (fun hk => not_h q.hh (by decide) (q.tyT hk) rfl) q.hh, q.bh, q.sp.fo hf (fun k hk ho => dis2 (q.tyS hk) (q.tyT ho) (by decide)), q.ds, s, q.cu.fo hf (fun k hk ho => dis2 (q.tyC hk) (q.tyT ho) (by decide)), q.rt.fo hf (fun k hk ho => dis2 (q.tyR hk) (q.tyT ho) (by decide))⟩, hf.mono (fun k hk => .inr (.inr (.inl hk))), ?_⟩
  rintro k (hk | hk | hk | hk)
  · exact .inl (.inl hk)
  · exact .inl (.inr (.inl hk))
  · exact (st.2 k hk).imp (fun h => .inr (.inr (.inl h))) id
  · exact .inl (.inr (.inr (.inr hk)))
theorem Kq.ofCursors (q : Kq w B a d l c xs cs rs) {VC' : Value} {cs' : List Cu} (s : Cc cuT cuE w' B a.hc VC' cs') (st : Stp (cfoot a.hc d.VC) (cfoot a.hc VC') w w') :
    Kq w' B a { d with VC := VC' } l c xs cs' rs ∧ Stp (kfoot a d) (kfoot a { d with VC := VC' }) w w' := by
  have hf := st.1
  have hn : NoI w (cfoot a.hc d.VC) := fun k hk => q.noI k (.inr (.inr (.inr (.inl hk))))
  refine ⟨⟨hf.heap (fun hk => not_h q.hh (by decide) (q.tyC hk) rfl) q.hh, q.bh, q.sp.fo hf (fun k hk ho => dis2 (q.tyS hk) (q.tyC ho) (by decide)), q.ds, q.tk.fo hf (fun k hk ho => dis2 (q.tyT hk) (q.tyC ho) (by decide)) hn, s, q.rt.fo hf (fun k hk ho => dis2 (q.tyR hk) (q.tyC ho) (by decide))⟩, hf.mono (fun k hk => .inr (.inr (.inr (.inl hk)))), ?_⟩
  rintro k (hk | hk | hk | hk | hk)
  · exact .inl (.inl hk)
  · exact .inl (.inr (.inl hk))
  · exact .inl (.inr (.inr (.inl hk)))
  · exact (st.2 k hk).imp (fun h => .inr (.inr (.inr (.inl h)))) id
  · exact .inl (.inr (.inr (.inr (.inr hk))))
theorem Kq.ofRetries (q : Kq w B a d l c xs cs rs) {VR' : Value} {rs' : List It} (s : Ls encIt rtT rtE w' B a.hr VR' rs') (st : Stp (lfoot a.hr d.VR) (lfoot a.hr VR') w w') :
    Kq w' B a { d with VR := VR' } l c xs cs rs' ∧ Stp (kfoot a d) (kfoot a { d with VR := VR' }) w w' := by
  have hf := st.1
  have hn : NoI w (lfoot a.hr d.VR) := fun k hk => q.noI k (.inr (.inr (.inr (.inr hk))))
  refine ⟨⟨hf.heap (fun hk => not_h q.hh (by decide) (q.tyR hk) rfl) q.hh, q.bh, q.sp.fo hf (fun k hk ho => dis2 (q.tyS hk) (q.tyR ho) (by decide)), q.ds, q.tk.fo hf (fun k hk ho => dis2 (q.tyT hk) (q.tyR ho) (by decide)) hn, q.cu.fo hf (fun k hk ho => dis2 (q.tyC hk) (q.tyR ho) (by decide)), s⟩, hf.mono (fun k hk => .inr (.inr (.inr (.inr hk)))), ?_⟩
  rintro k (hk | hk | hk | hk | hk)
  · exact .inl (.inl hk)
  · exact .inl (.inr (.inl hk))
  · exact .inl (.inr (.inr (.inl hk)))
  · exact .inl (.inr (.inr (.inr (.inl hk))))
  · exact (st.2 k hk).imp (fun h => .inr (.inr (.inr (.inr h)))) id
theorem Kq.setNext (q : Kq w B a d l c xs cs rs) (v : Value) : Kq (w.setCell ⟨a.h, 5, none⟩ v) B a { d with nx := v } l c xs cs rs ∧ Stp (kfoot a d) (kfoot a { d with nx := v }) w (w.setCell ⟨a.h, 5, none⟩ v) := by
  have hf : Fo (fun k => k = a.h) w (w.setCell ⟨a.h, 5, none⟩ v) := Fo.setCell (O := fun k => k = a.h) (Fo.refl _ w) (p := ⟨a.h, 5, none⟩) (.inl rfl) v
  have hn : NoI w (fun k => k = a.h) := fun k hk => q.noI k (.inl hk)
  refine ⟨⟨by rw [heap_setCell_at q.hh]; rfl, q.bh, q.sp.fo hf (fun k hk e => not_h q.hh (by decide) (q.tyS hk) e), q.ds, q.tk.fo hf (fun k hk e => not_h q.hh (by decide) (q.tyT hk) e) hn, q.cu.fo hf (fun k hk e => not_h q.hh (by decide) (q.tyC hk) e), q.rt.fo hf (fun k hk e => not_h q.hh (by decide) (q.tyR hk) e)⟩, hf.mono (fun k hk => .inl hk), fun k hk => .inl hk⟩

structure KS (w : World) (B : Nat) (a : Hk) (st : List Nat) (q : Qs) (O : Nat → Prop) : Prop where
  ex : ∃ (b : Nat) (u : Value) (d : Kv) (xs : List Tk), Kq w B a d q.l q.c xs q.cs q.rs ∧ Mg w B a.p b u st ∧ xs.map Tk.pl = q.ps ∧ d.nx = .int .i64 q.nx ∧ O = kfoot a d
variable {st : List Nat} {q : Qs} {O : Nat → Prop} {h m : Nat}
theorem KS.lt (s : KS w B a st q O) : ∀ k, O k → B ≤ k ∧ k < w.heap.size := by
  obtain ⟨b, u, d, xs, k, g, e1, e2, rfl⟩ := s.ex
  exact k.lt
theorem KS.keep (s : KS w B a st q O) (hk : Kept w w' []) : KS w' B a st q O := by
  obtain ⟨b, u, d, xs, k, g, e1, e2, rfl⟩ := s.ex
  exact ⟨b, u, d, xs, k.keep hk, g.keep hk, e1, e2, rfl⟩
theorem KS.fo (s : KS w B a st q O) {P : Nat → Prop} (hf : Fo P w w') (hd : ∀ k, O k → ¬ P k) (hn : NoI w P) (ht : NoT w P mts) (hm : NoM w P) : KS w' B a st q O := by
  obtain ⟨b, u, d, xs, k, g, e1, e2, rfl⟩ := s.ex
  exact ⟨b, u, d, xs, k.fo hf hd hn, g.fo hf ht hm, e1, e2, rfl⟩
theorem Kq.mg (k : Kq w B a d l c xs cs rs) {C : Nat} (f : Fm C mts w w') : Kq w' B a d l c xs cs rs := k.fm f (by decide) (by decide)
theorem KS.cells (s : KS w B a st q O) : (w.cell? ⟨a.h, 0, none⟩ = some (.pointer (some ⟨a.p, 0, none⟩)) ∧ w.cell? ⟨a.h, 1, none⟩ = some (.pointer (some ⟨a.hs, 0, none⟩)) ∧ w.cell? ⟨a.h, 2, none⟩ = some (.pointer (some ⟨a.ht, 0, none⟩)) ∧ w.cell? ⟨a.h, 3, none⟩ = some (.pointer (some ⟨a.hc, 0, none⟩)) ∧ w.cell? ⟨a.h, 4, none⟩ = some (.pointer (some ⟨a.hr, 0, none⟩))) ∧ w.cell? ⟨a.h, 5, none⟩ = some (.int .i64 q.nx) ∧ w.frozen? ⟨a.h, 5, none⟩ = false := by
  obtain ⟨b, u, d, xs, k, g, e1, e2, rfl⟩ := s.ex
  rw [← e2]
  exact ⟨⟨(k.cell (i := 0) rfl).1, (k.cell (i := 1) rfl).1, (k.cell (i := 2) rfl).1, (k.cell (i := 3) rfl).1, (k.cell (i := 4) rfl).1⟩, (k.cell (i := 5) rfl).1, (k.cell (i := 5) rfl).2⟩
theorem KS.man (s : KS w B a st q O) : Man w (.pointer (some ⟨a.p, 0, none⟩)) st := by
  obtain ⟨b, u, d, xs, k, g, e1, e2, rfl⟩ := s.ex
  exact g.man

end Go.Proofs.YticiofkiffgclaaGreat

namespace Go.Proofs.YticiofkiffgclaaGreat
set_option linter.unusedVariables false
open Go.RowKit

variable {w w' : World} {B : Nat} {a : Hk} {st : List Nat} {q : Qs} {O : Nat → Prop}

set_option maxHeartbeats 1000000 in
theorem kticks_any (s : KS w B a st q O) : Calls Tryz.prog 39 #[.pointer (some ⟨a.h, 0, none⟩)] w fun e w' => e = .returned (.pointer (some ⟨a.ht, 0, none⟩)) ∧ w' = w := by
  obtain ⟨⟨c0, c1, c2, c3, c4⟩, c5, c6⟩ := s.cells
  clear s
  go_enter Tryz.func39, Tryz.ntmps39
  go_wp2
  go_ret
  exact ⟨rfl, rfl⟩
set_option maxHeartbeats 1000000 in
theorem kcursors_any (s : KS w B a st q O) : Calls Tryz.prog 37 #[.pointer (some ⟨a.h, 0, none⟩)] w fun e w' => e = .returned (.pointer (some ⟨a.hc, 0, none⟩)) ∧ w' = w := by
  obtain ⟨⟨c0, c1, c2, c3, c4⟩, c5, c6⟩ := s.cells
  clear s
  go_enter Tryz.func37, Tryz.ntmps37
  go_wp2
  go_ret
  exact ⟨rfl, rfl⟩
set_option maxHeartbeats 1000000 in
theorem kretries_any (s : KS w B a st q O) : Calls Tryz.prog 46 #[.pointer (some ⟨a.h, 0, none⟩)] w fun e w' => e = .returned (.pointer (some ⟨a.hr, 0, none⟩)) ∧ w' = w := by
  obtain ⟨⟨c0, c1, c2, c3, c4⟩, c5, c6⟩ := s.cells
  clear s
  go_enter Tryz.func46, Tryz.ntmps46
  go_wp2
  go_ret
  exact ⟨rfl, rfl⟩
set_option maxHeartbeats 1000000 in
theorem knid_any (s : KS w B a st q O) : Calls Tryz.prog 45 #[.pointer (some ⟨a.h, 0, none⟩)] w fun e w' => e = .returned (.int .i64 q.nx) ∧ w' = w := by
  obtain ⟨⟨c0, c1, c2, c3, c4⟩, c5, c6⟩ := s.cells
  clear s
  go_enter Tryz.func45, Tryz.ntmps45
  go_wp2
  go_ret
  exact ⟨rfl, rfl⟩
end Go.Proofs.YticiofkiffgclaaGreat
