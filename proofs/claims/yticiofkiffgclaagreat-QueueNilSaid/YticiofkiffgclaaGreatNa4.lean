/-
  Dqg, Zqa, Zqb, Zqc, Zqd, Zqi in one text.
-/
import Derived.Test.YticiofkiffgclaaGreatNa3
import Derived.Test.YticiofkiffgclaaGreatNa1
import Derived.Test.YticiofkiffgclaaGreatNa2
import Derived.Test.YticiofkiffgclaaGreatRows
import Derived.Test.YticiofkiffgclaaGreatChecked
import Derived.ProofKit
import Derived.Deep.QuietTactic
import Derived.BigQuiet
namespace Go.Proofs.YticiofkiffgclaaGreat
set_option linter.unusedVariables false
open Go.RowKit Go.Maps

def NoT (w : World) (O : Nat → Prop) (ts : List TypeId) : Prop := ∀ k, O k → ∀ c t f, w.heap[k]? = some (.cells c t f) → t ∉ ts
def NoM (w : World) (O : Nat → Prop) : Prop := ∀ k, O k → ∀ es c, w.heap[k]? ≠ some (.map es c)

theorem ownsRow_tag {w : World} {base e size n : Nat} {v : Value} {xs : List Value} (h : w.ownsRow base e size v n xs) {g : Nat} (hg : v.ownBlock = some g) : ∃ cur, w.heap[g]? = some (.cells cur e (0, 0)) := by
  rcases h.2 with ⟨h2, _⟩ | ⟨g', cap, cur, rfl, _, hc, _⟩
  · rw [h2] at hg; cases hg
  · obtain rfl : g' = g := by simpa [Value.ownBlock] using hg
    exact ⟨cur, hc⟩
theorem ownsMap_fo {H : Type} {P : Program} {k : TypeId} {R : Value → Option (DataW H × List MemPlace)} {w w' : World} {b n : Nat} {O : Nat → Prop} {D : DataW H} (h : w.ownsMap P k R b n D) (hf : Fo O w w') (hn : NoM w O) : w'.ownsMap P k R b n D := by
  obtain ⟨es, c, hb, r⟩ := h
  exact ⟨es, c, hf.heap (fun ho => hn b ho _ _ hb) hb, r⟩

theorem Mg.fo {w w' : World} {B p b : Nat} {v : Value} {st : List Nat} {O : Nat → Prop} (h : Mg w B p b v st) (hf : Fo O w w') (hn : NoT w O mts) (hm : NoM w O) : Mg w' B p b v st :=
  { h with
    hp := hf.heap (fun ho => hn p ho _ _ _ h.hp (by simp [mts])) h.hp
    hm := ownsMap_fo h.hm hf hm
    hv := ownsRow_fo h.hv hf fun g hg ho => by
      obtain ⟨cur, hc⟩ := ownsRow_tag h.hv hg
      exact hn g ho _ _ _ hc (by simp [mts]) }

variable {T : TypeId} {w w' : World} {B h : Nat} {d : Dv} {l : Nat → List Ev} {xs : List Tk} {cs : List Cu} {rs : List It}

variable {q : Nat} {v : Value} {st : List Nat}
end Go.Proofs.YticiofkiffgclaaGreat

namespace Go.Proofs.YticiofkiffgclaaGreat
set_option linter.unusedVariables false
open Go.RowKit Go.Maps

abbrev quT : TypeId := 122
structure Hk where
  h : Nat
  p : Nat
  hs : Nat
  ht : Nat
  hc : Nat
  hr : Nat
structure Kv where
  V : Nat → Value
  VT : Value
  VC : Value
  VR : Value
  nx : Value
def kR (a : Hk) (d : Kv) : Array Value := #[.pointer (some ⟨a.p, 0, none⟩), .pointer (some ⟨a.hs, 0, none⟩), .pointer (some ⟨a.ht, 0, none⟩), .pointer (some ⟨a.hc, 0, none⟩), .pointer (some ⟨a.hr, 0, none⟩), d.nx]
def kfoot (a : Hk) (d : Kv) : Nat → Prop := fun k => k = a.h ∨ sfoot a.hs d.V k ∨ tfoot a.ht d.VT k ∨ cfoot a.hc d.VC k ∨ lfoot a.hr d.VR k

structure Kq (w : World) (B : Nat) (a : Hk) (d : Kv) (l : Nat → List Ev) (c : Nat) (xs : List Tk) (cs : List Cu) (rs : List It) : Prop where
  hh : w.heap[a.h]? = some (.cells (kR a d) quT (0, 0))
  bh : B ≤ a.h
  sp : Sp spT w B a.hs d.V l c
  ds : Dst d.V
  tk : Tc tkT [] w B a.ht d.VT xs
  cu : Cc cuT cuE w B a.hc d.VC cs
  rt : Ls encIt rtT rtE w B a.hr d.VR rs

variable {w w' : World} {B : Nat} {a : Hk} {d : Kv} {l : Nat → List Ev} {c : Nat} {xs : List Tk} {cs : List Cu} {rs : List It}

theorem Kq.tyS (q : Kq w B a d l c xs cs rs) {k : Nat} (hk : sfoot a.hs d.V k) : ∃ x t f, w.heap[k]? = some (.cells x t f) ∧ t ∈ [spT, evT] := by
  rcases hk with rfl | ⟨i, hi, hk⟩
  · exact ⟨_, _, _, q.sp.hh, by simp⟩
  · obtain ⟨x, hx⟩ := (q.sp.own i hi).tag hk
    exact ⟨_, _, _, hx, by simp⟩
theorem Kq.tyT (q : Kq w B a d l c xs cs rs) {k : Nat} (hk : tfoot a.ht d.VT k) : ∃ x t f, w.heap[k]? = some (.cells x t f) ∧ t ∈ [tkT, 38] := by
  rcases hk with rfl | hk
  · exact ⟨_, _, _, q.tk.hh, by simp⟩
  · obtain ⟨x, hx⟩ := q.tk.own.tag hk
    exact ⟨_, _, _, hx, by simp⟩
theorem Kq.tyC (q : Kq w B a d l c xs cs rs) {k : Nat} (hk : cfoot a.hc d.VC k) : ∃ x t f, w.heap[k]? = some (.cells x t f) ∧ t ∈ [cuT, cuE] := by
  rcases hk with rfl | hk
  · exact ⟨_, _, _, q.cu.hh, by simp⟩
  · obtain ⟨x, hx⟩ := q.cu.own.tag hk
    exact ⟨_, _, _, hx, by simp⟩
theorem Kq.tyR (q : Kq w B a d l c xs cs rs) {k : Nat} (hk : lfoot a.hr d.VR k) : ∃ x t f, w.heap[k]? = some (.cells x t f) ∧ t ∈ [rtT, rtE] := by
  rcases hk with rfl | hk
  · exact ⟨_, _, _, q.rt.hh, by simp⟩
  · obtain ⟨x, hx⟩ := q.rt.own.tag hk
    exact ⟨_, _, _, hx, by simp⟩
def kts : List TypeId := [quT, spT, evT, tkT, 38, cuT, cuE, rtT, rtE]
theorem two_tags {w : World} {k : Nat} {c1 c2 : Array Value} {t1 t2 : TypeId} {f1 f2 : Nat × Nat} {A C : List TypeId} (x : w.heap[k]? = some (.cells c1 t1 f1)) (hx : t1 ∈ A) (y : w.heap[k]? = some (.cells c2 t2 f2)) (hy : t2 ∈ C) (h : ∀ t ∈ A, t ∉ C) : False := by
  have := tag_one x y
  subst this
  exact h _ hx hy
theorem Kq.kind (q : Kq w B a d l c xs cs rs) {k : Nat} (hk : kfoot a d k) : ∃ x t f, w.heap[k]? = some (.cells x t f) ∧ t ∈ kts := by
  rcases hk with rfl | hk | hk | hk | hk
  · exact ⟨_, _, _, q.hh, by simp [kts]⟩
  · obtain ⟨x, t, f, h1, h2⟩ := q.tyS hk
    exact ⟨x, t, f, h1, (by decide : ∀ t ∈ [spT, evT], t ∈ kts) t h2⟩
  · obtain ⟨x, t, f, h1, h2⟩ := q.tyT hk
    exact ⟨x, t, f, h1, (by decide : ∀ t ∈ [tkT, 38], t ∈ kts) t h2⟩
  · obtain ⟨x, t, f, h1, h2⟩ := q.tyC hk
    exact ⟨x, t, f, h1, (by decide : ∀ t ∈ [cuT, cuE], t ∈ kts) t h2⟩
  · obtain ⟨x, t, f, h1, h2⟩ := q.tyR hk
    exact ⟨x, t, f, h1, (by decide : ∀ t ∈ [rtT, rtE], t ∈ kts) t h2⟩
theorem Kq.lt (q : Kq w B a d l c xs cs rs) : ∀ k, kfoot a d k → B ≤ k ∧ k < w.heap.size := by
  rintro k (rfl | hk | hk | hk | hk)
  · exact ⟨q.bh, heap_lt q.hh⟩
  · exact q.sp.lt k hk
  · exact q.tk.lt k hk
  · exact q.cu.lt k hk
  · exact q.rt.lt k hk
theorem Kq.noT (q : Kq w B a d l c xs cs rs) {ts : List TypeId} (ht : ∀ t ∈ kts, t ∉ ts) : NoT w (kfoot a d) ts := by
  intro k hk x t f hc hm
  obtain ⟨x2, t2, f2, h1, h2⟩ := q.kind hk
  exact two_tags h1 h2 hc hm ht
theorem Kq.noI (q : Kq w B a d l c xs cs rs) : NoI w (kfoot a d) := fun k hk x f hc => q.noT (ts := [2]) (by decide) k hk x _ f hc (by simp)
theorem Kq.noM (q : Kq w B a d l c xs cs rs) : NoM w (kfoot a d) := by
  intro k hk es x hc
  obtain ⟨x2, t2, f2, h1, h2⟩ := q.kind hk
  rw [h1] at hc
  cases hc
theorem Kq.fo (q : Kq w B a d l c xs cs rs) {O : Nat → Prop} (hf : Fo O w w') (hd : ∀ k, kfoot a d k → ¬ O k) (hn : NoI w O) : Kq w' B a d l c xs cs rs :=
  ⟨hf.heap (hd _ (.inl rfl)) q.hh, q.bh, q.sp.fo hf (fun k hk => hd k (.inr (.inl hk))), q.ds, q.tk.fo hf (fun k hk => hd k (.inr (.inr (.inl hk)))) hn, q.cu.fo hf (fun k hk => hd k (.inr (.inr (.inr (.inl hk))))), q.rt.fo hf (fun k hk => hd k (.inr (.inr (.inr (.inr hk)))))⟩
theorem Kq.keep (q : Kq w B a d l c xs cs rs) (hk : Kept w w' []) : Kq w' B a d l c xs cs rs := q.fo (Fo.ofKept hk (fun _ => False)) (fun _ _ h => h) (NoI.none w)
theorem Kq.cell (q : Kq w B a d l c xs cs rs) {i : Nat} {v : Value} (hv : (kR a d)[i]? = some v) : w.cell? ⟨a.h, i, none⟩ = some v ∧ w.frozen? ⟨a.h, i, none⟩ = false :=
  ⟨by have e : (kR a d) = (kR a d).toList.toArray := rfl
      have hh := q.hh
      rw [e] at hh
      rw [cell_of_row _ _ _ _ _ _ hh]; simpa using hv, by
      have e : (kR a d) = (kR a d).toList.toArray := rfl
      have hh := q.hh
      rw [e] at hh
      exact frozen_of_row _ _ _ _ _ hh⟩

theorem not_h {w : World} {k h : Nat} {x : Array Value} {T : TypeId} {f : Nat × Nat} (hh : w.heap[h]? = some (.cells x T f)) {C : List TypeId} (hT : T ∉ C) (y : ∃ x t f, w.heap[k]? = some (.cells x t f) ∧ t ∈ C) : k ≠ h := by
  rintro rfl
  obtain ⟨x2, t2, f2, h1, h2⟩ := y
  rw [tag_one hh h1] at hT
  exact hT h2
theorem dis2 {w : World} {k : Nat} {A C : List TypeId} (x : ∃ x t f, w.heap[k]? = some (.cells x t f) ∧ t ∈ A) (y : ∃ x t f, w.heap[k]? = some (.cells x t f) ∧ t ∈ C) (h : ∀ t ∈ A, t ∉ C) : False := by
  obtain ⟨x1, t1, f1, h1, h2⟩ := x
  obtain ⟨x2, t2, f2, h3, h4⟩ := y
  exact two_tags h1 h2 h3 h4 h

theorem Kq.ofCursors (q : Kq w B a d l c xs cs rs) {VC' : Value} {cs' : List Cu} (s : Cc cuT cuE w' B a.hc VC' cs') (st : Stp (cfoot a.hc d.VC) (cfoot a.hc VC') w w') :
    Kq w' B a { d with VC := VC' } l c xs cs' rs ∧ Stp (kfoot a d) (kfoot a { d with VC := VC' }) w w' := by
  have hf := st.1
  have hn : NoI w (cfoot a.hc d.VC) := fun k hk => q.noI k (.inr (.inr (.inr (.inl hk))))
  refine ⟨⟨hf.heap (fun hk => not_h q.hh (by decide) (q.tyC hk) rfl) q.hh, q.bh, q.sp.fo hf (fun k hk ho => dis2 (q.tyS hk) (q.tyC ho) (by decide)), q.ds, q.tk.fo hf (fun k hk ho => dis2 (q.tyT hk) (q.tyC ho) (by decide)) hn, s, q.rt.fo hf (fun k hk ho => dis2 (q.tyR hk) (q.tyC ho) (by decide))⟩, hf.mono (fun k hk => .inr (.inr (.inr (.inl hk)))), ?_⟩
  rintro k (hk | hk | hk | hk | hk)
  · exact .inl (.inl hk)
  · exact .inl (.inr (.inl hk))
  · exact .inl (.inr (.inr (.inl hk)))
  · exact (st.2 k hk).imp (fun h => .inr (.inr (.inr (.inl h)))) id
  · exact .inl (.inr (.inr (.inr (.inr hk))))
structure KS (w : World) (B : Nat) (a : Hk) (st : List Nat) (q : Qs) (O : Nat → Prop) : Prop where
  ex : ∃ (b : Nat) (u : Value) (d : Kv) (xs : List Tk), Kq w B a d q.l q.c xs q.cs q.rs ∧ Mg w B a.p b u st ∧ xs.map Tk.pl = q.ps ∧ d.nx = .int .i64 q.nx ∧ O = kfoot a d
variable {st : List Nat} {q : Qs} {O : Nat → Prop} {h m : Nat}
theorem KS.lt (s : KS w B a st q O) : ∀ k, O k → B ≤ k ∧ k < w.heap.size := by
  obtain ⟨b, u, d, xs, k, g, e1, e2, rfl⟩ := s.ex
  exact k.lt
theorem KS.keep (s : KS w B a st q O) (hk : Kept w w' []) : KS w' B a st q O := by
  obtain ⟨b, u, d, xs, k, g, e1, e2, rfl⟩ := s.ex
  exact ⟨b, u, d, xs, k.keep hk, g.keep hk, e1, e2, rfl⟩
theorem KS.cells (s : KS w B a st q O) : (w.cell? ⟨a.h, 0, none⟩ = some (.pointer (some ⟨a.p, 0, none⟩)) ∧ w.cell? ⟨a.h, 1, none⟩ = some (.pointer (some ⟨a.hs, 0, none⟩)) ∧ w.cell? ⟨a.h, 2, none⟩ = some (.pointer (some ⟨a.ht, 0, none⟩)) ∧ w.cell? ⟨a.h, 3, none⟩ = some (.pointer (some ⟨a.hc, 0, none⟩)) ∧ w.cell? ⟨a.h, 4, none⟩ = some (.pointer (some ⟨a.hr, 0, none⟩))) ∧ w.cell? ⟨a.h, 5, none⟩ = some (.int .i64 q.nx) ∧ w.frozen? ⟨a.h, 5, none⟩ = false := by
  obtain ⟨b, u, d, xs, k, g, e1, e2, rfl⟩ := s.ex
  rw [← e2]
  exact ⟨⟨(k.cell (i := 0) rfl).1, (k.cell (i := 1) rfl).1, (k.cell (i := 2) rfl).1, (k.cell (i := 3) rfl).1, (k.cell (i := 4) rfl).1⟩, (k.cell (i := 5) rfl).1, (k.cell (i := 5) rfl).2⟩
end Go.Proofs.YticiofkiffgclaaGreat

namespace Go.Proofs.YticiofkiffgclaaGreat
set_option linter.unusedVariables false
open Go.RowKit

variable {w w' : World} {B : Nat} {a : Hk} {st : List Nat} {q : Qs} {O : Nat → Prop}

set_option maxHeartbeats 1000000 in
theorem kspools_nil (w : World) : Calls Tryz.prog 26 #[.pointer none] w fun e w' => e = .returned (.pointer none) ∧ w' = w := by
  go_enter Tryz.func26, Tryz.ntmps26
  go_wp2
  go_ret
  exact ⟨rfl, rfl⟩

set_option maxHeartbeats 1000000 in
theorem kticks_any (s : KS w B a st q O) : Calls Tryz.prog 39 #[.pointer (some ⟨a.h, 0, none⟩)] w fun e w' => e = .returned (.pointer (some ⟨a.ht, 0, none⟩)) ∧ w' = w := by
  obtain ⟨⟨c0, c1, c2, c3, c4⟩, c5, c6⟩ := s.cells
  clear s
  go_enter Tryz.func39, Tryz.ntmps39
  go_wp2
  go_ret
  exact ⟨rfl, rfl⟩
set_option maxHeartbeats 1000000 in
theorem kticks_nil (w : World) : Calls Tryz.prog 39 #[.pointer none] w fun e w' => e = .returned (.pointer none) ∧ w' = w := by
  go_enter Tryz.func39, Tryz.ntmps39
  go_wp2
  go_ret
  exact ⟨rfl, rfl⟩

set_option maxHeartbeats 1000000 in
theorem kcursors_nil (w : World) : Calls Tryz.prog 37 #[.pointer none] w fun e w' => e = .returned (.pointer none) ∧ w' = w := by
  go_enter Tryz.func37, Tryz.ntmps37
  go_wp2
  go_ret
  exact ⟨rfl, rfl⟩

set_option maxHeartbeats 1000000 in
theorem kretries_nil (w : World) : Calls Tryz.prog 46 #[.pointer none] w fun e w' => e = .returned (.pointer none) ∧ w' = w := by
  go_enter Tryz.func46, Tryz.ntmps46
  go_wp2
  go_ret
  exact ⟨rfl, rfl⟩

set_option maxHeartbeats 1000000 in
theorem knid_any (s : KS w B a st q O) : Calls Tryz.prog 45 #[.pointer (some ⟨a.h, 0, none⟩)] w fun e w' => e = .returned (.int .i64 q.nx) ∧ w' = w := by
  obtain ⟨⟨c0, c1, c2, c3, c4⟩, c5, c6⟩ := s.cells
  clear s
  go_enter Tryz.func45, Tryz.ntmps45
  go_wp2
  go_ret
  exact ⟨rfl, rfl⟩
set_option maxHeartbeats 1000000 in
theorem knid_nil (w : World) : Calls Tryz.prog 45 #[.pointer none] w fun e w' => e = .returned (.int .i64 0) ∧ w' = w := by
  go_enter Tryz.func45, Tryz.ntmps45
  go_wp2
  go_ret
  exact ⟨rfl, rfl⟩

set_option maxHeartbeats 1000000 in
theorem ksid_nil (n : Int) (w : World) : Calls Tryz.prog 42 #[.pointer none, .int .i64 n] w fun e w' => e = .returned (.tuple #[]) ∧ w' = w := by
  go_enter Tryz.func42, Tryz.ntmps42
  go_wp2
  exact bodyPost_end (results_none rfl _ _ _) rfl ⟨rfl, rfl⟩

set_option maxHeartbeats 1000000 in
theorem kfrg_nil (x : Int) (w : World) : Calls Tryz.prog 23 #[.pointer none, .int .i64 x] w fun e w' => e = .returned (.int .i64 0) ∧ Kept w w' [] := by
  go_enter Tryz.func23, Tryz.ntmps23
  go_wp2_with fail
  refine (kspools_nil _).mono ?_
  rintro e w1 ⟨rfl, rfl⟩
  go_wp2_with fail
  refine (forget_nil x _).mono ?_
  rintro e w1 ⟨rfl, k1⟩
  go_wp2
  go_ret
  exact ⟨rfl, k1⟩

set_option maxHeartbeats 1000000 in
theorem kfns_nil (n : ByteArray) (w : World) : Calls Tryz.prog 31 #[.pointer none, .string n] w fun e w' => e = .returned (.tuple #[.int .i64 0, .int .i64 4]) ∧ Kept w w' [] := by
  go_enter Tryz.func31, Tryz.ntmps31
  go_wp2_with fail
  refine (kcursors_nil _).mono ?_
  rintro e w1 ⟨rfl, rfl⟩
  go_wp2_with fail
  refine (cfin_nil n _).mono ?_
  rintro e w1 ⟨rfl, rfl⟩
  go_wp2
  (try simp only [Exit.inBlock, Exit.then])
  refine bodyPost_ret (v := .tuple #[.int .i64 0, .int .i64 4]) (by simp [results, Tryz.results31, go_sem]) rfl ?_
  exact ⟨rfl, Kept.refl _ _⟩

set_option maxHeartbeats 1000000 in
theorem kurg_nil (n : ByteArray) (w : World) : Calls Tryz.prog 43 #[.pointer none, .string n] w fun e w' => e = .returned (.int .i64 4) ∧ Kept w w' [] := by
  go_enter Tryz.func43, Tryz.ntmps43
  go_wp2_with fail
  refine (kcursors_nil _).mono ?_
  rintro e w1 ⟨rfl, rfl⟩
  go_wp2_with fail
  refine (cunr_nil n _).mono ?_
  rintro e w1 ⟨rfl, rfl⟩
  go_wp2
  go_ret
  exact ⟨rfl, Kept.refl _ _⟩

set_option maxHeartbeats 1000000 in
theorem krgs_nil (n : ByteArray) (w : World) : Calls Tryz.prog 16 #[.pointer none, .string n] w fun e w' => e = .returned (.int .i64 4) ∧ Kept w w' [] := by
  go_enter Tryz.func16, Tryz.ntmps16
  go_wp2
  go_ret
  exact ⟨rfl, Kept.refl _ _⟩

set_option maxHeartbeats 1000000 in
theorem kfre_nil (w : World) : Calls Tryz.prog 44 #[.pointer none] w fun e w' => e = .returned (.bool false) ∧ Kept w w' [] := by
  go_enter Tryz.func44, Tryz.ntmps44
  go_wp2
  go_ret
  exact ⟨rfl, Kept.refl _ _⟩

set_option maxHeartbeats 1000000 in
theorem krot_nil (w : World) : Calls Tryz.prog 24 #[.pointer none] w fun e w' => e = .returned (.tuple #[.int .u8 0, .int .i64 4]) ∧ Kept w w' [] := by
  go_enter Tryz.func24, Tryz.ntmps24
  go_wp2_with fail
  refine (kspools_nil _).mono ?_
  rintro e w1 ⟨rfl, rfl⟩
  go_wp2_with fail
  refine (kfre_nil _).mono ?_
  rintro e w1 ⟨rfl, k1⟩
  have K1 := Lib.hid k1; clear k1
  go_wp2_with fail
  refine (srotate_nil false _).mono ?_
  rintro e w2 ⟨rfl, rfl⟩
  go_wp2
  (try simp only [Exit.inBlock, Exit.then])
  refine bodyPost_ret (v := .tuple #[.int .u8 0, .int .i64 4]) (by simp [results, Tryz.results24, go_sem]) rfl ?_
  exact ⟨rfl, K1.out⟩

set_option maxHeartbeats 1000000 in
theorem ktrm_nil (w : World) : Calls Tryz.prog 28 #[.pointer none] w fun e w' => e = .returned (.int .i64 0) ∧ Kept w w' [] := by
  go_enter Tryz.func28, Tryz.ntmps28
  go_wp2_with fail
  refine (kcursors_nil _).mono ?_
  rintro e w1 ⟨rfl, rfl⟩
  go_wp2_with fail
  refine (clea_nil _).mono ?_
  rintro e w1 ⟨rfl, rfl⟩
  go_wp2_with fail
  refine (kticks_nil _).mono ?_
  rintro e w1 ⟨rfl, rfl⟩
  go_wp2_with fail
  refine (tklast_nil _).mono ?_
  rintro e w1 ⟨rfl, rfl⟩
  go_wp2_with fail
  refine (kticks_nil _).mono ?_
  rintro e w1 ⟨rfl, rfl⟩
  go_wp2_with fail
  refine (tktrim_nil 0 _).mono ?_
  rintro e w1 ⟨rfl, k1⟩
  go_wp2
  go_ret
  exact ⟨rfl, k1⟩

end Go.Proofs.YticiofkiffgclaaGreat

namespace Go.Proofs.YticiofkiffgclaaGreat
set_option linter.unusedVariables false
open Go.RowKit

variable {w w' : World} {B : Nat} {a : Hk} {st : List Nat} {q : Qs} {O : Nat → Prop}

theorem Mg.low {C p b : Nat} {v : Value} (h : Mg w C p b v st) (hb : B ≤ C) : Mg w B p b v st :=
  { h with hv := ownsRow_low h.hv hb, bp := Nat.le_trans hb h.bp, bb := Nat.le_trans hb h.bb }
def KPost (w : World) (B : Nat) (a : Hk) (st : List Nat) (O : Nat → Prop) (q' : Qs) (w' : World) : Prop := ∃ O', KS w' B a st q' O' ∧ Stp O O' w w'
theorem KPost.of {d d' : Kv} {b : Nat} {u : Value} {l : Nat → List Ev} {c : Nat} {xs xs' : List Tk} {cs : List Cu} {rs : List It} (k : Kq w B a d l c xs cs rs) (g : Mg w B a.p b u st) (r : Kq w' B a d' q.l q.c xs' q.cs q.rs ∧ Stp (kfoot a d) (kfoot a d') w w') (e1 : xs'.map Tk.pl = q.ps) (e2 : d'.nx = .int .i64 q.nx) : KPost w B a st (kfoot a d) q w' :=
  ⟨kfoot a d', ⟨b, u, d', xs', r.1, g.fo r.2.1 (k.noT (by decide)) k.noM, e1, e2, rfl⟩, r.2⟩
theorem KPost.same (s : KS w B a st q O) (k : Kept w w' []) : KPost w B a st O q w' := ⟨O, s.keep k, Stp.ofK k⟩
set_option maxHeartbeats 1000000 in
theorem knew_any {C p b : Nat} {u : Value} (g : Mg w C p b u st) (hC : B ≤ C) (hB : B ≤ w.heap.size) : Calls Tryz.prog 14 #[.pointer (some ⟨p, 0, none⟩)] w fun e w' => ∃ a O, e = .returned (.pointer (some ⟨a.h, 0, none⟩)) ∧ a.p = p ∧ KS w' B a st Qs.new O ∧ Kept w w' [] ∧ ∀ k, O k → w.heap.size ≤ k := by
  have G := Lib.hid g; clear g
  go_enter Tryz.func14, Tryz.ntmps14
  go_wp2_with fail
  refine (new_any w).mono ?_
  rintro e w1 ⟨hs, rfl, s1, k1⟩
  have S1 := Lib.hid s1; have K1 := Lib.hid k1; clear s1 k1
  go_wp2_with fail
  refine (tknew_any w1).mono ?_
  rintro e w2 ⟨rfl, s2, k2⟩
  have S2 := Lib.hid s2; have K2 := Lib.hid k2; clear s2 k2
  go_wp2_with fail
  refine (cnew_any w2).mono ?_
  rintro e w3 ⟨rfl, s3, k3⟩
  have S3 := Lib.hid s3; have K3 := Lib.hid k3; clear s3 k3
  go_wp2_with fail
  refine (tnew_any w3).mono ?_
  rintro e w4 ⟨rfl, s4, k4⟩
  have S4 := Lib.hid s4; have K4 := Lib.hid k4; clear s4 k4
  go_wp2
  go_ret
  have z1 := K1.out.size; have z2 := K2.out.size; have z3 := K3.out.size; have z4 := K4.out.size
  have k34 := K3.out.trans K4.out (by simp)
  have k24 := K2.out.trans k34 (by simp)
  have k14 := K1.out.trans k24 (by simp)
  have b1 := S1.out.bh
  refine ⟨⟨w4.heap.size, p, hs, w1.heap.size, w2.heap.size, w3.heap.size⟩, _, rfl, rfl, ⟨b, u, ⟨noV, .slice none 0 0, .slice none 0 0, .slice none 0 0, .int .i64 1⟩, [], ⟨heap_alloc_new w4 _, by show B ≤ w4.heap.size; omega, ⟨(k24.alloc _).heap (by simp) S1.out.hh, by show B ≤ hs; omega, by decide, fun i _ => OwnE.nil _ _ _⟩, dst_no, ⟨(k34.alloc _).heap (by simp) S2.out.hh, by show B ≤ w1.heap.size; omega, by decide, OwnT.nil _ _ _, by simp⟩, ⟨(K4.out.alloc _).heap (by simp) S3.out.hh, by show B ≤ w2.heap.size; omega, by decide, OwnK.nil _ _ _⟩, ⟨((Kept.refl w4 []).alloc _).heap (by simp) S4.out.hh, by show B ≤ w3.heap.size; omega, by decide, OwnK.nil _ _ _⟩⟩, (G.out.keep (k14.alloc _)).low hC, rfl, rfl, rfl⟩, k14.alloc _, ?_⟩
  rintro k (hk | (hk | ⟨i, _, hk⟩) | (hk | hk) | (hk | hk) | (hk | hk))
  · have : k = w4.heap.size := hk
    omega
  · have : k = hs := hk
    omega
  · simp [noV, Value.ownBlock] at hk
  · have : k = w1.heap.size := hk
    omega
  · simp [Value.ownBlock] at hk
  · have : k = w2.heap.size := hk
    omega
  · simp [Value.ownBlock] at hk
  · have : k = w3.heap.size := hk
    omega
  · simp [Value.ownBlock] at hk

set_option maxHeartbeats 1000000 in
theorem krgs_any (s : KS w B a st q O) {k : Nat} (z : SzQ k q) (hk : k ≤ 1000) (n : ByteArray) : Calls Tryz.prog 16 #[.pointer (some ⟨a.h, 0, none⟩), .string n] w fun e w' => e = .returned (.int .i64 (rgsE q n)) ∧ KPost w B a st O (rgsQ q n) w' := by
  obtain ⟨⟨c0, c1, c2, c3, c4⟩, -⟩ := s.cells
  have S := Lib.hid s
  obtain ⟨b, u, d, xs, k, g, e1, e2, rfl⟩ := s.ex
  have LA := Lib.hid (tklast_any k.tk (by have := z.ok.okp.size; rw [← e1, List.length_map] at this; omega))
  rw [e1] at LA
  have K := Lib.hid k; have G := Lib.hid g; have E1 := Lib.hid e1; have E2 := Lib.hid e2; have OK := Lib.hid z.ok.okc
  clear s z hk g e1 e2
  by_cases h0 : lastN q.ps = 0
  · have r1 : rgsE q n = 9 := if_pos h0
    have r2 : rgsQ q n = q := if_pos h0
    rw [r1, r2]
    rw [h0] at LA
    clear h0 r1 r2 k
    go_enter Tryz.func16, Tryz.ntmps16
    go_wp2_with fail
    refine LA.out.mono ?_
    rintro e w1 ⟨rfl, k1⟩
    go_wp2
    go_ret
    exact ⟨rfl, KPost.same S.out k1⟩
  · obtain ⟨L, hL⟩ : ∃ L, L = lastN q.ps := ⟨_, rfl⟩
    have r1 : rgsE q n = regE q.cs n L := by rw [hL]; exact if_neg h0
    have r2 : rgsQ q n = { q with cs := regL q.cs n L } := by rw [hL]; exact if_neg h0
    rw [r1, r2]
    rw [← hL] at LA h0
    have h1 : (L == 0) = false := by rw [beq_eq_false_iff_ne]; exact h0
    clear h0 r1 r2 hL k
    go_enter Tryz.func16, Tryz.ntmps16
    go_wp2_with fail
    refine LA.out.mono ?_
    rintro e w1 ⟨rfl, k1⟩
    have K1 := Lib.hid k1
    have c3 := k1.cell (by simp) c3
    have CR := Lib.hid (creg_any (K.out.keep k1).cu OK.out n L)
    clear k1 c0 c1 c2 c4
    go_wp2_with fail
    refine CR.out.mono ?_
    rintro e w2 ⟨rfl, V', h1, h3⟩
    have P := Lib.hid (KPost.of (q := { q with cs := regL q.cs n L }) (K.out.keep K1.out) (G.out.keep K1.out) ((K.out.keep K1.out).ofCursors h1 h3) E1.out E2.out)
    clear h1 h3 c3
    go_wp2
    go_ret
    obtain ⟨O', p1, p2⟩ := P.out
    exact ⟨rfl, O', p1, p2.afterK K1.out⟩

end Go.Proofs.YticiofkiffgclaaGreat

namespace Go.Proofs.YticiofkiffgclaaGreat
set_option linter.unusedVariables false
open Go.RowKit

variable {w w' : World} {B : Nat} {a : Hk} {st : List Nat} {q : Qs} {O : Nat → Prop}

abbrev zE8 : Obj := .cells #[.int .i64 0, .int .i64 0, .string ⟨#[]⟩, .int .i64 0, .int .i64 0, .int .u8 0, .int .i64 0, .string ⟨#[]⟩] 50

end Go.Proofs.YticiofkiffgclaaGreat

namespace Go.Proofs.YticiofkiffgclaaGreat
set_option linter.unusedVariables false
open Go.RowKit

variable {w w' : World} {B : Nat} {a : Hk} {st : List Nat} {q : Qs} {O : Nat → Prop}

set_option maxHeartbeats 2000000 in
set_option maxRecDepth 100000 in
theorem kwri_nil (x tb kd key : Int) (t : ByteArray) (w : World) : Calls Tryz.prog 20 #[.pointer none, .int .i64 x, .int .i64 tb, .int .u8 kd, .agg #[.int .i64 key, .string t]] w fun e w' => e = .returned (.agg #[.int .i64 0, .int .i64 0, .string ⟨#[]⟩, .int .i64 0, .int .i64 0, .int .u8 0, .int .i64 0, .string ⟨#[]⟩]) ∧ Kept w w' [] := by
  obtain ⟨zb, hzb⟩ : ∃ zb, zb = w.heap.size := ⟨_, rfl⟩
  obtain ⟨W0, hW0⟩ : ∃ W0, W0 = w.alloc (.cells #[.int .i64 key, .string t] 48) := ⟨_, rfl⟩
  obtain ⟨W1, hW1⟩ : ∃ W1, W1 = W0.alloc zE8 := ⟨_, rfl⟩
  have k0 : Kept w W0 [] := by rw [hW0]; exact (Kept.refl w []).alloc _
  have k1' : Kept W0 W1 [] := by rw [hW1]; exact (Kept.refl W0 []).alloc _
  have k1 : Kept w W1 [] := k0.trans k1' (by simp)
  have zW0 : W0.heap.size = zb + 1 := by rw [hW0, hzb]; simp
  have g1 : W1.heap[zb + 1]? = some zE8 := by rw [hW1, ← zW0]; exact heap_alloc_new W0 _
  have K1 := Lib.hid k1; have G1 := Lib.hid g1; have HW0 := Lib.hid hW0; have HW1 := Lib.hid hW1; have HZB := Lib.hid hzb
  clear k0 k1' k1 zW0 g1 hW0 hW1
  go_enter Tryz.func20, Tryz.ntmps20
  go_upto_region 1 with fail
  rw [← HW0.out, ← HW1.out, ← HZB.out]
  clear hzb
  obtain ⟨y0, y1, y2, y3, y4, y5, y6, y7⟩ := ev_cells G1.out
  obtain ⟨f0, f1, f2, f3, f4, f5, f6, f7⟩ := ev_frozen G1.out
  go_wp2
  refine bodyPost_ret (v := .agg #[.int .i64 0, .int .i64 0, .string ⟨#[]⟩, .int .i64 0, .int .i64 0, .int .u8 0, .int .i64 0, .string ⟨#[]⟩]) (by simp [results, Tryz.results20, go_sem, *]) rfl ?_
  exact ⟨rfl, putAll_keep K1.out (by rw [HZB.out]; omega) [.int .i64 0, .int .i64 0, .string ⟨#[]⟩, .int .i64 0, .int .i64 0, .int .u8 0, .int .i64 0, .string ⟨#[]⟩]⟩

set_option maxHeartbeats 2000000 in
theorem ktck_nil (now : Int) (w : World) : Calls Tryz.prog 15 #[.pointer none, .int .i64 now] w fun e w' => e = .returned (.tuple #[.agg #[.int .i64 0, .int .i64 0, .slice none 0 0, .int .i64 0], .int .i64 4]) ∧ Kept w w' [] := by
  obtain ⟨W1, hW1⟩ : ∃ W1, W1 = w.alloc zT4 := ⟨_, rfl⟩
  have K1 := Lib.hid (show Kept w W1 [] by rw [hW1]; exact (Kept.refl w []).alloc _)
  have G1 := Lib.hid (show W1.heap[w.heap.size]? = some zT4 by rw [hW1]; exact heap_alloc_new w _)
  have HW1 := Lib.hid hW1
  clear hW1
  go_enter Tryz.func15, Tryz.ntmps15
  go_upto_region 1 with fail
  rw [← HW1.out]
  obtain ⟨x0, x1, x2, x3⟩ := tk_cells G1.out
  obtain ⟨f0, f1, f2, f3⟩ := tk_frozen G1.out
  go_wp2
  refine bodyPost_ret (v := .tuple #[.agg #[.int .i64 0, .int .i64 0, .slice none 0 0, .int .i64 0], .int .i64 4]) (by simp [results, Tryz.results15, go_sem, *]) rfl ?_
  exact ⟨rfl, putAll_keep K1.out (Nat.le_refl _) [.int .i64 0, .int .i64 0, .slice none 0 0, .int .i64 0]⟩

set_option maxHeartbeats 2000000 in
theorem knxt_nil (n : ByteArray) (w : World) : Calls Tryz.prog 29 #[.pointer none, .string n] w fun e w' => e = .returned (.tuple #[.agg #[.int .i64 0, .int .i64 0, .slice none 0 0, .int .i64 0], .int .i64 4]) ∧ Kept w w' [] := by
  obtain ⟨W1, hW1⟩ : ∃ W1, W1 = w.alloc zT4 := ⟨_, rfl⟩
  have K1 := Lib.hid (show Kept w W1 [] by rw [hW1]; exact (Kept.refl w []).alloc _)
  have G1 := Lib.hid (show W1.heap[w.heap.size]? = some zT4 by rw [hW1]; exact heap_alloc_new w _)
  have HW1 := Lib.hid hW1
  clear hW1
  go_enter Tryz.func29, Tryz.ntmps29
  go_upto_region 1 with fail
  rw [← HW1.out]
  go_wp2_with fail
  refine (kcursors_nil _).mono ?_
  rintro e wx ⟨rfl, hw⟩
  have hw2 := hw.symm; clear hw; subst hw2
  go_wp2_with fail
  refine (cget_nil n W1).mono ?_
  rintro e w2 ⟨rfl, k2⟩
  simp only [noCu, Cu.cs] at *
  obtain ⟨w3, hw3⟩ : ∃ w3, w3 = w2.alloc (.cells #[.string ⟨#[]⟩, .int .i64 0, .int .i64 0] cuE) := ⟨_, rfl⟩
  have k3 : Kept W1 w3 [] := by rw [hw3]; exact k2.alloc _
  have K3 := Lib.hid (K1.out.trans k3 (by simp)); have G3 := Lib.hid (k3.heap (by simp) G1.out); have HW3 := Lib.hid hw3
  clear k2 k3 hw3
  go_upto_region 2 with fail
  rw [← HW3.out]
  obtain ⟨x0, x1, x2, x3⟩ := tk_cells G3.out
  obtain ⟨f0, f1, f2, f3⟩ := tk_frozen G3.out
  go_wp2
  refine bodyPost_ret (v := .tuple #[.agg #[.int .i64 0, .int .i64 0, .slice none 0 0, .int .i64 0], .int .i64 4]) (by simp [results, Tryz.results29, go_sem, *]) rfl ?_
  exact ⟨rfl, putAll_keep K3.out (Nat.le_refl _) [.int .i64 0, .int .i64 0, .slice none 0 0, .int .i64 0]⟩

set_option maxHeartbeats 2000000 in
theorem kbat_nil (n : ByteArray) (w : World) : Calls Tryz.prog 30 #[.pointer none, .string n] w fun e w' => e = .returned (.tuple #[.slice none 0 0, .int .i64 4]) ∧ Kept w w' [] := by
  go_enter Tryz.func30, Tryz.ntmps30
  go_wp2_with fail
  refine (kcursors_nil _).mono ?_
  rintro e wx ⟨rfl, hw⟩
  have hw2 := hw.symm; clear hw; subst hw2
  go_wp2_with fail
  refine (cget_nil n w).mono ?_
  rintro e w2 ⟨rfl, k2⟩
  simp only [noCu, Cu.cs] at *
  have K2 := Lib.hid k2; clear k2
  go_wp2
  (try simp only [Exit.inBlock, Exit.then])
  refine bodyPost_ret (v := .tuple #[.slice none 0 0, .int .i64 4]) (by simp [results, Tryz.results30, go_sem]) rfl ?_
  exact ⟨rfl, K2.out.alloc _⟩

set_option maxHeartbeats 2000000 in
theorem krty_nil (n : ByteArray) (id at' : Int) (w : World) : Calls Tryz.prog 35 #[.pointer none, .string n, .int .i64 id, .int .i64 at'] w fun e w' => e = .returned (.int .i64 4) ∧ Kept w w' [] := by
  go_enter Tryz.func35, Tryz.ntmps35
  go_wp2_with fail
  refine (kbat_nil n _).mono ?_
  rintro e w2 ⟨rfl, k2⟩
  have K2 := Lib.hid k2; clear k2
  go_wp2
  go_ret
  exact ⟨rfl, ((Kept.refl w []).alloc _).trans K2.out (by simp)⟩

set_option maxHeartbeats 2000000 in
theorem kmnt_nil (x now : Int) (w : World) : Calls Tryz.prog 36 #[.pointer none, .int .i64 x, .int .i64 now] w fun e w' => e = .returned (.slice none 0 0) ∧ Kept w w' [] := by
  go_enter Tryz.func36, Tryz.ntmps36
  go_wp2_with fail
  refine (kretries_nil _).mono ?_
  rintro e wx ⟨rfl, hw⟩
  have hw2 := hw.symm; clear hw; subst hw2
  go_wp2_with fail
  refine (ttake_nil now w).mono ?_
  rintro e wx ⟨rfl, hw⟩
  have hw2 := hw.symm; clear hw; subst hw2
  go_wp2
  go_loopw [8, 15] (fun _ s15 wr => s15 = .int .i64 0 ∧ wr = w) (fun _ _ _ => 0)
  case atStart => exact ⟨rfl, rfl⟩
  case round =>
    obtain ⟨rfl, rfl⟩ := hrel
    go_wp2
    go_ret
    exact ⟨rfl, Kept.refl _ _⟩

-- the manager
def Kh (w0 w : World) (a : Hk) (st : List Nat) (q : Qs) : Prop := (∃ O, KS w w0.heap.size a st q O) ∧ Kept w0 w []
variable {w0 : World}
theorem Kh.post {q' : Qs} (s : KS w w0.heap.size a st q O) (k0 : Kept w0 w []) (p : KPost w w0.heap.size a st O q' w') : Kh w0 w' a st q' := by
  obtain ⟨O', s', t⟩ := p
  exact ⟨⟨O', s'⟩, k0.foC t.1 (fun k hk => (s.lt k hk).1)⟩
theorem kh_new (k0 : Kept w0 w []) : Calls Tryz.prog 13 #[] w fun e w1 => ∃ p, e = .returned (.pointer (some ⟨p, 0, none⟩)) ∧ Kept w0 w1 [] ∧
    Hid (∀ w2, Kept w1 w2 [] → Calls Tryz.prog 14 #[.pointer (some ⟨p, 0, none⟩)] w2 fun e w' => ∃ a, e = .returned (.pointer (some ⟨a.h, 0, none⟩)) ∧ a.p = p ∧ Kh w0 w' a [] Qs.new ∧ Kept w2 w' []) := by
  refine (mnew_any w).mono ?_
  rintro e w1 ⟨p, b, v, rfl, g, k1⟩
  refine ⟨p, rfl, k0.trans k1 (by simp), Lib.hid (fun w2 k2 => ?_)⟩
  refine (knew_any (B := w0.heap.size) (g.keep k2) k0.size (by have := (k0.trans (k1.trans k2 (by simp)) (by simp)).size; exact this)).mono ?_
  rintro e w3 ⟨a, O, rfl, rfl, s, k3, _⟩
  exact ⟨a, rfl, rfl, ⟨⟨O, s⟩, k0.trans (k1.trans (k2.trans k3 (by simp)) (by simp)) (by simp)⟩, k3⟩

set_option maxHeartbeats 2000000 in
set_option maxRecDepth 100000 in
theorem early_any (w : World) : Calls Tryz.prog 9 #[] w fun e w' => e = .returned (.bool true) ∧ Kept w w' [] := by
  go_enter Tryz.func9, Tryz.ntmps9
  go_wp2_with fail
  refine (kh_new (Kept.refl w [])).mono ?_
  rintro e w1 ⟨p, rfl, k1, hn⟩
  have K1 := Lib.hid k1; clear k1
  go_wp2_with fail
  refine (hn.out w1 (Kept.refl _ _)).mono ?_
  rintro e w2 ⟨a, rfl, rfl, c, k2⟩
  obtain ⟨⟨O, s⟩, k0⟩ := c
  have S := Lib.hid s; have K0 := Lib.hid k0
  have RG := Lib.hid (krgs_any s SzQ.new (by omega) ⟨#[97]⟩)
  have r1 : rgsE Qs.new ⟨#[97]⟩ = 9 := rfl
  have r2 : rgsQ Qs.new ⟨#[97]⟩ = Qs.new := rfl
  rw [r1, r2] at RG
  clear s k0 hn k2 r1 r2
  go_wp2_with fail
  refine RG.out.mono ?_
  rintro e w3 ⟨rfl, p3⟩
  obtain ⟨⟨O3, s3⟩, k3⟩ := Kh.post S.out K0.out p3
  have S3 := Lib.hid s3; have K3 := Lib.hid k3
  have NI := Lib.hid (knid_any s3); have TK := Lib.hid (kticks_any s3)
  obtain ⟨b, u, d, xs, kq, mg, e1, e2, hO⟩ := s3.ex
  have hx : xs = [] := List.map_eq_nil_iff.1 e1
  subst hx
  have LA := Lib.hid (tklast_any kq.tk (by simp))
  have r3 : lastN (List.map Tk.pl []) = 0 := rfl
  have r4 : Qs.new.nx = 1 := rfl
  rw [r3] at LA
  rw [r4] at NI
  clear p3 s3 k3 kq mg e1 e2 hO r3 r4
  go_wp2_with fail
  refine NI.out.mono ?_
  rintro e w4 ⟨rfl, hw⟩
  have hw2 := hw.symm; clear hw; subst hw2
  go_wp2_with fail
  refine TK.out.mono ?_
  rintro e w4 ⟨rfl, hw⟩
  have hw2 := hw.symm; clear hw; subst hw2
  go_wp2_with fail
  refine LA.out.mono ?_
  rintro e w4 ⟨rfl, k4⟩
  have K4 := Lib.hid (K3.out.trans k4 (by simp)); clear k4
  go_wp2
  go_ret
  exact ⟨rfl, K4.out⟩

end Go.Proofs.YticiofkiffgclaaGreat
