/-
  A store of tables ('Sto'): one manager, its heaps, and the store's own cells; Tables, Heap, New.
-/
import Derived.Test.YtdjhcdgehmpikaaRj
import Derived.Deep.QuietTactic
import Derived.BigQuiet
namespace Go.Proofs.Ytdjhcdgehmpikaa
open Go.RowKit Go.Maps Go.Sort Go.Shelf

variable {w w' : World} {B p b r : Nat} {v : Value} {st : List Nat} {L : List Hq}

theorem Mg.notO (m : Mg w B p b v st) {g : Nat} {cs : Array Value} {t : TypeId} {fz : Nat × Nat} (hg : w.heap[g]? = some (.cells cs t fz)) (ht : t ∉ tys) : ¬ mfoot p b v g := by
  rintro (rfl | rfl | h1)
  · rw [m.hp] at hg
    simp only [Option.some.injEq, Obj.cells.injEq] at hg
    obtain ⟨_, rfl, _⟩ := hg
    exact ht (by simp [tys])
  · obtain ⟨es, c, hb, _⟩ := m.hm
    rw [hb] at hg; cases hg
  · rcases m.hv.2 with ⟨h2, _⟩ | ⟨g', cap, cur, h2, _, hh, _⟩
    · rw [h2] at h1; cases h1
    · rw [h2] at h1
      simp only [Value.ownBlock, Option.some.injEq] at h1
      subst h1
      rw [hh] at hg
      simp only [Option.some.injEq, Obj.cells.injEq] at hg
      obtain ⟨_, rfl, _⟩ := hg
      exact ht (by simp [tys])

theorem Hq.live.notO {u : Hq} (a : u.live w B p) {g : Nat} {cs : Array Value} {t : TypeId} {fz : Nat × Nat} (hg : w.heap[g]? = some (.cells cs t fz)) (ht : t ∉ tys) : ¬ u.O g := by
  obtain ⟨mb, S, x, e⟩ := a
  rw [e]
  rintro (rfl | rfl | ⟨q, h1⟩)
  · rw [x.hh] at hg
    simp only [Option.some.injEq, Obj.cells.injEq] at hg
    obtain ⟨_, rfl, _⟩ := hg
    exact ht (by simp [tys])
  · obtain ⟨es, c, hb, _⟩ := x.hm
    rw [hb] at hg; cases hg
  · rcases (x.rows q).2 with ⟨h2, _⟩ | ⟨g', cap, cur, h2, _, hh, _⟩
    · rw [h2] at h1; cases h1
    · rw [h2] at h1
      simp only [Value.ownBlock, Option.some.injEq] at h1
      subst h1
      rw [hh] at hg
      simp only [Option.some.injEq, Obj.cells.injEq] at hg
      obtain ⟨_, rfl, _⟩ := hg
      exact ht (by simp [tys])

theorem Sm.notO (a : Sm w B p b v st L) {g : Nat} {cs : Array Value} {t : TypeId} {fz : Nat × Nat} (hg : w.heap[g]? = some (.cells cs t fz)) (ht : t ∉ tys) : ¬ Go.Proofs.Ytdjhcdgehmpikaa.foots p b v L g := by
  rintro (h | ⟨i, u, hi, h⟩)
  · exact a.mg.notO hg ht h
  · exact (a.hs i u hi).notO hg ht h

/-- A table as plain data. -/
structure Tab where
  ks : List Int
  F : Int → List Vr

def Hq.tab (t : Hq) : Tab := ⟨t.ks, t.F⟩

/-- The pointers to the heaps. -/
def hps (L : List Hq) : List Value := L.map fun t => .pointer (some ⟨t.h, 0, none⟩)

/-- The store's own cells. -/
structure Sc (w : World) (B r : Nat) (sv : Value) (L : List Hq) : Prop where
  hr : w.heap[r]? = some (.cells #[sv] 87 (0, 0))
  hv : w.ownsRow B 71 1 sv L.length (hps L)
  br : B ≤ r

/-- All blocks of a store. -/
def sfoot (p b r : Nat) (v sv : Value) (L : List Hq) : Nat → Prop := fun k => foots p b v L k ∨ k = r ∨ sv.ownBlock = some k

/-- A store at block r over the manager at block p; T: its tables; O: all blocks of both. -/
def Sto (w : World) (B p r : Nat) (O : Nat → Prop) (st : List Nat) (T : List Tab) : Prop :=
  ∃ b v sv L, Sm w B p b v st L ∧ Sc w B r sv L ∧ O = sfoot p b r v sv L ∧ T = L.map Hq.tab

theorem Sc.fo {sv : Value} {O : Nat → Prop} (a : Sc w B r sv L) (hf : Fo O w w') (h1 : ¬ O r) (h2 : ∀ k, sv.ownBlock = some k → ¬ O k) : Sc w' B r sv L :=
  ⟨hf.heap h1 a.hr, ownsRow_fo a.hv hf h2, a.br⟩

theorem Sc.own {sv : Value} (a : Sc w B r sv L) {k : Nat} (hk : sv.ownBlock = some k) : B ≤ k ∧ k < w.heap.size ∧ ∃ cur, w.heap[k]? = some (.cells cur 71 (0, 0)) := by
  have h1 := World.ownsRow.lt a.hv k hk
  refine ⟨h1.1, h1.2, ?_⟩
  rcases a.hv.2 with ⟨h2, _⟩ | ⟨g', cap, cur, h2, _, hh, _⟩
  · rw [h2] at hk; cases hk
  · rw [h2] at hk
    simp only [Value.ownBlock, Option.some.injEq] at hk
    subst hk
    exact ⟨cur, hh⟩

/-- What the heaps do leaves the store's own cells. -/
theorem Sc.stands {sv : Value} (a : Sc w B r sv L) (s : Sm w B p b v st L) (hf : Fo (foots p b v L) w w') : Sc w' B r sv L :=
  a.fo hf (s.notO a.hr (by decide)) (fun k hk => by
    obtain ⟨_, _, cur, h3⟩ := a.own hk
    exact s.notO h3 (by decide))

theorem Sc.same {sv : Value} {L' : List Hq} (a : Sc w B r sv L) (e : hps L' = hps L) : Sc w B r sv L' := by
  have e2 : L'.length = L.length := by
    have := congrArg List.length e
    simpa [hps] using this
  exact ⟨a.hr, by rw [e2, e]; exact a.hv, a.br⟩

theorem hps_set {i : Nat} {t : Hq} (ht : L[i]? = some t) {O' : Nat → Prop} {ks : List Int} {F : Int → List Vr} : hps (L.set i ⟨t.h, O', ks, F⟩) = hps L := by
  apply List.ext_getElem?
  intro j
  simp only [hps, List.getElem?_map]
  by_cases e : i = j
  · subst e
    have hl : i < L.length := by
      rcases Nat.lt_or_ge i L.length with q | q
      · exact q
      · rw [List.getElem?_eq_none q] at ht; cases ht
    rw [List.getElem?_set_self hl, ht]
    rfl
  · rw [List.getElem?_set_ne e]

/-- What a call leaves that turns the heaps alone. -/
theorem Sto.turn {v' sv : Value} {st' : List Nat} {L' : List Hq} (a : Sm w B p b v st L) (c : Sc w B r sv L) (s : Sm w' B p b v' st' L') (e : hps L' = hps L) (f : Stp (foots p b v L) (foots p b v' L') w w') :
    Sto w' B p r (sfoot p b r v' sv L') st' (L'.map Hq.tab) ∧ Stp (sfoot p b r v sv L) (sfoot p b r v' sv L') w w' := by
  refine ⟨⟨b, v', sv, L', s, (c.stands a f.1).same e, rfl, rfl⟩, f.1.mono (fun k hk => .inl hk), ?_⟩
  rintro k (hk | hk | hk)
  · rcases f.2 k hk with h | h
    · exact .inl (.inl h)
    · exact .inr h
  · exact .inl (.inr (.inl hk))
  · exact .inl (.inr (.inr hk))

theorem Sto.bound {O : Nat → Prop} {T : List Tab} (a : Sto w B p r O st T) : ∀ k, O k → B ≤ k ∧ k < w.heap.size := by
  obtain ⟨b, v, sv, L, a, c, rfl, _⟩ := a
  rintro k (hk | rfl | hk)
  · exact a.foots k hk
  · exact ⟨c.br, heap_lt c.hr⟩
  · exact ⟨(c.own hk).1, (c.own hk).2.1⟩

theorem Sto.size {O : Nat → Prop} {T : List Tab} (a : Sto w B p r O st T) : B ≤ w.heap.size := by
  obtain ⟨b, v, sv, L, a, c, rfl, _⟩ := a
  exact a.size

theorem Sto.fo {O O' : Nat → Prop} {T : List Tab} (a : Sto w B p r O st T) (hf : Fo O' w w') (hd : ∀ k, O k → ¬ O' k) : Sto w' B p r O st T := by
  obtain ⟨b, v, sv, L, a, c, rfl, e⟩ := a
  exact ⟨b, v, sv, L, a.fo hf (fun k hk => hd k (.inl hk)), c.fo hf (hd r (.inr (.inl rfl))) (fun k hk => hd k (.inr (.inr hk))), rfl, e⟩

theorem Sto.keep {O : Nat → Prop} {T : List Tab} (a : Sto w B p r O st T) (hk : Kept w w' []) : Sto w' B p r O st T := a.fo (Fo.ofKept hk (fun _ => False)) (fun _ _ h => h)

theorem Sto.below {O : Nat → Prop} {T : List Tab} (a : Sto w B p r O st T) (hf : Fo O w w') : Below B w w' := hf.below a.size (fun k hk => (a.bound k hk).1)

/-- The types of a store's blocks. -/
def tysS : List TypeId := 87 :: 71 :: tys

theorem Sto.notO {O : Nat → Prop} {T : List Tab} (a : Sto w B p r O st T) {g : Nat} {cs : Array Value} {t : TypeId} {fz : Nat × Nat} (hg : w.heap[g]? = some (.cells cs t fz)) (ht : t ∉ tysS) : ¬ O g := by
  obtain ⟨b, v, sv, L, a, c, rfl, _⟩ := a
  simp only [tysS, List.mem_cons, not_or] at ht
  rintro (hk | rfl | hk)
  · exact a.notO hg ht.2.2 hk
  · rw [c.hr] at hg
    simp only [Option.some.injEq, Obj.cells.injEq] at hg
    exact ht.1 hg.2.1.symm
  · obtain ⟨_, _, cur, h3⟩ := c.own hk
    rw [h3] at hg
    simp only [Option.some.injEq, Obj.cells.injEq] at hg
    exact ht.2.1 hg.2.1.symm

theorem Sto.heap {O : Nat → Prop} {T : List Tab} (a : Sto w B p r O st T) (hf : Fo O w w') {g : Nat} {cs : Array Value} {t : TypeId} {fz : Nat × Nat} (hg : w.heap[g]? = some (.cells cs t fz)) (ht : t ∉ tysS) : w'.heap[g]? = some (.cells cs t fz) := hf.heap (a.notO hg ht) hg

theorem Sto.row {O : Nat → Prop} {T : List Tab} {base e sz n : Nat} {u : Value} {xs : List Value} (a : Sto w B p r O st T) (hf : Fo O w w') (hr : w.ownsRow base e sz u n xs) (he : e ∉ tysS) : w'.ownsRow base e sz u n xs := by
  refine ⟨hr.1, ?_⟩
  rcases hr.2 with h2 | ⟨g, cap, cur, rfl, hbg, hg, r⟩
  · exact .inl h2
  · exact .inr ⟨g, cap, cur, rfl, hbg, a.heap hf hg he, r⟩

theorem Sto.vo {O : Nat → Prop} {T : List Tab} (a : Sto w B p r O st T) (hf : Fo O w w') {sl : Value} {l : List Int} (hv : Vo w sl l) : Vo w' sl l := a.row hf hv (by decide)

/-- The pointer to a heap. -/
def hpAt (L : List Hq) (t : Int) : Value := if 0 ≤ t then (match L[t.toNat]? with | some u => .pointer (some ⟨u.h, 0, none⟩) | none => .pointer none) else .pointer none

theorem Sc.cell {sv : Value} (c : Sc w B r sv L) : w.cell? ⟨r, 0, none⟩ = some sv := by rw [cell_of_row w r 0 _ _ _ c.hr]; rfl

theorem Sc.shape {sv : Value} (c : Sc w B r sv L) : ∃ a cap, sv = .slice a L.length cap ∧ L.length ≤ 9223372036854775807 ∧ (0 < L.length → ∃ g, a = some ⟨g, 0, none⟩ ∧ L.length ≤ cap ∧ ∀ (i : Nat) (t : Hq), L[i]? = some t → w.cell? ⟨g, i, none⟩ = some (.pointer (some ⟨t.h, 0, none⟩))) := by
  obtain ⟨a, cap, rfl⟩ := ownsRow_shape c.hv
  refine ⟨a, cap, rfl, ?_, fun h0 => ?_⟩
  · rcases c.hv.2 with ⟨_, h0⟩ | ⟨g', cap', cur, h2, _, hh, hn, hm, _⟩
    · omega
    · unfold maxLen at hm; omega
  · obtain ⟨g, rfl, _, hn, _, hc⟩ := row_head c.hv h0
    exact ⟨g, rfl, hn, fun i t ht => hc i _ (by rw [hps, List.getElem?_map, ht]; rfl)⟩

theorem tables_any {sv : Value} (c : Sc w B r sv L) : Calls Try.prog 15 #[.pointer (some ⟨r, 0, none⟩)] w fun e w' => e = .returned (.int .i64 L.length) ∧ w = w' := by
  obtain ⟨a, cap, rfl, _⟩ := c.shape
  have c0 := c.cell
  clear c
  go_enter Try.func15, Try.ntmps15
  go_wp2
  go_ret
  exact ⟨rfl, rfl⟩

theorem tables_nil (w : World) : Calls Try.prog 15 #[.pointer none] w fun e w' => e = .returned (.int .i64 0) ∧ w = w' := by
  go_enter Try.func15, Try.ntmps15
  go_wp2
  go_ret
  exact ⟨rfl, rfl⟩

theorem heap_at {sv : Value} (c : Sc w B r sv L) (t : Int) (hw : (Lit.int .i64 t).wf = true) : Calls Try.prog 30 #[.pointer (some ⟨r, 0, none⟩), .int .i64 t] w fun e w' => e = .returned (hpAt L t) ∧ w = w' := by
  have CT := Lib.hid (tables_any c)
  obtain ⟨a, cap, rfl, hlen, hc⟩ := c.shape
  have c0 := c.cell
  have HC := Lib.hid hc
  clear c hc
  by_cases h0 : t < 0
  · have e0 : hpAt L t = .pointer none := by rw [hpAt, if_neg (by omega)]
    rw [e0]
    have x1 : decide (t < 0) = true := by simpa using h0
    clear e0
    go_enter Try.func30, Try.ntmps30
    go_wp2_with fail
    go_ret
    exact ⟨rfl, rfl⟩
  · obtain ⟨k, rfl⟩ : ∃ k : Nat, t = k := ⟨t.toNat, by omega⟩
    by_cases h1 : k < L.length
    · obtain ⟨u, hu⟩ : ∃ u, L[k]? = some u := ⟨_, List.getElem?_eq_getElem h1⟩
      have e0 : hpAt L (k : Int) = .pointer (some ⟨u.h, 0, none⟩) := by rw [hpAt, if_pos (by omega), Int.toNat_natCast, hu]
      rw [e0]
      obtain ⟨g, rfl, hn, hcell⟩ := HC.out (by omega)
      have ck := hcell k u hu
      have x1 : ¬ (k : Int) < 0 := by omega
      have x2 : ¬ (L.length : Int) ≤ (k : Int) := by omega
      have x3 : (k : Int) < (L.length : Int) := by omega
      clear e0 hcell HC hu hn h0
      go_enter Try.func30, Try.ntmps30
      go_wp2_with (go_at_call 15; refine CT.out.mono ?_; rintro e w' ⟨rfl, rfl⟩)
      go_ret
      exact ⟨rfl, rfl⟩
    · have e0 : hpAt L (k : Int) = .pointer none := by rw [hpAt, if_pos (by omega), Int.toNat_natCast, List.getElem?_eq_none (by omega)]
      rw [e0]
      have x1 : ¬ (k : Int) < 0 := by omega
      have x2 : (L.length : Int) ≤ (k : Int) := by omega
      clear e0 HC h0
      go_enter Try.func30, Try.ntmps30
      go_wp2_with (go_at_call 15; refine CT.out.mono ?_; rintro e w' ⟨rfl, rfl⟩)
      go_ret
      exact ⟨rfl, rfl⟩

theorem heap_nil (t : Int) (w : World) : Calls Try.prog 30 #[.pointer none, .int .i64 t] w fun e w' => e = .returned (.pointer none) ∧ w = w' := by
  have CT := Lib.hid (tables_nil w)
  by_cases h0 : t < 0
  · have x1 : decide (t < 0) = true := by simpa using h0
    go_enter Try.func30, Try.ntmps30
    go_wp2_with fail
    go_ret
    exact ⟨rfl, rfl⟩
  · have x2 : 0 ≤ t := by omega
    go_enter Try.func30, Try.ntmps30
    go_wp2_with (go_at_call 15; refine CT.out.mono ?_; rintro e w' ⟨rfl, rfl⟩)
    go_ret
    exact ⟨rfl, rfl⟩
end Go.Proofs.Ytdjhcdgehmpikaa
