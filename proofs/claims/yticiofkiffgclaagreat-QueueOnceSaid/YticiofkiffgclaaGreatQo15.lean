/-
  Tc in one text.
-/
import Derived.Test.YticiofkiffgclaaGreatQo14
import Derived.Test.YticiofkiffgclaaGreatShelf
namespace Go.Proofs.YticiofkiffgclaaGreat
open Go.RowKit Go.Maps Go.Sort Go.Shelf

def bls (l : List Bool) : List Value := l.map Value.bool
theorem bls_length (l : List Bool) : (bls l).length = l.length := by simp [bls]

def comm (st : List Nat) : List Bool := false :: st.map (fun s => s == 2)
theorem comm_length (st : List Nat) : (comm st).length = st.length + 1 := by simp [comm]
theorem comm_at {st : List Nat} {x : Int} (h : 1 ≤ x ∧ x ≤ st.length) : (comm st)[x.toNat]? = some (stAt st x == 2) := by
  obtain ⟨i, hi⟩ : ∃ i : Nat, x = (i : Int) + 1 := ⟨x.toNat - 1, by omega⟩
  subst hi
  rw [stAt_nat (by omega), show ((i : Int) + 1).toNat = i + 1 by omega, comm, List.getElem?_cons_succ, List.getElem?_map, List.getElem?_eq_getElem (by omega)]
  rfl

structure Mg (w : World) (B p b : Nat) (v : Value) (st : List Nat) : Prop where
  hp : w.heap[p]? = some (.cells #[.map (some b), v] 120 (0, 0))
  hm : Mp w b st.length (opens st)
  hv : w.ownsRow B 4 1 v (st.length + 1) (bls (comm st))
  bp : B ≤ p
  bb : B ≤ b
  hl : st.length < 1048576
  hs : ∀ s ∈ st, 1 ≤ s ∧ s ≤ 3

def mts : List TypeId := [120, 4]

theorem Mg.frame {w w' : World} {B p b C : Nat} {v : Value} {st : List Nat} {ts : List TypeId} (h : Mg w B p b v st) (hf : Fr C ts w w') (h1 : 120 ∉ ts) (h2 : 4 ∉ ts) : Mg w' B p b v st :=
  { h with hp := hf.heap h.hp h1, hm := ownsMap_fr h.hm hf, hv := ownsRow_fr h.hv hf h2 }

theorem Mg.keep {w w' : World} {B p b : Nat} {v : Value} {st : List Nat} (h : Mg w B p b v st) (hk : Kept w w' []) : Mg w' B p b v st := h.frame (Fr.ofKept hk 0 []) (by simp) (by simp)

theorem Mg.cell {w : World} {B p b : Nat} {v : Value} {st : List Nat} (h : Mg w B p b v st) : w.cell? ⟨p, 0, none⟩ = some (.map (some b)) ∧ w.cell? ⟨p, 1, none⟩ = some v := by
  constructor
  · rw [cell_of_row w p 0 _ _ _ h.hp]; rfl
  · rw [cell_of_row w p 1 _ _ _ h.hp]; rfl

theorem Mg.shape {w : World} {B p b : Nat} {v : Value} {st : List Nat} (h : Mg w B p b v st) : ∃ g cap, v = .slice (some ⟨g, 0, none⟩) (st.length + 1) cap ∧ B ≤ g ∧ st.length + 1 ≤ cap ∧ (∃ cur, w.heap[g]? = some (.cells cur 4 (0, 0)) ∧ cur.size = cap ∧ cur.toList.take (st.length + 1) = bls (comm st)) := by
  rcases h.hv.2 with ⟨_, h0⟩ | ⟨g, cap, cur, hv, hbg, hgc, hnc, hcm, hcs, htk⟩
  · omega
  · exact ⟨g, cap, hv, hbg, hnc, cur, hgc, by simpa using hcs, by simpa using htk⟩

theorem Mg.cell_at {w : World} {B p b g cap : Nat} {st : List Nat} (h : Mg w B p b (.slice (some ⟨g, 0, none⟩) (st.length + 1) cap) st) {x : Nat} (hx : 1 ≤ x ∧ x ≤ st.length) : w.cell? ⟨g, x, none⟩ = some (.bool (stAt st x == 2)) := by
  have h1 := comm_at (st := st) (x := (x : Int)) (by omega)
  have := World.ownsRow.cells h.hv (g := g) rfl x (.bool (stAt st x == 2)) (by rw [bls, List.getElem?_map, show (comm st)[x]? = _ from by simpa using h1]; rfl)
  simpa [Addr.add_lit] using this

theorem Tryz.infoBool : (Tryz.prog.info? 4).map (fun i => (i.zero, i.size, i.bytes)) = some (some (.bool false), 1, 1) := by kernel_rfl

theorem made_bools (k : Nat) : madeCells (Value.bool false).cells (k * 1) = (bls (List.replicate k false)).toArray := by
  apply Array.ext'
  rw [Nat.mul_one, show (Value.bool false).cells = #[.bool false] from rfl, toList_madeCells_one]
  simp [bls]

theorem mk_bools (k : Nat) (hk : k ≤ 1048576) (w : World) : (Instr.makeSlice 118 (.int .i64 k) (.int .i64 k)).run Tryz.prog w = .ok (.slice (some ⟨w.heap.size, 0, none⟩) k k) (w.alloc (.cells (bls (List.replicate k false)).toArray 4)) := by
  obtain ⟨i0, hi, hz0, hz1, hz2⟩ := info_parts Tryz.infoBool
  have h := run_make (P := Tryz.prog) w 118 4 i0 _ Tryz.underlying118 hi hz0 .i64 .i64 k k (by omega) (by omega) (by rw [hz2]; omega) (by omega)
  rw [h, hz1, Int.toNat_natCast, made_bools]

theorem own_bools {w : World} {B g n : Nat} {l : List Bool} (hg : w.heap[g]? = some (.cells (bls l).toArray 4 (0, 0))) (hB : B ≤ g) (hn : l.length = n) (h63 : n ≤ maxLen) : w.ownsRow B 4 1 (.slice (some ⟨g, 0, none⟩) n n) n (bls l) := by
  subst hn
  refine ⟨by simp [bls_length], .inr ⟨g, l.length, _, rfl, hB, hg, Nat.le_refl _, h63, by simp [bls_length], ?_⟩⟩
  rw [List.toList_toArray, List.take_of_length_le (by simp [bls_length])]

theorem mnew_any (w : World) : Calls Tryz.prog 13 #[] w fun e w' => ∃ p b v, e = .returned (.pointer (some ⟨p, 0, none⟩)) ∧ Mg w' w.heap.size p b v [] ∧ Kept w w' [] := by
  have hmk : ∀ w : World, (Instr.makeSlice 118 (.int .i64 1) (.int .i64 1)).run Tryz.prog w = .ok (.slice (some ⟨w.heap.size, 0, none⟩) 1 1) (w.alloc (.cells (bls [false]).toArray 4)) := fun w => mk_bools 1 (by decide) w
  have hmm : ∀ w : World, (Instr.makeMap 117 none).run Tryz.prog w = .ok (.map (some w.heap.size)) (w.alloc (.map #[] 0)) := fun w => run_makeMap _ w
  go_enter Tryz.func13, Tryz.ntmps13
  go_wp2
  go_ret
  refine ⟨_, w.heap.size, .slice (some ⟨w.heap.size + 1, 0, none⟩) 1 1, rfl, ?_, ((((Kept.refl w []).alloc _).alloc _).alloc _)⟩
  have hz : ((w.alloc (.map #[] 0)).alloc (.cells (bls [false]).toArray 4)).heap.size = w.heap.size + 1 + 1 := by simp
  have m0 : Mp (w.alloc (.map #[] 0)) w.heap.size 0 (opens []) := World.ownsMap_made w _ _ _
  have b0 : ((w.alloc (.map #[] 0)).alloc (.cells (bls [false]).toArray 4)).heap[w.heap.size + 1]? = some (.cells (bls [false]).toArray 4 (0, 0)) := by
    have := heap_alloc_new (w.alloc (.map #[] 0)) (.cells (bls [false]).toArray 4)
    simpa using this
  refine { hp := ?_, hm := (m0.alloc _).alloc _, hv := ?_, bp := by omega, bb := Nat.le_refl _, hl := by decide, hs := by simp }
  · have := heap_alloc_new ((w.alloc (.map #[] 0)).alloc (.cells (bls [false]).toArray 4)) (.cells #[.map (some w.heap.size), .slice (some ⟨w.heap.size + 1, 0, none⟩) 1 1] 120)
    rw [hz] at this
    simpa using this
  · exact own_bools ((Below.heap_alloc _ _ _ (by rw [hz]; omega)).trans b0) (by omega) rfl (by decide)

theorem mnext_any {w : World} {B p b : Nat} {v : Value} {st : List Nat} (h : Mg w B p b v st) : Calls Tryz.prog 17 #[.pointer (some ⟨p, 0, none⟩)] w fun e w' => e = .returned (.int .i64 ((st.length : Int) + 1)) ∧ w = w' := by
  obtain ⟨g, cap, rfl, _⟩ := h.shape
  obtain ⟨c0, c1⟩ := h.cell
  clear h
  go_enter Tryz.func17, Tryz.ntmps17
  go_wp2
  go_ret
  exact ⟨by simp, rfl⟩

set_option maxRecDepth 20000 in
theorem mstate_any {w : World} {B p b : Nat} {v : Value} {st : List Nat} (h : Mg w B p b v st) (x : Int) (hx : (Lit.int .i64 x).wf = true) : Calls Tryz.prog 19 #[.pointer (some ⟨p, 0, none⟩), .int .i64 x] w fun e w' => e = .returned (.int .u8 (stAt st x)) ∧ w = w' := by
  have hnx := mnext_any h
  have hlk := look_bool h.hm x hx
  obtain ⟨g, cap, rfl, _, hcap, _⟩ := h.shape
  obtain ⟨c0, c1⟩ := h.cell
  by_cases h1 : x < 1
  · rw [stAt_out (.inl h1)]
    clear h hlk
    go_enter Tryz.func19, Tryz.ntmps19
    go_wp2
    go_ret
    exact ⟨by simp, rfl⟩
  · by_cases h2 : (st.length : Int) < x
    · rw [stAt_out (.inr h2)]
      have h3 : (st.length : Int) + 1 ≤ x := by omega
      clear h hlk
      go_enter Tryz.func19, Tryz.ntmps19
      go_wp2_with (go_at_call 17; refine hnx.mono ?_; rintro e w' ⟨rfl, rfl⟩)
      go_ret
      exact ⟨by simp, rfl⟩
    · obtain ⟨k, hk⟩ : ∃ k : Nat, x = k := ⟨x.toNat, by omega⟩
      subst hk
      have hc := h.cell_at (x := k) (by omega)
      have h3 : ¬ (st.length : Int) + 1 ≤ k := by omega
      have h4 : (k : Int) < (st.length : Int) + 1 := by omega
      have hin : stAt st k = 1 ∨ stAt st k = 2 ∨ stAt st k = 3 := by
        have e := stAt_nat (st := st) (i := k - 1) (by omega)
        rw [show ((k - 1 : Nat) : Int) + 1 = k by omega] at e
        have := h.hs _ (List.getElem_mem (by omega : k - 1 < st.length))
        rw [e]; omega
      have hmem := mem_opens (st := st) (x := (k : Int))
      have h0 : ¬ (k : Int) < 1 := by omega
      rcases hin with hs | hs | hs
      · have e : decide ((k : Int) ∈ opens st) = true := by rw [decide_eq_true_eq, hmem, hs]
        rw [e] at hlk
        rw [hs]
        clear h hc hmem e hs h1 h2 hx hcap
        go_enter Tryz.func19, Tryz.ntmps19
        go_wp2_with (go_at_call 17; refine hnx.mono ?_; rintro e w' ⟨rfl, rfl⟩)
        go_ret
        exact ⟨by simp, rfl⟩
      · have e : decide ((k : Int) ∈ opens st) = false := by rw [decide_eq_false_iff_not, hmem, hs]; decide
        rw [e] at hlk
        rw [hs] at hc ⊢
        clear h hmem e hs h1 h2 hx hcap
        have hc' : w.cell? ⟨g, k, none⟩ = some (.bool true) := hc
        clear hc
        go_enter Tryz.func19, Tryz.ntmps19
        go_wp2_with (go_at_call 17; refine hnx.mono ?_; rintro e w' ⟨rfl, rfl⟩)
        go_ret
        exact ⟨by simp, rfl⟩
      · have e : decide ((k : Int) ∈ opens st) = false := by rw [decide_eq_false_iff_not, hmem, hs]; decide
        rw [e] at hlk
        rw [hs] at hc ⊢
        clear h hmem e hs h1 h2 hx hcap
        have hc' : w.cell? ⟨g, k, none⟩ = some (.bool false) := hc
        clear hc
        go_enter Tryz.func19, Tryz.ntmps19
        go_wp2_with (go_at_call 17; refine hnx.mono ?_; rintro e w' ⟨rfl, rfl⟩)
        go_ret
        exact ⟨by simp, rfl⟩

end Go.Proofs.YticiofkiffgclaaGreat
