/-
  Load: of a manager, and of the document's.
-/
import Derived.Test.YtfhdblbiamdplaaTi
namespace Go.Proofs.Ytfhdblbiamdplaa
open Go.RowKit Go.Maps

/-- May these numbers be loaded? -/
def okLd (N : Int) (l : List Int) : Bool := decide (1 ≤ N ∧ N ≤ 1048576) && l.all (fun x => decide (1 ≤ x) && decide (x < N))

/-- Who is told, of the first n numbers from 0 on. -/
def ldB (n : Nat) (l : List Int) : List Bool := (List.range n).map fun (i : Nat) => decide ((i : Int) ∈ l)
/-- What has become of each then. -/
def ldS (n : Nat) (l : List Int) : List Nat := (List.range (n - 1)).map fun (i : Nat) => if (i : Int) + 1 ∈ l then 2 else 3

theorem ldB_length (n : Nat) (l : List Int) : (ldB n l).length = n := by simp [ldB]
theorem ldS_length (n : Nat) (l : List Int) : (ldS n l).length = n - 1 := by simp [ldS]

theorem ldB_nil (n : Nat) : ldB n [] = List.replicate n false := by
  apply List.ext_getElem
  · simp [ldB]
  · intro i h1 h2; simp [ldB]

theorem ldS_nil (n : Nat) : ldS n [] = List.replicate (n - 1) 3 := by
  apply List.ext_getElem
  · simp [ldS]
  · intro i h1 h2; simp [ldS]

theorem ldB_snoc (n : Nat) (l : List Int) (x : Nat) : ldB n (l ++ [(x : Int)]) = (ldB n l).set x true := by
  apply List.ext_getElem
  · simp [ldB]
  · intro i h1 h2
    rw [List.getElem_set]
    simp only [ldB, List.getElem_map, List.getElem_range, List.mem_append, List.mem_singleton]
    by_cases h : x = i
    · subst h; simp
    · have : ¬ (i : Int) = (x : Int) := by omega
      simp [h, this]

theorem ldS_snoc (n : Nat) (l : List Int) (k : Nat) : ldS n (l ++ [(k : Int) + 1]) = (ldS n l).set k 2 := by
  apply List.ext_getElem
  · simp [ldS]
  · intro i h1 h2
    rw [List.getElem_set]
    simp only [ldS, List.getElem_map, List.getElem_range, List.mem_append, List.mem_singleton]
    by_cases h : k = i
    · subst h; simp
    · have : ¬ (i : Int) + 1 = (k : Int) + 1 := by omega
      simp [h, this]

theorem ldS_states (n : Nat) (l : List Int) : ∀ s ∈ ldS n l, 1 ≤ s ∧ s ≤ 3 := by
  intro s hs
  simp only [ldS, List.mem_map] at hs
  obtain ⟨i, _, rfl⟩ := hs
  split <;> omega

theorem opens_ldS (n : Nat) (l : List Int) : opens (ldS n l) = [] := by
  apply opens_none
  intro s hs
  simp only [ldS, List.mem_map] at hs
  obtain ⟨i, _, rfl⟩ := hs
  split <;> omega

theorem comm_ldS {n : Nat} {l : List Int} (hn : 1 ≤ n) (h : ∀ x ∈ l, 1 ≤ x) : comm (ldS n l) = ldB n l := by
  apply List.ext_getElem
  · simp [comm, ldS, ldB]; omega
  · intro i h1 h2
    cases i with
    | zero =>
      simp only [comm, List.getElem_cons_zero, ldB, List.getElem_map, List.getElem_range]
      symm
      rw [decide_eq_false_iff_not]
      intro h0
      have := h _ h0
      omega
    | succ i =>
      simp only [comm, List.getElem_cons_succ, List.getElem_map, ldS, List.getElem_range, ldB]
      by_cases e : (i : Int) + 1 ∈ l
      · simp [e]
      · simp [e]

/-- What Load tells and does. -/
def MLoad (w : World) (B p b : Nat) (v : Value) (st : List Nat) (N : Int) (l : List Int) (e : Ending) (w' : World) : Prop :=
  (okLd N l = true ∧ e = .returned (.int .i64 0) ∧ (∃ b' v', Mg w' B p b' v' (ldS N.toNat l)) ∧ Fm B mts w w') ∨ (okLd N l = false ∧ e = .returned (.int .i64 1) ∧ Mg w' B p b v st ∧ Kept w w' [])

theorem MLoad.no {w w' : World} {B p b : Nat} {v : Value} {st : List Nat} {N : Int} {l : List Int} (h : okLd N l = false) (hm : Mg w' B p b v st) (hk : Kept w w' []) : MLoad w B p b v st N l (.returned (.int .i64 1)) w' := .inr ⟨h, rfl, hm, hk⟩

theorem okLd_no {N : Int} {l : List Int} {k : Nat} (hk : k < l.length) (h : l.getD k 0 < 1 ∨ N ≤ l.getD k 0) : okLd N l = false := by
  rw [okLd, Bool.and_eq_false_iff]
  right
  rw [List.all_eq_false]
  refine ⟨l[k], List.getElem_mem hk, ?_⟩
  simp only [List.getD, List.getElem?_eq_getElem hk, Option.getD_some] at h
  simp only [Bool.and_eq_true, decide_eq_true_eq]
  omega

theorem okLd_out {N : Int} {l : List Int} (h : N < 1 ∨ 1048576 < N) : okLd N l = false := by
  rw [okLd, Bool.and_eq_false_iff]
  left
  rw [decide_eq_false_iff_not]
  omega

theorem okLd_yes {N : Int} {l : List Int} (h1 : 1 ≤ N) (h2 : N ≤ 1048576) (h : ∀ x ∈ l.take l.length, 1 ≤ x ∧ x < N) : okLd N l = true := by
  rw [okLd, Bool.and_eq_true]
  refine ⟨by rw [decide_eq_true_eq]; omega, ?_⟩
  rw [List.all_eq_true]
  intro x hx
  rw [List.take_length] at h
  have := h x hx
  simp only [Bool.and_eq_true, decide_eq_true_eq]
  omega

/-- A manager that was loaded. -/
theorem Mg.loaded {w w' : World} {B p b g n : Nat} {v : Value} {st : List Nat} {l : List Int} (h : Mg w B p b v st) (hk : Kept w w' []) (hB : B ≤ g) (hg : w'.heap[g]? = some (.cells (bls (ldB n l)).toArray 4 (0, 0))) (hn : 1 ≤ n) (hn2 : n ≤ 1048576) (hl : ∀ x ∈ l, 1 ≤ x) :
    Mg (((w'.setCell ⟨p, 0, none⟩ (.map (some w'.heap.size))).setCell ⟨p, 1, none⟩ (.slice (some ⟨g, 0, none⟩) n n)).alloc (.map #[] 0)) B p w'.heap.size (.slice (some ⟨g, 0, none⟩) n n) (ldS n l) ∧
    Fm B mts w (((w'.setCell ⟨p, 0, none⟩ (.map (some w'.heap.size))).setCell ⟨p, 1, none⟩ (.slice (some ⟨g, 0, none⟩) n n)).alloc (.map #[] 0)) := by
  have hp0 := hk.heap (by simp) h.hp
  have hp1 := heap_setCell_at hp0 0 (.map (some w'.heap.size))
  have hp2 := heap_setCell_at hp1 1 (.slice (some ⟨g, 0, none⟩) n n)
  have f2 : Fr B [117] w' ((w'.setCell ⟨p, 0, none⟩ (.map (some w'.heap.size))).setCell ⟨p, 1, none⟩ (.slice (some ⟨g, 0, none⟩) n n)) :=
    ((Fr.refl _ _ w').setCell hp0 (.inr ⟨h.bp, by simp⟩) 0 _).setCell hp1 (.inr ⟨h.bp, by simp⟩) 1 _
  obtain ⟨W, hW⟩ : ∃ W, W = (w'.setCell ⟨p, 0, none⟩ (.map (some w'.heap.size))).setCell ⟨p, 1, none⟩ (.slice (some ⟨g, 0, none⟩) n n) := ⟨_, rfl⟩
  have hz : W.heap.size = w'.heap.size := by rw [hW]; simp [World.setCell]
  rw [← hW] at hp2 f2 ⊢
  have m0 : Mp (W.alloc (.map #[] 0)) W.heap.size 0 [] := World.ownsMap_made W _ _ _
  rw [hz] at m0
  have hBw : B ≤ w'.heap.size := by have := heap_lt hg; omega
  have ha : Fr B [] W (W.alloc (.map #[] 0)) := (Fr.refl B [] W).alloc _
  refine ⟨{ hp := ha.heap (by simpa using hp2) (by simp), hm := ?_, hv := ?_, bp := h.bp, bb := hBw, hl := by rw [ldS_length]; omega, hs := ldS_states n l }, ((Fm.ofKept hk B mts).trans (Fm.ofFr (f2.mono (Nat.le_refl _) (by simp [mts])))).trans (Fm.ofFr (ha.mono (Nat.le_refl _) (by simp)))⟩
  · rw [opens_ldS]
    exact m0.mono (Nat.zero_le _)
  · rw [comm_ldS hn hl, ldS_length, show n - 1 + 1 = n by omega]
    refine own_bools ?_ hB (ldB_length n l) (by simp only [maxLen]; omega)
    exact ha.heap (f2.heap hg (by decide)) (by simp)

set_option maxRecDepth 20000 in
set_option maxHeartbeats 1000000 in
theorem mload_any {w : World} {B p b : Nat} {v : Value} {st : List Nat} (h : Mg w B p b v st) (N : Int) (u : Value) (l : List Int) (hr : RdI w u l) :
    Calls Try.prog 46 #[.pointer (some ⟨p, 0, none⟩), .int .i64 N, u] w (MLoad w B p b v st N l) := by
  have H := Lib.hid h; have R := Lib.hid hr
  have hlen := hr.len
  obtain ⟨a, c, rfl, hc, _, _, hcl⟩ := hr
  clear h
  by_cases h1 : N < 1
  · have HN := Lib.hid (okLd_out (l := l) (.inl h1))
    clear hlen hc hcl
    go_enter Try.func46, Try.ntmps46
    go_wp2
    go_ret
    exact .no HN.out H.out (Kept.refl w [])
  by_cases h2 : (1048576 : Int) < N
  · have HN := Lib.hid (okLd_out (l := l) (.inr h2))
    clear hlen hc hcl
    go_enter Try.func46, Try.ntmps46
    go_wp2
    go_ret
    exact .no HN.out H.out (Kept.refl w [])
  obtain ⟨n, hn⟩ : ∃ n : Nat, N = n := ⟨N.toNat, by omega⟩
  have hn1 : 1 ≤ n := by omega
  have hn2 : n ≤ 1048576 := by omega
  have hmk : ∀ w : World, (Instr.makeSlice 37 (.int .i64 N) (.int .i64 N)).run Try.prog w = .ok (.slice (some ⟨w.heap.size, 0, none⟩) n n) (w.alloc (.cells (bls (List.replicate n false)).toArray 4)) := by
    intro w; rw [hn]; exact mk_bools n hn2 w
  have h2' : decide ((1048576 : Int) < N) = false := by rw [decide_eq_false_iff_not]; omega
  have HN := Lib.hid (And.intro hn (And.intro hn1 hn2))
  have HC := Lib.hid hcl
  have hB := Lib.hid H.out.size
  clear hn hn1 hn2 h2 hcl hc
  go_enter Try.func46, Try.ntmps46
  go_wp2
  go_loopw [22] (fun i wr => ∃ k : Nat, i = .int .i64 k ∧ k ≤ l.length ∧ (∀ x ∈ l.take k, 1 ≤ x ∧ x < N) ∧ wr.heap[w.heap.size]? = some (.cells (bls (ldB n (l.take k))).toArray 4 (0, 0)) ∧ Kept w wr []) (fun i _ => l.length - (intOf i).toNat)
  case atStart => exact ⟨0, rfl, Nat.zero_le _, by simp, by rw [List.take_zero, ldB_nil]; exact heap_alloc_new w _, (Kept.refl w []).alloc _⟩
  case round =>
    obtain ⟨k, rfl, hk, hall, hg, hkp⟩ := hrel
    have A := Lib.hid hall; have G := Lib.hid hg; have K := Lib.hid hkp
    clear hall hg hkp
    by_cases hlt : k < l.length
    · obtain ⟨bb, o, rfl, hcell⟩ := HC.out (by rintro rfl; simp at hlt)
      have cx := K.out.cell (p := ⟨bb, o + k, none⟩) (by simp) (hcell k hlt)
      obtain ⟨x, hx⟩ : ∃ x, x = l.getD k 0 := ⟨_, rfl⟩
      rw [← hx] at cx
      have Hx := Lib.hid hx
      have x1 : (k : Int) < (l.length : Int) := by omega
      clear hcell hx
      by_cases g1 : x < 1
      · have Hno := Lib.hid (okLd_no (N := N) hlt (.inl (by rw [← Hx.out]; exact g1)))
        go_wp2
        go_ret
        exact .no Hno.out (H.out.keep K.out) K.out
      by_cases g2 : N ≤ x
      · have Hno := Lib.hid (okLd_no (N := N) hlt (.inr (by rw [← Hx.out]; exact g2)))
        go_wp2
        go_ret
        exact .no Hno.out (H.out.keep K.out) K.out
      obtain ⟨y, hy⟩ : ∃ y : Nat, x = y := ⟨x.toNat, by omega⟩
      subst hy
      have hyn : y < n := by have := HN.out.1; omega
      have g3 : (y : Int) < (n : Int) := by omega
      obtain ⟨z, hz⟩ : ∃ z, wr.cell? ⟨w.heap.size, y, none⟩ = some (.bool z) := by
        refine ⟨(ldB n (l.take k))[y]'(by rw [ldB_length]; exact hyn), ?_⟩
        rw [cell_of_row wr w.heap.size y _ _ _ G.out, List.getElem?_toArray, bls, List.getElem?_map, List.getElem?_eq_getElem (by rw [ldB_length]; exact hyn)]
        rfl
      have fz : wr.frozen? ⟨w.heap.size, y, none⟩ = false := frozen_of_row _ _ _ _ _ G.out
      have Hy := Lib.hid (And.intro g1 g2)
      have hge : ¬ (N ≤ (y : Int)) := g2
      clear hyn
      go_wp2
      go_roundw
      case rel =>
        have el : l.take (k + 1) = l.take k ++ [(y : Int)] := by
          rw [List.take_succ_eq_append_getElem hlt]
          congr 2
          have := Hx.out
          simp only [List.getD, List.getElem?_eq_getElem hlt, Option.getD_some] at this
          exact this.symm
        refine ⟨k + 1, by go_num, by omega, ?_, ?_, K.out.setCell (p := ⟨w.heap.size, y, none⟩) (.inr (Nat.le_refl _)) _⟩
        · intro x hx
          rw [el] at hx
          rcases List.mem_append.1 hx with hx | hx
          · exact A.out x hx
          · have := Hy.out
            rw [List.mem_singleton] at hx
            omega
        · have := heap_setCell_at G.out y (.bool true)
          rw [el, ldB_snoc, this, bls, bls, List.map_set]
          simp
      case measure => simp [intOf]; omega
    · obtain rfl : k = l.length := by omega
      have x1 : ¬ (l.length : Int) < (l.length : Int) := by omega
      have hp := K.out.heap (by simp) H.out.hp
      have P := Lib.hid hp
      have hpl := Lib.hid (heap_lt hp)
      obtain ⟨d0, d1, d2, d3⟩ := res_cells hp
      have Yes := Lib.hid (okLd_yes (N := N) (l := l) (by omega) (by have := HN.out; omega) A.out)
      have G' := G.out
      rw [List.take_length] at G'
      have A' := A.out
      rw [List.take_length] at A'
      have L := Lib.hid (H.out.loaded K.out hB.out G' HN.out.2.1 HN.out.2.2 (fun x hx => (A' x hx).1))
      have hpl2 := heap_lt hp
      clear hp G' A'
      have hmm : ∀ w : World, (Instr.makeMap 115 none).run Try.prog w = .ok (.map (some w.heap.size)) (w.alloc (.map #[] 0)) := fun w => run_makeMap _ w
      go_wp2
      go_ret
      refine .inl ⟨Yes.out, rfl, ⟨wr.heap.size, .slice (some ⟨w.heap.size, 0, none⟩) n n, ?_⟩, L.out.2⟩
      have e : N.toNat = n := by have := HN.out; omega
      rw [e]
      exact L.out.1

/-- What the document's Load tells and does. -/
def RLoad (w : World) (B q : Nat) (N : Int) (l : List Int) (e : Ending) (w' : World) : Prop :=
  (okLd N l = true ∧ e = .returned (.int .i64 0) ∧ (∃ v', Rm w' B q v' (ldS N.toNat l)) ∧ Fr B rts w w') ∨ (okLd N l = false ∧ e = .returned (.int .i64 1) ∧ w = w')

theorem RLoad.no {w : World} {B q : Nat} {N : Int} {l : List Int} (h : okLd N l = false) : RLoad w B q N l (.returned (.int .i64 1)) w := .inr ⟨h, rfl, rfl⟩

theorem sb_put (st : List Nat) (k s : Nat) : sb (st.set k s) = (sb st).set k (.int .u8 (s : Int)) := by simp [sb, List.map_set]

/-- One cell of a row of states of the call's own turned. -/
theorem own_put {w : World} {B g c k s : Nat} {st : List Nat} (h : w.ownsRow B 5 1 (.slice (some ⟨g, 0, none⟩) st.length c) st.length (sb st)) :
    (w.setCell ⟨g, k, none⟩ (.int .u8 (s : Int))).ownsRow B 5 1 (.slice (some ⟨g, 0, none⟩) st.length c) st.length (sb (st.set k s)) ∧ Fr B [5] w (w.setCell ⟨g, k, none⟩ (.int .u8 (s : Int))) := by
  rcases h.2 with ⟨hv, _⟩ | ⟨g', cap, cur, hv, hbg, hg, hnc, hcm, hcs, htk⟩
  · cases hv
  · simp only [Value.slice.injEq, Option.some.injEq, Addr.mk.injEq] at hv
    obtain ⟨⟨rfl, _⟩, _, rfl⟩ := hv
    refine ⟨⟨by simp [sb_length], .inr ⟨g, c, _, rfl, hbg, heap_setCell_at hg k _, hnc, hcm, by simpa using hcs, ?_⟩⟩, (Fr.refl B _ w).setCell hg (.inr ⟨hbg, by simp⟩) k _⟩
    rw [Array.toList_setIfInBounds, List.take_set, htk, sb_put]

/-- The document's manager that was loaded. -/
theorem Rm.loaded {w w' : World} {B q : Nat} {v v' : Value} {st : List Nat} {n : Nat} {l : List Int} (h : Rm w B q v st) (hf : Fr B [5] w w') (ho : w'.ownsRow B 5 1 v' (n - 1) (sb (ldS n l))) (hn2 : n ≤ 1048576) :
    Rm (w'.setCell ⟨q, 0, none⟩ v') B q v' (ldS n l) ∧ Fr B rts w (w'.setCell ⟨q, 0, none⟩ v') := by
  have hp := hf.heap h.hp (by decide)
  have f3 : Fr B [72] w' (w'.setCell ⟨q, 0, none⟩ v') := (Fr.refl B _ w').setCell hp (.inr ⟨h.bp, by simp⟩) 0 _
  refine ⟨{ hp := by simpa using heap_setCell_at hp 0 v', hv := ?_, bp := h.bp, hl := by rw [ldS_length]; omega, hs := ldS_states n l }, (hf.mono (Nat.le_refl _) (by simp [rts])).trans (f3.mono (Nat.le_refl _) (by simp [rts]))⟩
  rw [ldS_length]
  exact ownsRow_fr ho f3 (by decide)

set_option maxRecDepth 20000 in
set_option maxHeartbeats 2000000 in
theorem rload_any {w : World} {B q : Nat} {v : Value} {st : List Nat} (h : Rm w B q v st) (N : Int) (u : Value) (l : List Int) (hr : RdI w u l) :
    Calls Try.prog 47 #[.pointer (some ⟨q, 0, none⟩), .int .i64 N, u] w (RLoad w B q N l) := by
  have H := Lib.hid h; have R := Lib.hid hr
  have hlen := hr.len
  obtain ⟨a, c, rfl, hc, _, _, hcl⟩ := hr
  clear h
  by_cases h1 : N < 1
  · have HN := Lib.hid (okLd_out (l := l) (.inl h1))
    clear hlen hc hcl
    go_enter Try.func47, Try.ntmps47
    go_wp2
    go_ret
    exact .no HN.out
  by_cases h2 : (1048576 : Int) < N
  · have HN := Lib.hid (okLd_out (l := l) (.inr h2))
    clear hlen hc hcl
    go_enter Try.func47, Try.ntmps47
    go_wp2
    go_ret
    exact .no HN.out
  obtain ⟨n, hn⟩ : ∃ n : Nat, N = n := ⟨N.toNat, by omega⟩
  have hn1 : 1 ≤ n := by omega
  have hn2 : n ≤ 1048576 := by omega
  have h2' : decide ((1048576 : Int) < N) = false := by rw [decide_eq_false_iff_not]; omega
  have HN := Lib.hid (And.intro hn (And.intro hn1 hn2))
  have HC := Lib.hid hcl
  have hB := Lib.hid H.out.size
  obtain ⟨i0, hi, hz0, hz1, hz2⟩ := info_parts Try.infoU8
  have I := Lib.hid (And.intro hi (And.intro hz0 (And.intro hz1 hz2)))
  clear hn hn1 hn2 h2 hcl hc hi hz0 hz1 hz2
  go_enter Try.func47, Try.ntmps47
  go_wp2
  go_loop [7] (fun i => ∃ k : Nat, i = .int .i64 k ∧ k ≤ l.length ∧ (∀ x ∈ l.take k, 1 ≤ x ∧ x < N)) (fun i => l.length - (intOf i).toNat)
  case atStart => exact ⟨0, rfl, Nat.zero_le _, by simp⟩
  case round =>
    obtain ⟨k, rfl, hk, hall⟩ := hrel
    have A := Lib.hid hall
    clear hall
    by_cases hlt : k < l.length
    · obtain ⟨bb, o, rfl, hcell⟩ := HC.out (by rintro rfl; simp at hlt)
      have cx := hcell k hlt
      obtain ⟨x, hx⟩ : ∃ x, x = l.getD k 0 := ⟨_, rfl⟩
      rw [← hx] at cx
      have Hx := Lib.hid hx
      have x1 : (k : Int) < (l.length : Int) := by omega
      clear hcell hx
      by_cases g1 : x < 1
      · have Hno := Lib.hid (okLd_no (N := N) hlt (.inl (by rw [← Hx.out]; exact g1)))
        go_wp2
        go_ret
        exact .no Hno.out
      by_cases g2 : N ≤ x
      · have Hno := Lib.hid (okLd_no (N := N) hlt (.inr (by rw [← Hx.out]; exact g2)))
        go_wp2
        go_ret
        exact .no Hno.out
      have Hy := Lib.hid (And.intro g1 g2)
      go_wp2
      go_round
      case rel =>
        refine ⟨k + 1, by go_num, by omega, ?_⟩
        intro y hy
        rw [List.take_succ_eq_append_getElem hlt] at hy
        rcases List.mem_append.1 hy with hy | hy
        · exact A.out y hy
        · have := Hy.out
          have hx := Hx.out
          simp only [List.getD, List.getElem?_eq_getElem hlt, Option.getD_some] at hx
          rw [List.mem_singleton] at hy
          omega
      case measure => simp [intOf]; omega
    · obtain rfl : k = l.length := by omega
      have x1 : ¬ (l.length : Int) < (l.length : Int) := by omega
      have Yes := Lib.hid (okLd_yes (N := N) (l := l) (by omega) (by have := HN.out; omega) A.out)
      go_wp2
      go_loopw [8, 9] (fun s x wr => ∃ j : Nat, x = .int .i64 j ∧ 1 ≤ j ∧ j ≤ n ∧ wr.ownsRow w.heap.size 5 1 s (j - 1) (sb (List.replicate (j - 1) 3)) ∧ Fr w.heap.size [5] w wr) (fun _ x _ => n - (intOf x).toNat)
      case atStart => exact ⟨1, rfl, Nat.le_refl _, HN.out.2.1, World.ownsRow_nil _ _ _ _, Fr.refl _ _ _⟩
      case round =>
        obtain ⟨j, rfl, hj1, hj, ho, hf⟩ := hrel
        obtain ⟨sa, sc, rfl⟩ := ownsRow_shape ho
        have O := Lib.hid ho; have F := Lib.hid hf
        have hsz := hf.size
        clear ho hf
        by_cases hjn : j < n
        · have x2 : (j : Int) < N := by have := HN.out; omega
          have x3 : (j : Int) ≤ 2000000 := by have := HN.out; omega
          have Hj := Lib.hid (And.intro hj1 (And.intro hj hjn))
          have hb : wr.heap.size ≥ w.heap.size := hsz
          clear hj1 hj hjn
          go_wp2_with (at_builtin; refine wpList_append_fr _ rfl (.tmp 41) (.tmp 42) 36 36 rfl w.heap.size 5 i0 (.int .u8 0) 1 1 Try.underlying36 I.out.1 I.out.2.1 I.out.2.2.1 I.out.2.2.2 rfl _ (j - 1) (sb (List.replicate (j - 1) 3)) rfl ?hown _ 1 [.int .u8 3] rfl (src_one Try.underlying36 wr _ rfl _) ?b1 ?b2 ?base ?next)
          case hown => exact ownsRow_fr O.out ((Fr.refl 0 [] wr).alloc _) (by simp)
          case b1 => have := HN.out; have := Hj.out; simp only [maxLen]; omega
          case b2 => have := HN.out; have := Hj.out; omega
          case base => simp; omega
          case next =>
            intro v2 w2 ho2 hf2 _
            have F2 := Lib.hid ((F.out.trans ((Fr.refl _ _ wr).alloc _)).trans hf2)
            have O2 : Hid (w2.ownsRow w.heap.size 5 1 v2 (j + 1 - 1) (sb (List.replicate (j + 1 - 1) 3))) := Lib.hid (by
              have e : j + 1 - 1 = j - 1 + 1 := by have := Hj.out; omega
              rw [e, List.replicate_succ', sb_snoc]
              exact ho2)
            clear ho2 hf2
            go_wp2
            go_roundw
            case rel => exact ⟨j + 1, by go_num, by omega, by have := Hj.out; omega, O2.out, F2.out⟩
            case measure => have := Hj.out; simp [intOf]; omega
        · obtain rfl : j = n := by omega
          have x2 : ¬ (j : Int) < N := by have := HN.out; omega
          have O' : Hid (wr.ownsRow w.heap.size 5 1 (.slice sa (j - 1) sc) (j - 1) (sb (ldS j (l.take 0)))) := Lib.hid (by rw [List.take_zero, ldS_nil]; exact O.out)
          have Hj := Lib.hid (And.intro hj1 hj)
          clear O hj hj1 hjn
          go_wp2
          go_loopw [10] (fun i wr => ∃ k : Nat, i = .int .i64 k ∧ k ≤ l.length ∧ wr.ownsRow w.heap.size 5 1 (.slice sa (j - 1) sc) (j - 1) (sb (ldS j (l.take k))) ∧ Fr w.heap.size [5] w wr) (fun i _ => l.length - (intOf i).toNat)
          case atStart => exact ⟨0, rfl, Nat.zero_le _, O'.out, F.out⟩
          case round =>
            obtain ⟨k, rfl, hk, ho, hf⟩ := hrel
            have O := Lib.hid ho; have F := Lib.hid hf
            clear ho hf
            by_cases hlt : k < l.length
            · obtain ⟨bb, o, rfl, hcell⟩ := HC.out (by rintro rfl; simp at hlt)
              have cx0 := hcell k hlt
              obtain ⟨x, hx⟩ : ∃ x, x = l.getD k 0 := ⟨_, rfl⟩
              rw [← hx] at cx0
              have hxl : x = l[k] := by
                have := hx
                simpa only [List.getD, List.getElem?_eq_getElem hlt, Option.getD_some] using this
              have hxb : 1 ≤ x ∧ x < N := by
                have := A.out x (by rw [List.take_length, hxl]; exact List.getElem_mem hlt)
                exact this
              obtain ⟨y, hy⟩ : ∃ y : Nat, x = (y : Int) + 1 := ⟨x.toNat - 1, by omega⟩
              have hyj : y < j - 1 := by have := HN.out; omega
              obtain ⟨g, rfl, hg1, hg2, ⟨cur, hcur⟩, hcells⟩ := row_head O.out (by omega)
              have hlen2 : (sb (ldS j (l.take k))).length = j - 1 := by rw [sb_length, ldS_length]
              obtain ⟨z, hz⟩ : ∃ z, (sb (ldS j (l.take k)))[y]? = some z := ⟨_, List.getElem?_eq_getElem (by rw [hlen2]; exact hyj)⟩
              have cz := hcells y z hz
              obtain ⟨zn, rfl⟩ : ∃ zn : Nat, z = .int .u8 (zn : Int) := by
                rw [sb, List.getElem?_map, Option.map_eq_some_iff] at hz
                obtain ⟨s, _, rfl⟩ := hz
                exact ⟨s, rfl⟩
              have fz : wr.frozen? ⟨g, y, none⟩ = false := frozen_of_row _ _ _ _ _ hcur
              have cx : wr.cell? ⟨bb, o + k, none⟩ = some (.int .i64 x) := by
                rw [World.cell?_of_block (w := w) ((F.out.block bb (World.block_lt_of_cell? w _ cx0)).resolve_right (fun ⟨h2, _⟩ => by have := World.block_lt_of_cell? w _ cx0; simp at this; omega))]
                exact cx0
              have x3 : (k : Int) < (l.length : Int) := by omega
              have x4 : x - 1 = (y : Int) := by omega
              have x5 : (y : Int) < ((j - 1 : Nat) : Int) := by omega
              have x6 : (1 : Int) ≤ x := hxb.1
              have x7 : x ≤ 2000000 := by have := HN.out; omega
              have P := own_put (k := y) (s := 2) (st := ldS j (l.take k)) (by rw [ldS_length]; exact O.out)
              rw [ldS_length] at P
              have el : l.take (k + 1) = l.take k ++ [(y : Int) + 1] := by
                rw [List.take_succ_eq_append_getElem hlt, ← hxl, hy]
              rw [← ldS_snoc, ← el] at P
              have PP := Lib.hid P
              obtain ⟨m, hm⟩ : ∃ m, m = j - 1 := ⟨_, rfl⟩
              rw [← hm] at x5
              clear hcell hx hxl hxb hy hyj hcur hcells hlen2 hz el P cx0
              rw [← hm]
              go_wp2
              rw [hm]
              go_roundw
              case rel => exact ⟨k + 1, by go_num, by omega, PP.out.1, F.out.trans PP.out.2⟩
              case measure => simp [intOf]; omega
            · obtain rfl : k = l.length := by omega
              have x3 : ¬ (l.length : Int) < (l.length : Int) := by omega
              have hp := F.out.heap H.out.hp (by decide)
              have d0 : wr.cell? ⟨q, 0, none⟩ = some v := by rw [cell_of_row wr q 0 _ _ _ hp]; rfl
              have d1 : wr.frozen? ⟨q, 0, none⟩ = false := frozen_of_row _ _ _ _ _ hp
              have O3 := ownsRow_low O.out hB.out
              rw [List.take_length] at O3
              have L := Lib.hid (H.out.loaded (F.out.mono hB.out (by simp)) O3 HN.out.2.2)
              clear hp O3
              go_wp2
              go_ret
              refine .inl ⟨Yes.out, rfl, ⟨.slice sa (j - 1) sc, ?_⟩, L.out.2⟩
              have e : N.toNat = j := by have := HN.out; omega
              rw [e]
              exact L.out.1

theorem stAt_ldS {n : Nat} {l : List Int} {x : Int} (h : 1 ≤ x ∧ x < n) : stAt (ldS n l) x = if x ∈ l then 2 else 3 := by
  obtain ⟨i, hi⟩ : ∃ i : Nat, x = (i : Int) + 1 := ⟨x.toNat - 1, by omega⟩
  subst hi
  rw [stAt_nat (by rw [ldS_length]; omega)]
  simp [ldS]

/-- A new manager of the document. -/
theorem rnew (w : World) {B : Nat} (hB : B ≤ w.heap.size) : Rm (w.alloc (.cells #[.slice none 0 0] 72)) B w.heap.size (.slice none 0 0) [] :=
  { hp := heap_alloc_new w _, hv := World.ownsRow_nil _ _ _ _, bp := hB, hl := by decide, hs := by simp }

end Go.Proofs.Ytfhdblbiamdplaa
