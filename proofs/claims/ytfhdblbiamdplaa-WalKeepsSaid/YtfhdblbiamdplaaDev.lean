/-
  The contracts of package block, first part: what a device in memory is ('Dv'); New, Size, Waiting, has.
-/
import Derived.Test.YtfhdblbiamdplaaRows
import Derived.Test.YtfhdblbiamdplaaFr
import Derived.Test.YtfhdblbiamdplaaBMath
import Derived.RegionTactic
import Derived.Outline
namespace Go.Proofs.Ytfhdblbiamdplaa
open Go.RowKit

theorem Try.infoC : (Try.prog.info? 104).map (fun i => (i.zero, i.size, i.bytes)) = some (some (.agg (Array.replicate 32 (.int .u8 0))), 32, 32) := by kernel_rfl

/-- A write's cells. -/
def wcell (x : Wt) : List Value := .int .i64 x.blk :: .int .i64 x.size :: bc x.bytes
def wcells (ws : List Wt) : List Value := ws.flatMap wcell

theorem wcell_length {x : Wt} (h : x.bytes.length = 32) : (wcell x).length = 34 := by simp [wcell, bc_length, h]
theorem wcell_one (x : Wt) : ∀ u ∈ wcell x, u.oneCell' = true := by
  intro u hu
  simp only [wcell, List.mem_cons] at hu
  rcases hu with rfl | rfl | hu
  · rfl
  · rfl
  · exact bc_one _ u hu

theorem wcells_at (ws : List Wt) (h : ∀ x ∈ ws, x.bytes.length = 32) : ∀ (i : Nat) (hi : i < ws.length) (j : Nat) (u : Value), (wcell ws[i])[j]? = some u → (wcells ws)[34 * i + j]? = some u := by
  induction ws with
  | nil => intro i hi; simp at hi
  | cons x r ih =>
    intro i hi j u hu
    have hx := wcell_length (h x (by simp))
    rw [wcells, List.flatMap_cons]
    cases i with
    | zero =>
      have hj : j < 34 := by
        have := (List.getElem?_eq_some_iff.1 hu).1
        simp only [List.getElem_cons_zero] at this
        omega
      rw [Nat.mul_zero, Nat.zero_add, List.getElem?_append_left (by omega)]
      exact hu
    | succ i =>
      rw [List.getElem?_append_right (by omega), hx]
      have e : 34 * (i + 1) + j - 34 = 34 * i + j := by omega
      rw [e]
      exact ih (fun y hy => h y (by simp [hy])) i (by simpa using hi) j u (by simpa using hu)

/-- A device at block p: the blocks as they are now stand in block gn, those that are safe in gs; v has the writes that wait. -/
structure Dv (w : World) (B p gn gs : Nat) (v : Value) (n : Nat) (now safe : List UInt8) (ws : List Wt) : Prop where
  hp : w.heap[p]? = some (.cells #[.slice (some ⟨gn, 0, none⟩) n n, .slice (some ⟨gs, 0, none⟩) n n, v] 95 (0, 0))
  hn : w.heap[gn]? = some (.cells (bc now).toArray 104 (0, 0))
  hs : w.heap[gs]? = some (.cells (bc safe).toArray 104 (0, 0))
  hv : w.ownsRow B 106 34 v ws.length (wcells ws)
  ne : gn ≠ gs
  bp : B ≤ p
  bn : B ≤ gn
  bs : B ≤ gs
  n12 : n ≤ 4096
  ln : now.length = 32 * n
  ls : safe.length = 32 * n
  hw : ∀ x ∈ ws, x.ok n

/-- The types of a device's blocks. -/
def dts : List TypeId := [95, 104, 106]

theorem ownsRow_frame {w w' : World} {base e size n B : Nat} {ts : List TypeId} {v : Value} {xs : List Value} (h : w.ownsRow base e size v n xs) (hf : Fr B ts w w') (he : e ∉ ts) : w'.ownsRow base e size v n xs := by
  refine ⟨h.1, ?_⟩
  rcases h.2 with h2 | ⟨g, cap, cur, rfl, hbg, hg, r⟩
  · exact .inl h2
  · exact .inr ⟨g, cap, cur, rfl, hbg, hf.heap hg he, r⟩

theorem Dv.frame {w w' : World} {B p gn gs n C : Nat} {v : Value} {now safe : List UInt8} {ws : List Wt} {ts : List TypeId} (h : Dv w B p gn gs v n now safe ws) (hf : Fr C ts w w')
    (h1 : 95 ∉ ts) (h2 : 104 ∉ ts) (h3 : 106 ∉ ts) : Dv w' B p gn gs v n now safe ws :=
  { h with hp := hf.heap h.hp h1, hn := hf.heap h.hn h2, hs := hf.heap h.hs h2, hv := ownsRow_frame h.hv hf h3 }

theorem Dv.cell0 {w : World} {B p gn gs n : Nat} {v : Value} {now safe : List UInt8} {ws : List Wt} (h : Dv w B p gn gs v n now safe ws) : w.cell? ⟨p, 0, none⟩ = some (.slice (some ⟨gn, 0, none⟩) n n) := by simpa using cell_of_row w p 0 _ _ _ h.hp
theorem Dv.cell1 {w : World} {B p gn gs n : Nat} {v : Value} {now safe : List UInt8} {ws : List Wt} (h : Dv w B p gn gs v n now safe ws) : w.cell? ⟨p, 1, none⟩ = some (.slice (some ⟨gs, 0, none⟩) n n) := by simpa using cell_of_row w p 1 _ _ _ h.hp
theorem Dv.cell2 {w : World} {B p gn gs n : Nat} {v : Value} {now safe : List UInt8} {ws : List Wt} (h : Dv w B p gn gs v n now safe ws) : w.cell? ⟨p, 2, none⟩ = some v := by simpa using cell_of_row w p 2 _ _ _ h.hp
theorem Dv.frozen {w : World} {B p gn gs n : Nat} {v : Value} {now safe : List UInt8} {ws : List Wt} (h : Dv w B p gn gs v n now safe ws) (j : Nat) : w.frozen? ⟨p, j, none⟩ = false := frozen_of_row _ _ _ _ _ h.hp

theorem ownsRow_kept {w w' : World} {base e size n : Nat} {bs : List Nat} {v : Value} {xs : List Value} (h : w.ownsRow base e size v n xs) (hk : Kept w w' bs) (h4 : ∀ g, v.ownBlock = some g → g ∉ bs) : w'.ownsRow base e size v n xs := by
  refine ⟨h.1, ?_⟩
  rcases h.2 with h5 | ⟨g, cap, cur, rfl, hbg, hg, r⟩
  · exact .inl h5
  · exact .inr ⟨g, cap, cur, rfl, hbg, hk.heap (h4 g rfl) hg, r⟩

/-- Under a frame of single blocks. -/
theorem Dv.kept {w w' : World} {B p gn gs n : Nat} {v : Value} {now safe : List UInt8} {ws : List Wt} {bs : List Nat} (h : Dv w B p gn gs v n now safe ws) (hk : Kept w w' bs) (h1 : p ∉ bs) (h2 : gn ∉ bs) (h3 : gs ∉ bs) (h4 : ∀ g, v.ownBlock = some g → g ∉ bs) : Dv w' B p gn gs v n now safe ws :=
  { h with hp := hk.heap h1 h.hp, hn := hk.heap h2 h.hn, hs := hk.heap h3 h.hs, hv := ownsRow_kept h.hv hk h4 }

theorem ne_of_types {w : World} {g k : Nat} {cs cs' : Array Value} {t t' : TypeId} {fz fz' : Nat × Nat} (h : w.heap[g]? = some (.cells cs t fz)) (h' : w.heap[k]? = some (.cells cs' t' fz')) (hne : t ≠ t') : g ≠ k := by
  rintro rfl
  rw [h] at h'
  injection h' with h'
  injection h' with _ e
  exact hne e

theorem own_ne {w : World} {base e size n k : Nat} {v : Value} {xs : List Value} {cs : Array Value} {t : TypeId} {fz : Nat × Nat} (h : w.ownsRow base e size v n xs) (h' : w.heap[k]? = some (.cells cs t fz)) (hne : e ≠ t) : ∀ g, v.ownBlock = some g → g ≠ k := by
  intro g hg
  rcases h.2 with ⟨rfl, _⟩ | ⟨g', cap, cur, rfl, _, hh, _⟩
  · simp [Value.ownBlock] at hg
  · obtain rfl : g' = g := by simpa [Value.ownBlock] using hg
    exact ne_of_types hh h' hne

/-- The blocks as they are now have turned. -/
theorem Dv.setNow {w w' : World} {B p gn gs n : Nat} {v : Value} {now now' safe : List UInt8} {ws : List Wt} (h : Dv w B p gn gs v n now safe ws) (hk : Kept w w' [gn]) (hn : w'.heap[gn]? = some (.cells (bc now').toArray 104 (0, 0))) (hl : now'.length = 32 * n) : Dv w' B p gn gs v n now' safe ws :=
  { h with hp := hk.heap (by simpa using ne_of_types h.hp h.hn (by decide)) h.hp, hn := hn, hs := hk.heap (by simpa using h.ne.symm) h.hs, ln := hl, hv := ownsRow_kept h.hv hk (fun g hg => by simpa using own_ne h.hv h.hn (by decide) g hg) }

/-- Those that are safe have turned. -/
theorem Dv.setSafe {w w' : World} {B p gn gs n : Nat} {v : Value} {now safe safe' : List UInt8} {ws : List Wt} (h : Dv w B p gn gs v n now safe ws) (hk : Kept w w' [gs]) (hn : w'.heap[gs]? = some (.cells (bc safe').toArray 104 (0, 0))) (hl : safe'.length = 32 * n) : Dv w' B p gn gs v n now safe' ws :=
  { h with hp := hk.heap (by simpa using ne_of_types h.hp h.hs (by decide)) h.hp, hs := hn, hn := hk.heap (by simpa using h.ne) h.hn, ls := hl, hv := ownsRow_kept h.hv hk (fun g hg => by simpa using own_ne h.hv h.hs (by decide) g hg) }

/-- The device's list of writes has turned. -/
theorem Dv.setWaits {w w' : World} {B p gn gs n : Nat} {v v' : Value} {now safe : List UInt8} {ws ws' : List Wt} (h : Dv w B p gn gs v n now safe ws) (hf : Fr B [106] w w') (hv : w'.ownsRow B 106 34 v' ws'.length (wcells ws')) (hw : ∀ x ∈ ws', x.ok n) :
    Dv (w'.setCell ⟨p, 2, none⟩ v') B p gn gs v' n now safe ws' ∧ Fr B dts w (w'.setCell ⟨p, 2, none⟩ v') ∧ Kept w' (w'.setCell ⟨p, 2, none⟩ v') [p] := by
  have hp := hf.heap h.hp (by decide)
  have hn := hf.heap h.hn (by decide)
  have hs := hf.heap h.hs (by decide)
  have hk : Kept w' (w'.setCell ⟨p, 2, none⟩ v') [p] := (Kept.refl w' [p]).setCell (p := ⟨p, 2, none⟩) (.inl (by simp)) v'
  refine ⟨{ h with hp := by simpa using heap_setCell_at hp 2 v', hn := hk.heap (by simpa using ne_of_types hn hp (by decide)) hn, hs := hk.heap (by simpa using ne_of_types hs hp (by decide)) hs, hw := hw, hv := ownsRow_kept hv hk (fun g hg => by simpa using own_ne hv hp (by decide) g hg) }, ?_, hk⟩
  exact (hf.mono (Nat.le_refl _) (by decide)).trans ((Fr.refl B dts w').setCell hp (.inr ⟨h.bp, by decide⟩) 2 v')

/-- So many blocks a device of n has. -/
def clampN (n : Int) : Nat := (min (max n 0) 4096).toNat

/-- Noughts for k blocks. -/
def noughts (k : Nat) : List UInt8 := List.replicate (32 * k) 0

theorem getElem!_replicate (n j : Nat) (v : Value) (h : j < n) : (Array.replicate n v)[j]! = v := by
  rw [getElem!_pos _ _ (by simpa using h)]
  simp

theorem made_noughts (k : Nat) : madeCells (Value.agg (Array.replicate 32 (.int .u8 0))).cells (k * 32) = (bc (noughts k)).toArray := by
  apply Array.ext
  · rw [size_madeCells, List.size_toArray, bc_length, noughts, List.length_replicate]
    omega
  · intro i h1 h2
    have e : (Value.agg (Array.replicate 32 (.int .u8 0))).cells = Array.replicate 32 (.int .u8 0) := rfl
    simp only [madeCells, e, Array.size_replicate, Array.getElem_map, bc, noughts, List.map_replicate, List.getElem_toArray, List.getElem_replicate]
    rw [getElem!_replicate _ _ _ (Nat.mod_lt _ (by decide))]
    rfl

theorem mk_blocks (k : Nat) (hk : k ≤ 4096) (w : World) : (Instr.makeSlice 92 (.int .i64 k) (.int .i64 k)).run Try.prog w = .ok (.slice (some ⟨w.heap.size, 0, none⟩) k k) (w.alloc (.cells (bc (noughts k)).toArray 104)) := by
  obtain ⟨i0, hi, hz0, hz1, hz2⟩ := info_parts Try.infoC
  have h := run_make (P := Try.prog) w 92 104 i0 _ Try.underlying92 hi hz0 .i64 .i64 k k (by omega) (by omega) (by rw [hz2]; omega) (by omega)
  rw [h, hz1]
  have e := made_noughts k
  simp only [Int.toNat_natCast]
  rw [e]

theorem dv_new (w w' : World) (k gn gs : Nat) (hk : k ≤ 4096) (h1 : w.heap.size ≤ gn) (h2 : w.heap.size ≤ gs) (hne : gn ≠ gs) (hg : w'.heap[gn]? = some (.cells (bc (noughts k)).toArray 104)) (hs : w'.heap[gs]? = some (.cells (bc (noughts k)).toArray 104)) (hz : w.heap.size ≤ w'.heap.size) :
    Dv (w'.alloc (.cells #[.slice (some ⟨gn, 0, none⟩) k k, .slice (some ⟨gs, 0, none⟩) k k, .slice none 0 0] 95)) w.heap.size w'.heap.size gn gs (.slice none 0 0) k (noughts k) (noughts k) [] :=
  { hp := heap_alloc_new w' _
    hn := (Below.heap_alloc w' _ gn (heap_lt hg)).trans hg
    hs := (Below.heap_alloc w' _ gs (heap_lt hs)).trans hs
    hv := World.ownsRow_nil _ _ _ _
    ne := hne, bp := hz, bn := h1, bs := h2, n12 := hk
    ln := by simp [noughts]
    ls := by simp [noughts]
    hw := by simp }

theorem Dv.drew {w : World} {B p gn gs n : Nat} {v : Value} {now safe : List UInt8} {ws : List Wt} (h : Dv w B p gn gs v n now safe ws) : Dv w.drew B p gn gs v n now safe ws := h.frame (C := 0) (ts := []) (Fr.refl 0 [] w).drew (by simp) (by simp) (by simp)

/-- What New has made, whichever of the two rows it makes first. -/
theorem dv_made (w : World) (k gn gs : Nat) (hk : k ≤ 4096) (h : (gn = w.heap.size ∧ gs = w.heap.size + 1) ∨ (gs = w.heap.size ∧ gn = w.heap.size + 1)) :
    Dv (((w.alloc (.cells (bc (noughts k)).toArray 104)).alloc (.cells (bc (noughts k)).toArray 104)).alloc (.cells #[.slice (some ⟨gn, 0, none⟩) k k, .slice (some ⟨gs, 0, none⟩) k k, .slice none 0 0] 95)).drew
      w.heap.size (w.heap.size + 1 + 1) gn gs (.slice none 0 0) k (noughts k) (noughts k) [] ∧
    Kept w (((w.alloc (.cells (bc (noughts k)).toArray 104)).alloc (.cells (bc (noughts k)).toArray 104)).alloc (.cells #[.slice (some ⟨gn, 0, none⟩) k k, .slice (some ⟨gs, 0, none⟩) k k, .slice none 0 0] 95)).drew [] := by
  obtain ⟨W, hW⟩ : ∃ W, W = (w.alloc (.cells (bc (noughts k)).toArray 104)).alloc (.cells (bc (noughts k)).toArray 104) := ⟨_, rfl⟩
  have hz : W.heap.size = w.heap.size + 1 + 1 := by rw [hW]; simp
  have ha : W.heap[w.heap.size]? = some (.cells (bc (noughts k)).toArray 104) := by
    rw [hW]
    exact (Below.heap_alloc _ _ _ (by simp)).trans (heap_alloc_new w _)
  have hb : W.heap[w.heap.size + 1]? = some (.cells (bc (noughts k)).toArray 104) := by
    rw [hW]
    have := heap_alloc_new (w.alloc (.cells (bc (noughts k)).toArray 104)) (.cells (bc (noughts k)).toArray 104)
    simpa using this
  have hK : Kept w W [] := by rw [hW]; exact ((Kept.refl w []).alloc _).alloc _
  rw [← hW, ← hz]
  refine ⟨Dv.drew ?_, (hK.alloc _).drew⟩
  rcases h with ⟨rfl, rfl⟩ | ⟨rfl, rfl⟩
  · exact dv_new w W k _ _ hk (Nat.le_refl _) (by omega) (by omega) ha hb (by omega)
  · exact dv_new w W k _ _ hk (by omega) (Nat.le_refl _) (by omega) hb ha (by omega)

set_option maxHeartbeats 1000000 in
theorem new_any (n : Int) (w : World) :
    Calls Try.prog 15 #[.int .i64 n] w fun e w' => ∃ p gn gs, e = .returned (.pointer (some ⟨p, 0, none⟩)) ∧ Dv w' w.heap.size p gn gs (.slice none 0 0) (clampN n) (noughts (clampN n)) (noughts (clampN n)) [] ∧ Kept w w' [] := by
  obtain ⟨k, hk, hk2⟩ : ∃ k, k = clampN n ∧ k ≤ 4096 := ⟨_, rfl, by unfold clampN; omega⟩
  rw [← hk]
  have hmk := mk_blocks k hk2
  have d1 := (dv_made w k _ _ hk2 (.inl ⟨rfl, rfl⟩))
  have d2 := (dv_made w k _ _ hk2 (.inr ⟨rfl, rfl⟩))
  have D1 := Lib.hid d1; have D2 := Lib.hid d2
  clear d1 d2
  by_cases h1 : n < 0
  · have e : k = 0 := by unfold clampN at hk; omega
    have Hk := Lib.hid e; clear hk e
    have hmk0 : ∀ w : World, (Instr.makeSlice 92 (.int .i64 0) (.int .i64 0)).run Try.prog w = .ok (.slice (some ⟨w.heap.size, 0, none⟩) k k) (w.alloc (.cells (bc (noughts k)).toArray 104)) := by
      intro w; rw [← hmk w, Hk.out]; rfl
    clear hmk
    go_enter Try.func15, Try.ntmps15
    go_wp2
    go_region
    all_goals go_wp2
    all_goals go_ret
    · exact ⟨_, _, _, rfl, D1.out⟩
    · exact ⟨_, _, _, rfl, D2.out⟩
  · by_cases h2 : 4096 < n
    · have e : k = 4096 := by unfold clampN at hk; omega
      have Hk := Lib.hid e; clear hk e
      have hmk0 : ∀ w : World, (Instr.makeSlice 92 (.int .i64 4096) (.int .i64 4096)).run Try.prog w = .ok (.slice (some ⟨w.heap.size, 0, none⟩) k k) (w.alloc (.cells (bc (noughts k)).toArray 104)) := by
        intro w; rw [← hmk w, Hk.out]; rfl
      clear hmk
      go_enter Try.func15, Try.ntmps15
      go_wp2
      go_region
      all_goals go_wp2
      all_goals go_ret
      · exact ⟨_, _, _, rfl, D1.out⟩
      · exact ⟨_, _, _, rfl, D2.out⟩
    · obtain rfl : n = (k : Int) := by unfold clampN at hk; omega
      clear hk
      go_enter Try.func15, Try.ntmps15
      go_wp2
      go_region
      all_goals go_wp2
      all_goals go_ret
      · exact ⟨_, _, _, rfl, D1.out⟩
      · exact ⟨_, _, _, rfl, D2.out⟩

theorem size_any {w : World} {B p gn gs n : Nat} {v : Value} {now safe : List UInt8} {ws : List Wt} (h : Dv w B p gn gs v n now safe ws) :
    Calls Try.prog 62 #[.pointer (some ⟨p, 0, none⟩)] w fun e w' => e = .returned (.int .i64 n) ∧ w = w' := by
  have c0 := h.cell0
  clear h
  go_enter Try.func62, Try.ntmps62
  go_wp2
  go_ret
  exact ⟨rfl, rfl⟩

theorem size_nil (w : World) : Calls Try.prog 62 #[.pointer none] w fun e w' => e = .returned (.int .i64 0) ∧ w = w' := by
  go_enter Try.func62, Try.ntmps62
  go_wp2
  go_ret
  exact ⟨rfl, rfl⟩

theorem ownsRow_shape {w : World} {base e size n : Nat} {v : Value} {xs : List Value} (h : w.ownsRow base e size v n xs) : ∃ a c, v = .slice a n c := by
  rcases h.2 with ⟨rfl, rfl⟩ | ⟨g, cap, cur, rfl, _⟩
  · exact ⟨none, 0, rfl⟩
  · exact ⟨_, _, rfl⟩

theorem waiting_any {w : World} {B p gn gs n : Nat} {v : Value} {now safe : List UInt8} {ws : List Wt} (h : Dv w B p gn gs v n now safe ws) :
    Calls Try.prog 29 #[.pointer (some ⟨p, 0, none⟩)] w fun e w' => e = .returned (.int .i64 ws.length) ∧ w = w' := by
  obtain ⟨a, c, rfl⟩ := ownsRow_shape h.hv
  have c2 := h.cell2
  clear h
  go_enter Try.func29, Try.ntmps29
  go_wp2
  go_ret
  exact ⟨rfl, rfl⟩

theorem waiting_nil (w : World) : Calls Try.prog 29 #[.pointer none] w fun e w' => e = .returned (.int .i64 0) ∧ w = w' := by
  go_enter Try.func29, Try.ntmps29
  go_wp2
  go_ret
  exact ⟨rfl, rfl⟩

theorem has_yes {w : World} {B p gn gs n : Nat} {v : Value} {now safe : List UInt8} {ws : List Wt} (h : Dv w B p gn gs v n now safe ws) (i : Nat) (hi : i < n) :
    Calls Try.prog 73 #[.pointer (some ⟨p, 0, none⟩), .int .i64 i] w fun e w' => e = .returned (.bool true) ∧ w = w' := by
  have c0 := h.cell0
  clear h
  go_enter Try.func73, Try.ntmps73
  go_wp2
  go_ret
  exact ⟨rfl, rfl⟩

theorem has_no {w : World} {B p gn gs n : Nat} {v : Value} {now safe : List UInt8} {ws : List Wt} (h : Dv w B p gn gs v n now safe ws) (i : Int) (hi : i < 0 ∨ (n : Int) ≤ i) :
    Calls Try.prog 73 #[.pointer (some ⟨p, 0, none⟩), .int .i64 i] w fun e w' => e = .returned (.bool false) ∧ w = w' := by
  have c0 := h.cell0
  clear h
  by_cases h0 : i < 0
  · have x0 : ¬ (0 : Int) ≤ i := by omega
    go_enter Try.func73, Try.ntmps73
    go_wp2
    go_ret
    exact ⟨rfl, rfl⟩
  · have x0 : (0 : Int) ≤ i := by omega
    have x1 : ¬ i < (n : Int) := by omega
    clear hi h0
    go_enter Try.func73, Try.ntmps73
    go_wp2
    go_ret
    exact ⟨rfl, rfl⟩

end Go.Proofs.Ytfhdblbiamdplaa
