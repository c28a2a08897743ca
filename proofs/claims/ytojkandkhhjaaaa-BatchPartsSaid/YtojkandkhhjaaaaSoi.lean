/-
  slices.SortStableFunc of events by their numbers, at a slice of the call's own.
-/
import Derived.Test.YtojkandkhhjaaaaSoh
import Derived.Test.YtojkandkhhjaaaaShelf
import Derived.Test.YtojkandkhhjaaaaEvl
namespace Go.Proofs.Ytojkandkhhjaaaa
open Go.Shelf Go.RowKit Go.Lib Go.Sort

instance : Inhabited Ev := ⟨Ev.zero⟩

/-- An event's cells, as a list. -/
def encE (e : Ev) : List Value := e.cs.toList
theorem encE_length (e : Ev) : (encE e).length = 8 := rfl
theorem encE_one (e : Ev) : ∀ v ∈ encE e, v.oneCell' = true := fun v hv => ecs_one [e] v (by simpa [ecs, encE] using hv)

theorem flat_ecs (l : List Ev) : (flatK encE 8 l.toArray).toList = ecs l := by
  apply List.ext_getElem?
  intro t
  by_cases h : t < l.length * 8
  · have hs : t < (flatK encE 8 l.toArray).size := by rw [size_flatK]; simpa using h
    have e : t = t / 8 * 8 + t % 8 := by omega
    have hi : t / 8 < l.length := by omega
    have hj : t % 8 < 8 := by omega
    have h1 := get_flatK encE 8 l.toArray t (by simpa using h)
    rw [getElem!_pos (flatK encE 8 l.toArray) t hs] at h1
    rw [Array.getElem?_toList, Array.getElem?_eq_getElem hs, h1, getElem!_pos l.toArray (t / 8) (by simpa using hi), getElem!_pos (encE _) (t % 8) (by rw [encE_length]; exact hj)]
    have h2 := ecs_get l (t / 8) (t % 8) hi hj
    rw [← e] at h2
    rw [h2, Array.getElem?_eq_getElem (by rw [Ev.cs_size]; exact hj)]
    simp [encE]
  · rw [List.getElem?_eq_none (by rw [Array.length_toList, size_flatK]; simpa using h), List.getElem?_eq_none (by rw [ecs_length]; omega)]

theorem own_row {w : World} {base g n c : Nat} {e : TypeId} {l : List Ev} (h : OwnE w base e (.slice (some ⟨g, 0, none⟩) n c) l) : RowK encE 8 w g 0 l.toArray := by
  refine ⟨encE_length, encE_one, ?_, (h.lt g rfl).2⟩
  intro j hj
  rw [size_flatK] at hj
  have hj' : j < (ecs l).length := by rw [ecs_length]; simpa using hj
  have e1 : (ecs l)[j]? = some ((flatK encE 8 l.toArray)[j]!) := by
    rw [← flat_ecs, Array.getElem?_toList, Array.getElem?_eq_getElem (by rw [size_flatK]; exact hj), getElem!_pos _ j (by rw [size_flatK]; exact hj)]
  have := World.ownsRow.cells h (g := g) rfl j _ e1
  rw [Addr.add_lit] at this
  refine ⟨this, ?_⟩
  rcases h.2 with ⟨h1, _⟩ | ⟨g', cap, cur, hv, hb, hg, _⟩
  · simp at h1
  · simp only [Value.slice.injEq, Option.some.injEq, Addr.mk.injEq] at hv
    obtain ⟨⟨rfl, _⟩, _, _⟩ := hv
    exact frozen_of_row _ _ _ _ _ hg

theorem heap_putRow {w : World} {g : Nat} {cur : Array Value} {t : TypeId} {fz : Nat × Nat} (h : w.heap[g]? = some (.cells cur t fz)) (F : Array Value) : (putRow id w g 0 F).heap[g]? = some (.cells (putCells id 0 F cur) t fz) := by
  unfold putRow mapBlock
  rw [Array.getElem?_modify, if_pos rfl, h]
  rfl

theorem heap_putRow_ne {w : World} {g k : Nat} (h : k ≠ g) (F : Array Value) : (putRow id w g 0 F).heap[k]? = w.heap[k]? := by
  unfold putRow mapBlock
  rw [Array.getElem?_modify, if_neg (fun e => h e.symm)]
  

theorem take_putCells (F cur : Array Value) (h : F.size ≤ cur.size) : (putCells id 0 F cur).toList.take F.size = F.toList := by
  apply List.ext_getElem?
  intro t
  rw [List.getElem?_take]
  by_cases ht : t < F.size
  · have hc : t < cur.size := by omega
    rw [if_pos ht, Array.getElem?_toList, Array.getElem?_toList, putCells, Array.getElem?_mapIdx, Array.getElem?_eq_getElem hc, Array.getElem?_eq_getElem ht]
    simp [ht]
  · rw [if_neg ht, List.getElem?_eq_none (by rw [Array.length_toList]; omega)]

theorem own_sorted {w w' : World} {base g n c : Nat} {e : TypeId} {l : List Ev} (h : OwnE w base e (.slice (some ⟨g, 0, none⟩) n c) l) {d' : Array Ev} (hs : d'.size = l.length) (S : SWK encE 8 w g 0 d' w') :
    OwnE w' base e (.slice (some ⟨g, 0, none⟩) n c) d'.toList ∧ Kept w w' [g] := by
  obtain ⟨m, os, rfl⟩ := S
  have hg0 := (h.lt g rfl).2
  have hF : (flatK encE 8 d').size = l.length * 8 := by rw [size_flatK, hs]
  have hFl : (flatK encE 8 d').toList = ecs d'.toList := by rw [← flat_ecs]
  unfold sortWorldK putRowK
  constructor
  · refine ⟨by rw [ecs_length, Array.length_toList], ?_⟩
    rcases h.2 with ⟨h1, _⟩ | ⟨g', cap, cur, hv, hb, hg, hnc, hcm, hcs, ht⟩
    · simp at h1
    · simp only [Value.slice.injEq, Option.some.injEq, Addr.mk.injEq] at hv
      obtain ⟨⟨rfl, _⟩, rfl, rfl⟩ := hv
      have hl : d'.toList.length = l.length := by rw [Array.length_toList, hs]
      refine .inr ⟨g, c, putCells id 0 (flatK encE 8 d') cur, by rw [hl], hb, ?_, by rw [hl]; exact hnc, hcm, by unfold putCells; simpa using hcs, ?_⟩
      · have h1 := heap_putRow (w := Sort.ahead w m) (g := g) hg (flatK encE 8 d')
        show (_ ++ os)[g]? = _
        rw [Array.getElem?_append_left (Array.getElem?_eq_some_iff.1 h1).1]
        exact h1
      · rw [hl, ← hF, take_putCells _ _ (by rw [hF, hcs]; exact Nat.mul_le_mul_right 8 hnc), hFl]
  · have sz : (putRow id (Sort.ahead w m) g 0 (flatK encE 8 d')).heap.size = w.heap.size := by unfold putRow mapBlock; rw [Array.size_modify]; rfl
    refine ⟨rfl, rfl, rfl, ?_, fun k hk hn => ?_⟩
    · show _ ≤ (_ ++ os).size
      rw [Array.size_append, sz]
      exact Nat.le_add_right _ _
    · show (_ ++ os)[k]? = _
      rw [Array.getElem?_append_left (by rw [sz]; exact hk)]
      exact heap_putRow_ne (by simpa using hn) _

/-- cmp.Compare's answer. -/
def cmpE (x y : Ev) : Int := if x.id < y.id then -1 else if y.id < x.id then 1 else 0
/-- By the numbers. -/
def byId (a b : Ev) : Bool := decide (a.id ≤ b.id)
theorem tot_byId : Tot byId := tot_key (fun e : Ev => e.id)
theorem cmpE_lt (x y : Ev) : cmpE x y < 0 ↔ byId y x = false := by
  unfold cmpE byId
  rw [decide_eq_false_iff_not]
  split
  · rename_i h; simp; omega
  · split <;> simp <;> omega

theorem slE : SL Try.prog 8 where
  mixed := by kernel_rfl
  fs := Try.func46
  fm := Try.func52
  fr := Try.func54
  fw := Try.func55
  eI := enters_of Try.func51 (by kernel_rfl) rfl
  t0 := Try.underlying0
  a0 := Try.isAgg0
  z0 := Try.sizeOf0
  v0 := Try.zeroValue0
  t3 := Try.underlying3
  a3 := Try.isAgg3
  z3 := Try.sizeOf3
  v3 := Try.zeroValue3
  t4 := Try.underlying4
  a4 := Try.isAgg4
  z4 := Try.sizeOf4
  v4 := Try.zeroValue4
  t5 := Try.underlying88
  a5 := Try.isAgg88
  z5 := Try.sizeOf88
  v5 := Try.zeroValue88
  t6 := Try.underlying33
  a6 := Try.isAgg33
  z6 := Try.sizeOf33
  v6 := Try.zeroValue33
  t7 := Try.underlying68
  a7 := Try.isAgg68
  z7 := Try.sizeOf68
  v7 := Try.zeroValue68
  aE := Try.isAgg42
  zE := Try.sizeOf42

set_option maxHeartbeats 1000000 in
theorem isNaN_any (x : Int) (W : World) : Calls Try.prog 47 #[.int .i64 x] W fun e w' => e = .returned (.bool false) ∧ w' = W := by
  go_enter Try.func47, Try.ntmps47
  go_wp2
  go_ret
  simp

set_option maxHeartbeats 1000000 in
theorem compare_any (x y : Int) (W : World) : Calls Try.prog 32 #[.int .i64 x, .int .i64 y] W fun e w' => e = .returned (.int .i64 (if x < y then -1 else if y < x then 1 else 0)) ∧ w' = W := by
  by_cases h1 : x < y
  · rw [if_pos h1]
    go_enter Try.func32, Try.ntmps32
    go_wp2_with (go_at_call 47; refine (isNaN_any _ _).mono ?_; rintro e w' ⟨rfl, rfl⟩)
    go_ret
    exact ⟨rfl, rfl⟩
  · by_cases h2 : y < x
    · rw [if_neg h1, if_pos h2]
      go_enter Try.func32, Try.ntmps32
      go_wp2_with (go_at_call 47; refine (isNaN_any _ _).mono ?_; rintro e w' ⟨rfl, rfl⟩)
      go_ret
      exact ⟨rfl, rfl⟩
    · rw [if_neg h1, if_neg h2]
      go_enter Try.func32, Try.ntmps32
      go_wp2_with (go_at_call 47; refine (isNaN_any _ _).mono ?_; rintro e w' ⟨rfl, rfl⟩)
      go_ret
      exact ⟨rfl, rfl⟩

set_option maxHeartbeats 1000000 in
theorem closure_any (x y : Ev) (W : World) : Calls Try.prog 31 #[.agg x.cs, .agg y.cs] W fun e w' => e = .returned (.int .i64 (cmpE x y)) ∧ ∃ q os', w' = grow (W.drewN q) os' := by
  have hcon := fun W' => compare_any x.id y.id W'
  change ∀ W', Calls _ _ _ _ fun e w' => e = .returned (.int .i64 (cmpE x y)) ∧ w' = W' at hcon
  generalize cmpE x y = r at hcon ⊢
  unfold Ev.cs
  go_enter Try.func31, Try.ntmps31
  go_wp2_with (go_at_call 32; refine (hcon _).mono ?_; rintro e w' ⟨rfl, rfl⟩)
  go_ret
  exact ⟨rfl, 0, _, by rw [alloc_eq_grow, alloc_eq_grow, grow_grow]; rfl⟩

theorem cmpLays (g off size : Nat) (w : World) : CmpLays Try.prog 31 #[] encE 8 cmpE g off size w :=
  fun _ _ _ _ x y => closure_any x y _

theorem insE {w0 : World} {blk off : Nat} {d0 : Array Ev} (R : RowK encE 8 w0 blk off d0) (cap : Nat) : InsAt Try.prog encE 8 w0 blk off d0 byId 31 #[] cap := by
  intro A M B d w hd hs S hsz sz a b hz ha hb
  have hab : A.length + M.length ≤ d.size := by rw [← Array.length_toList, hd]; simp
  have h := AnyQ.insertionSortCmpFunc Try.insE 8 Try.isAgg42 Try.sizeOf42 encE encE_length encE_one cmpE 31 #[] blk off cap a b d w (enters_of Try.func31 (by kernel_rfl) rfl) (cmpLays _ _ _ _) (S.holds R.hblk R.hH hs) (S.lt R.hblk) (by omega) (by omega) hsz
  rw [hz]
  refine Calls.mono h ?_
  rintro e w' ⟨rfl, n, os, rfl⟩
  have e1 : ltOf cmpE = ltB byId := by
    funext x y
    have := cmpE_lt x y
    unfold ltOf ltB
    cases h : byId y x with
    | false => simp [this, h]
    | true => simp [this, h]
  rw [e1, ha, hb, ha]
  exact ⟨rfl, _, insertion_list tot_byId hd, S.on R.hblk n _ os (size_of_list (by rw [insertion_list tot_byId hd, hd]; simp [srt_length]))⟩

end Go.Proofs.Ytojkandkhhjaaaa
