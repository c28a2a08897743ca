/-
  Te, Th, Soi in one text.
-/
import Derived.Test.YticiofkiffgclaaGreatNr2
import Derived.Test.YticiofkiffgclaaGreatNr28
import Derived.Deep.RegionHeld3
import Derived.Test.YticiofkiffgclaaGreatNr24
import Derived.Test.YticiofkiffgclaaGreatNr17
import Derived.Deep.Slices
import Derived.Deep.Fields
import Derived.Deep.Grids
import Derived.ChangeSame
import Derived.LoopTactic
import Derived.ProofKit
import Derived.OpenShut
import Derived.ChangeOld
import Derived.Below
import Derived.Deep.QuietTactic
import Derived.BigQuiet
import Derived.Test.YticiofkiffgclaaGreatNr23
import Derived.Test.YticiofkiffgclaaGreatShelfS
namespace Go.Proofs.YticiofkiffgclaaGreat
open Go.RowKit Go.Maps Go.Sort Go.Shelf

theorem sorts_any (m : Nat) : AnyZI.SortsIn Tryz.prog Tryz.sortedA_ren Fence.wide m :=
  ⟨fun blk off cap ss W hH hblk hsz => callsIn_wide.2 (AnyM.slices_Sort_int Tryz.sortA blk off cap ss W hH hblk hsz),
   fun p cap W => callsIn_wide.2 (AnyM.slices_Sort_int_none Tryz.sortA p cap W)⟩

theorem keys_any (mb : Option Nat) (W : World) : Calls Tryz.prog 85 #[.map mb] W fun e w' => e = .returned (.func (.func 143) #[] #[.pointer (some ⟨W.heap.size, 0, none⟩)]) ∧ w' = W.alloc (.cells #[.map mb] 117) :=
  (callsIn_wide (n := 5)).1 (AnyZI.keys_in Tryz.keysA Fence.wide 5 trivial rfl mb W)

theorem sorted_any {W : World} {b n c : Nat} {l : List Int} (h : Mp W b n l) (hc : W.cell? ⟨c, 0, none⟩ = some (.map (some b))) (hs : l.Pairwise (fun a b => a < b)) (hl : l.length ≤ 1048576) :
    Calls Tryz.prog 84 #[.func (.func 143) #[] #[.pointer (some ⟨c, 0, none⟩)]] W fun e w' => ∃ v, e = .returned v ∧ w'.ownsRow W.heap.size 2 1 v l.length (l.map encZ) ∧ Kept W w' [] := by
  have hcl : c < W.heap.size := World.block_lt_of_cell? W _ hc
  have hseq : SeqGives Fence.wide 2 Tryz.prog 143 #[.pointer (some ⟨c, 0, none⟩)] encZ (fun ss => ss.Perm (intKeys (Dm l))) (Maps.size (Dm l)) W :=
    AnyZI.keys_gives (ρ := Tryz.keysA_ren) { Tryz.keysA with } Fence.wide _ trivial rfl (by omega) c b n (Dm l) _ hcl hc h
  have hmax : Maps.size (Dm l) ≤ maxLen := by rw [size_Dm]; simp only [maxLen]; omega
  have hbytes : Maps.size (Dm l) * 8 ≤ 140737488355328 := by rw [size_Dm]; omega
  have cS := AnyZI.sorted_in Tryz.sortedA Fence.wide 5 trivial trivial trivial trivial rfl (by omega) (sorts_any _) (enters_of Tryz.func142 (by kernel_rfl) rfl) 143 #[.pointer (some ⟨c, 0, none⟩)] trivial (enters_of Tryz.func143 (by kernel_rfl) rfl) _ _ hmax hbytes _ hseq
  refine ((callsIn_wide (n := 5)).1 cS).mono ?_
  rintro e w' ⟨v, ss, rfl, hp, hrow, _, hb⟩
  rw [intKeys_Dm] at hp
  have hlen : ss.length = l.length := hp.length_eq
  rw [sort_sorted hp hs, hlen] at hrow
  exact ⟨v, rfl, hrow, Kept.ofBelow hb []⟩

theorem ownsRow_low {w : World} {base base' : Nat} {e : TypeId} {size n : Nat} {v : Value} {xs : List Value} (h : w.ownsRow base e size v n xs) (hb : base' ≤ base) : w.ownsRow base' e size v n xs := by
  refine ⟨h.1, ?_⟩
  rcases h.2 with h2 | ⟨g, cap, cur, rfl, hbg, r⟩
  · exact .inl h2
  · exact .inr ⟨g, cap, cur, rfl, by omega, r⟩

theorem res_cells {w : World} {g : Nat} {u v : Value} {t : TypeId} (h : w.heap[g]? = some (.cells #[u, v] t (0, 0))) : w.cell? ⟨g, 0, none⟩ = some u ∧ w.cell? ⟨g, 1, none⟩ = some v ∧ w.frozen? ⟨g, 0, none⟩ = false ∧ w.frozen? ⟨g, 1, none⟩ = false :=
  ⟨by rw [cell_of_row w g 0 _ _ _ h]; rfl, by rw [cell_of_row w g 1 _ _ _ h]; rfl, frozen_of_row _ _ _ _ _ h, frozen_of_row _ _ _ _ _ h⟩

theorem set_far {w : World} {g i p j : Nat} {u v : Value} (h : p ≠ g) (hc : w.cell? ⟨p, j, none⟩ = some v) : (w.setCell ⟨g, i, none⟩ u).cell? ⟨p, j, none⟩ = some v :=
  ((Kept.refl w [g]).setCell (p := ⟨g, i, none⟩) (.inl (by simp)) u).cell (p := ⟨p, j, none⟩) (by simpa using h) hc

set_option maxRecDepth 20000 in
theorem mnow_any {w : World} {B p b : Nat} {v : Value} {st : List Nat} (h : Mg w B p b v st) :
    Calls Tryz.prog 25 #[.pointer (some ⟨p, 0, none⟩)] w fun e w' => ∃ a c, e = .returned (.agg #[.int .i64 ((st.length : Int) + 1), .slice a (opens st).length c]) ∧ w'.ownsRow w.heap.size 2 1 (.slice a (opens st).length c) (opens st).length ((opens st).map encZ) ∧ Kept w w' [] := by
  obtain ⟨m, hm⟩ : ∃ m, (opens st).length = m := ⟨_, rfl⟩
  rw [hm]
  obtain ⟨W1, hW1⟩ : ∃ W1, W1 = w.alloc (.cells #[.int .i64 0, .slice none 0 0] 36) := ⟨_, rfl⟩
  have hz1 : W1.heap.size = w.heap.size + 1 := by rw [hW1]; simp
  have hk1 : Kept w W1 [] := by rw [hW1]; exact (Kept.refl w []).alloc _
  have K1 := Lib.hid hk1
  have hb1 : W1.heap[w.heap.size]? = some (.cells #[.int .i64 0, .slice none 0 0] 36 (0, 0)) := by rw [hW1]; exact heap_alloc_new w _
  have B1 := Lib.hid hb1
  have H1 := Lib.hid (h.keep hk1)
  obtain ⟨n, hn⟩ : ∃ n : Int, n = (st.length : Int) + 1 := ⟨_, rfl⟩
  rw [← hn]
  have HN : Hid (∀ V, Kept W1 V [] → Calls Tryz.prog 17 #[.pointer (some ⟨p, 0, none⟩)] V fun e w' => e = .returned (.int .i64 n) ∧ V = w') := Lib.hid (fun V hV => by
    refine (mnext_any (H1.out.keep hV)).mono ?_
    rintro e w' ⟨rfl, rfl⟩
    exact ⟨by rw [hn], rfl⟩)
  have HK : Hid (∀ V, Kept W1 V [] → Calls Tryz.prog 85 #[.map (some b)] V fun e w' => ∃ c, e = .returned (.func (.func 143) #[] #[.pointer (some ⟨c, 0, none⟩)]) ∧ w'.cell? ⟨c, 0, none⟩ = some (.map (some b)) ∧ Kept W1 w' []) := Lib.hid (fun V hV => by
    refine (keys_any _ V).mono ?_
    rintro e w' ⟨rfl, rfl⟩
    exact ⟨_, rfl, by rw [cell_of_row _ _ 0 _ _ _ (heap_alloc_new V _)]; rfl, hV.alloc _⟩)
  have HS : Hid (∀ V c, Kept W1 V [] → V.cell? ⟨c, 0, none⟩ = some (.map (some b)) → Calls Tryz.prog 84 #[.func (.func 143) #[] #[.pointer (some ⟨c, 0, none⟩)]] V fun e w' => ∃ a c, e = .returned (.slice a m c) ∧ w'.ownsRow w.heap.size 2 1 (.slice a m c) m ((opens st).map encZ) ∧ Kept W1 w' []) := Lib.hid (fun V c hV hc => by
    refine (sorted_any (H1.out.keep hV).hm hc (opens_sorted st) (by have := opens_le st; have := H1.out.hl; omega)).mono ?_
    rintro e w' ⟨u, rfl, ho, hk⟩
    obtain ⟨a, c, rfl⟩ := ownsRow_shape ho
    rw [hm] at ho ⊢
    exact ⟨a, c, rfl, ownsRow_low ho (by have := hV.size; omega), hV.trans hk (by simp)⟩)
  have k8 := (Kept.refl W1 []).drew
  have y2 : W1.drew.cell? ⟨p, 0, none⟩ = some (.map (some b)) := H1.out.cell.1
  have hpz : p ≠ w.heap.size := by have := heap_lt h.hp; omega
  clear h hb1 hk1 hn hm
  go_enter Tryz.func25, Tryz.ntmps25
  go_wp2_with fail
  rw [← hW1]
  clear hW1
  go_region_held3 (fun V => V.cell? ⟨p, 0, none⟩ = some (.map (some b))) (first | exact y2 | exact set_far hpz (set_far hpz y2))
    (first
      | (go_at_call 17; refine (HN.out _ ?_).mono ?_; assumption; rintro e w8 ⟨rfl, rfl⟩)
      | (go_at_call 85; refine (HK.out _ ?_).mono ?_; assumption; rintro e w8 ⟨c, rfl, c8, k8⟩; have y2 := (H1.out.keep k8).cell.1)
      | (go_at_call 84; refine (HS.out _ _ ?_ ?_).mono ?_; assumption; assumption; rintro e w9 ⟨a9, c9, rfl, ho, k8⟩; have y2 := (H1.out.keep k8).cell.1; obtain ⟨e0, e1, e2, e3⟩ := res_cells (k8.heap (by simp) B1.out)))
  have hb9 := k8.heap (by simp) B1.out
  have hb10 := heap_setCell_at hb9 0 (.int .i64 n)
  have hb11 := heap_setCell_at hb10 1 (.slice a9 m c9)
  have f9 : Fr w.heap.size [36] w9 ((w9.setCell ⟨w.heap.size, 0, none⟩ (.int .i64 n)).setCell ⟨w.heap.size, 1, none⟩ (.slice a9 m c9)) :=
    ((Fr.refl _ _ w9).setCell hb9 (.inr ⟨Nat.le_refl _, by simp⟩) 0 _).setCell hb10 (.inr ⟨Nat.le_refl _, by simp⟩) 1 _
  have o11 := ownsRow_fr ho f9 (by decide)
  have k11 : Kept w ((w9.setCell ⟨w.heap.size, 0, none⟩ (.int .i64 n)).setCell ⟨w.heap.size, 1, none⟩ (.slice a9 m c9)) [] :=
    ((K1.out.trans k8 (by simp)).setCell (p := ⟨w.heap.size, 0, none⟩) (.inr (Nat.le_refl _)) _).setCell (p := ⟨w.heap.size, 1, none⟩) (.inr (Nat.le_refl _)) _
  obtain ⟨w11, hw11⟩ : ∃ w11, w11 = (w9.setCell ⟨w.heap.size, 0, none⟩ (.int .i64 n)).setCell ⟨w.heap.size, 1, none⟩ (.slice a9 m c9) := ⟨_, rfl⟩
  rw [← hw11] at hb11 o11 k11 ⊢
  obtain ⟨d0, d1, _, _⟩ := res_cells (u := .int .i64 n) (v := .slice a9 m c9) (by simpa using hb11)
  clear hw11 f9 hb9 hb10
  go_wp2
  exact bodyPost_ret (v := .agg #[.int .i64 n, .slice a9 m c9]) (by simp [results, Tryz.results25, go_sem, d0, d1]) rfl ⟨a9, c9, rfl, o11, k11⟩

end Go.Proofs.YticiofkiffgclaaGreat

namespace Go.Proofs.YticiofkiffgclaaGreat
open Go.RowKit Go.Maps

def sb (st : List Nat) : List Value := st.map fun (s : Nat) => Value.int .u8 (s : Int)
end Go.Proofs.YticiofkiffgclaaGreat

namespace Go.Proofs.YticiofkiffgclaaGreat
open Go.Shelf Go.RowKit Go.Lib Go.Sort

instance : Inhabited Ev := ⟨Ev.zero⟩

def encE (e : Ev) : List Value := e.cs.toList
theorem encE_length (e : Ev) : (encE e).length = 8 := rfl
theorem encE_one (e : Ev) : ∀ v ∈ encE e, v.oneCell' = true := fun v hv => ecs_one [e] v (by simpa [ecs, encE] using hv)

theorem flat_ecs (l : List Ev) : (flatK encE 8 l.toArray).toList = ecs l := by
  apply List.ext_getElem?
  intro t
  by_cases h : t < l.length * 8
  · have hs : t < (flatK encE 8 l.toArray).size := by rw [size_flatK]; simpa using h
    have e : t = t / 8 * 8 + t % 8 := by omega
    have hi : t / 8 < l.length := by omega
    have hj : t % 8 < 8 := by omega
    have h1 := get_flatK encE 8 l.toArray t (by simpa using h)
    rw [getElem!_pos (flatK encE 8 l.toArray) t hs] at h1
    rw [Array.getElem?_toList, Array.getElem?_eq_getElem hs, h1, getElem!_pos l.toArray (t / 8) (by simpa using hi), getElem!_pos (encE _) (t % 8) (by rw [encE_length]; exact hj)]
    have h2 := ecs_get l (t / 8) (t % 8) hi hj
    rw [← e] at h2
    rw [h2, Array.getElem?_eq_getElem (by rw [Ev.cs_size]; exact hj)]
    simp [encE]
  · rw [List.getElem?_eq_none (by rw [Array.length_toList, size_flatK]; simpa using h), List.getElem?_eq_none (by rw [ecs_length]; omega)]

theorem own_row {w : World} {base g n c : Nat} {e : TypeId} {l : List Ev} (h : OwnE w base e (.slice (some ⟨g, 0, none⟩) n c) l) : RowK encE 8 w g 0 l.toArray := by
  refine ⟨encE_length, encE_one, ?_, (h.lt g rfl).2⟩
  intro j hj
  rw [size_flatK] at hj
  have hj' : j < (ecs l).length := by rw [ecs_length]; simpa using hj
  have e1 : (ecs l)[j]? = some ((flatK encE 8 l.toArray)[j]!) := by
    rw [← flat_ecs, Array.getElem?_toList, Array.getElem?_eq_getElem (by rw [size_flatK]; exact hj), getElem!_pos _ j (by rw [size_flatK]; exact hj)]
  have := World.ownsRow.cells h (g := g) rfl j _ e1
  rw [Addr.add_lit] at this
  refine ⟨this, ?_⟩
  rcases h.2 with ⟨h1, _⟩ | ⟨g', cap, cur, hv, hb, hg, _⟩
  · simp at h1
  · simp only [Value.slice.injEq, Option.some.injEq, Addr.mk.injEq] at hv
    obtain ⟨⟨rfl, _⟩, _, _⟩ := hv
    exact frozen_of_row _ _ _ _ _ hg

theorem heap_putRow {w : World} {g : Nat} {cur : Array Value} {t : TypeId} {fz : Nat × Nat} (h : w.heap[g]? = some (.cells cur t fz)) (F : Array Value) : (putRow id w g 0 F).heap[g]? = some (.cells (putCells id 0 F cur) t fz) := by
  unfold putRow mapBlock
  rw [Array.getElem?_modify, if_pos rfl, h]
  rfl

theorem heap_putRow_ne {w : World} {g k : Nat} (h : k ≠ g) (F : Array Value) : (putRow id w g 0 F).heap[k]? = w.heap[k]? := by
  unfold putRow mapBlock
  rw [Array.getElem?_modify, if_neg (fun e => h e.symm)]


theorem take_putCells (F cur : Array Value) (h : F.size ≤ cur.size) : (putCells id 0 F cur).toList.take F.size = F.toList := by
  apply List.ext_getElem?
  intro t
  rw [List.getElem?_take]
  by_cases ht : t < F.size
  · have hc : t < cur.size := by omega
    rw [if_pos ht, Array.getElem?_toList, Array.getElem?_toList, putCells, Array.getElem?_mapIdx, Array.getElem?_eq_getElem hc, Array.getElem?_eq_getElem ht]
    simp [ht]
  · rw [if_neg ht, List.getElem?_eq_none (by rw [Array.length_toList]; omega)]

theorem own_sorted {w w' : World} {base g n c : Nat} {e : TypeId} {l : List Ev} (h : OwnE w base e (.slice (some ⟨g, 0, none⟩) n c) l) {d' : Array Ev} (hs : d'.size = l.length) (S : SWK encE 8 w g 0 d' w') :
    OwnE w' base e (.slice (some ⟨g, 0, none⟩) n c) d'.toList ∧ Kept w w' [g] := by
  obtain ⟨m, os, rfl⟩ := S
  have hg0 := (h.lt g rfl).2
  have hF : (flatK encE 8 d').size = l.length * 8 := by rw [size_flatK, hs]
  have hFl : (flatK encE 8 d').toList = ecs d'.toList := by rw [← flat_ecs]
  unfold sortWorldK putRowK
  constructor
  · refine ⟨by rw [ecs_length, Array.length_toList], ?_⟩
    rcases h.2 with ⟨h1, _⟩ | ⟨g', cap, cur, hv, hb, hg, hnc, hcm, hcs, ht⟩
    · simp at h1
    · simp only [Value.slice.injEq, Option.some.injEq, Addr.mk.injEq] at hv
      obtain ⟨⟨rfl, _⟩, rfl, rfl⟩ := hv
      have hl : d'.toList.length = l.length := by rw [Array.length_toList, hs]
      refine .inr ⟨g, c, putCells id 0 (flatK encE 8 d') cur, by rw [hl], hb, ?_, by rw [hl]; exact hnc, hcm, by unfold putCells; simpa using hcs, ?_⟩
      · have h1 := heap_putRow (w := Sort.ahead w m) (g := g) hg (flatK encE 8 d')
        show (_ ++ os)[g]? = _
        rw [Array.getElem?_append_left (Array.getElem?_eq_some_iff.1 h1).1]
        exact h1
      · rw [hl, ← hF, take_putCells _ _ (by rw [hF, hcs]; exact Nat.mul_le_mul_right 8 hnc), hFl]
  · have sz : (putRow id (Sort.ahead w m) g 0 (flatK encE 8 d')).heap.size = w.heap.size := by unfold putRow mapBlock; rw [Array.size_modify]; rfl
    refine ⟨rfl, rfl, rfl, ?_, fun k hk hn => ?_⟩
    · show _ ≤ (_ ++ os).size
      rw [Array.size_append, sz]
      exact Nat.le_add_right _ _
    · show (_ ++ os)[k]? = _
      rw [Array.getElem?_append_left (by rw [sz]; exact hk)]
      exact heap_putRow_ne (by simpa using hn) _

def cmpE (x y : Ev) : Int := if x.id < y.id then -1 else if y.id < x.id then 1 else 0
def byId (a b : Ev) : Bool := decide (a.id ≤ b.id)
theorem tot_byId : Tot byId := tot_key (fun e : Ev => e.id)
theorem cmpE_lt (x y : Ev) : cmpE x y < 0 ↔ byId y x = false := by
  unfold cmpE byId
  rw [decide_eq_false_iff_not]
  split
  · rename_i h; simp; omega
  · split <;> simp <;> omega

theorem slE : SL Tryz.prog 8 where
  mixed := by kernel_rfl
  fs := Tryz.func145
  fm := Tryz.func186
  fr := Tryz.func212
  fw := Tryz.func225
  eI := enters_of Tryz.func185 (by kernel_rfl) rfl
  t0 := Tryz.underlying0
  a0 := Tryz.isAgg0
  z0 := Tryz.sizeOf0
  v0 := Tryz.zeroValue0
  t3 := Tryz.underlying3
  a3 := Tryz.isAgg3
  z3 := Tryz.sizeOf3
  v3 := Tryz.zeroValue3
  t4 := Tryz.underlying4
  a4 := Tryz.isAgg4
  z4 := Tryz.sizeOf4
  v4 := Tryz.zeroValue4
  t5 := Tryz.underlying217
  a5 := Tryz.isAgg217
  z5 := Tryz.sizeOf217
  v5 := Tryz.zeroValue217
  t6 := Tryz.underlying57
  a6 := Tryz.isAgg57
  z6 := Tryz.sizeOf57
  v6 := Tryz.zeroValue57
  t7 := Tryz.underlying135
  a7 := Tryz.isAgg135
  z7 := Tryz.sizeOf135
  v7 := Tryz.zeroValue135
  aE := Tryz.isAgg50
  zE := Tryz.sizeOf50

set_option maxHeartbeats 1000000 in
theorem isNaN_any (x : Int) (W : World) : Calls Tryz.prog 146 #[.int .i64 x] W fun e w' => e = .returned (.bool false) ∧ w' = W := by
  go_enter Tryz.func146, Tryz.ntmps146
  go_wp2
  go_ret
  simp

set_option maxHeartbeats 1000000 in
theorem compare_any_g6 (x y : Int) (W : World) : Calls Tryz.prog 89 #[.int .i64 x, .int .i64 y] W fun e w' => e = .returned (.int .i64 (if x < y then -1 else if y < x then 1 else 0)) ∧ w' = W := by
  by_cases h1 : x < y
  · rw [if_pos h1]
    go_enter Tryz.func89, Tryz.ntmps89
    go_wp2_with (go_at_call 146; refine (isNaN_any _ _).mono ?_; rintro e w' ⟨rfl, rfl⟩)
    go_ret
    exact ⟨rfl, rfl⟩
  · by_cases h2 : y < x
    · rw [if_neg h1, if_pos h2]
      go_enter Tryz.func89, Tryz.ntmps89
      go_wp2_with (go_at_call 146; refine (isNaN_any _ _).mono ?_; rintro e w' ⟨rfl, rfl⟩)
      go_ret
      exact ⟨rfl, rfl⟩
    · rw [if_neg h1, if_neg h2]
      go_enter Tryz.func89, Tryz.ntmps89
      go_wp2_with (go_at_call 146; refine (isNaN_any _ _).mono ?_; rintro e w' ⟨rfl, rfl⟩)
      go_ret
      exact ⟨rfl, rfl⟩

set_option maxHeartbeats 1000000 in
theorem closure_any_g6 (x y : Ev) (W : World) : Calls Tryz.prog 88 #[.agg x.cs, .agg y.cs] W fun e w' => e = .returned (.int .i64 (cmpE x y)) ∧ ∃ q os', w' = grow (W.drewN q) os' := by
  have hcon := fun W' => compare_any_g6 x.id y.id W'
  change ∀ W', Calls _ _ _ _ fun e w' => e = .returned (.int .i64 (cmpE x y)) ∧ w' = W' at hcon
  generalize cmpE x y = r at hcon ⊢
  unfold Ev.cs
  go_enter Tryz.func88, Tryz.ntmps88
  go_wp2_with (go_at_call 89; refine (hcon _).mono ?_; rintro e w' ⟨rfl, rfl⟩)
  go_ret
  exact ⟨rfl, 0, _, by rw [alloc_eq_grow, alloc_eq_grow, grow_grow]; rfl⟩

theorem cmpLays (g off size : Nat) (w : World) : CmpLays Tryz.prog 88 #[] encE 8 cmpE g off size w :=
  fun _ _ _ _ x y => closure_any_g6 x y _

theorem insE {w0 : World} {blk off : Nat} {d0 : Array Ev} (R : RowK encE 8 w0 blk off d0) (cap : Nat) : InsAt Tryz.prog encE 8 w0 blk off d0 byId 88 #[] cap := by
  intro A M B d w hd hs S hsz sz a b hz ha hb
  have hab : A.length + M.length ≤ d.size := by rw [← Array.length_toList, hd]; simp
  have h := AnyQ.insertionSortCmpFunc Tryz.insE 8 Tryz.isAgg50 Tryz.sizeOf50 encE encE_length encE_one cmpE 88 #[] blk off cap a b d w (enters_of Tryz.func88 (by kernel_rfl) rfl) (cmpLays _ _ _ _) (S.holds R.hblk R.hH hs) (S.lt R.hblk) (by omega) (by omega) hsz
  rw [hz]
  refine Calls.mono h ?_
  rintro e w' ⟨rfl, n, os, rfl⟩
  have e1 : ltOf cmpE = ltB byId := by
    funext x y
    have := cmpE_lt x y
    unfold ltOf ltB
    cases h : byId y x with
    | false => simp [this, h]
    | true => simp [this, h]
  rw [e1, ha, hb, ha]
  exact ⟨rfl, _, insertion_list tot_byId hd, S.on R.hblk n _ os (size_of_list (by rw [insertion_list tot_byId hd, hd]; simp [srt_length]))⟩

end Go.Proofs.YticiofkiffgclaaGreat
