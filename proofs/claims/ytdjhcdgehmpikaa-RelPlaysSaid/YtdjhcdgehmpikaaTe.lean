/-
  maps.Keys and slices.Sorted at a manager's map; Now.
-/
import Derived.Test.YtdjhcdgehmpikaaTd
import Derived.Deep.RegionHeld3
namespace Go.Proofs.Ytdjhcdgehmpikaa
open Go.RowKit Go.Maps Go.Sort Go.Shelf

/-- slices.Sort's two contracts at this program, at the fence that asks nothing. -/
theorem sorts_any (m : Nat) : AnyZI.SortsIn Try.prog Try.sortedA_ren Fence.wide m :=
  ⟨fun blk off cap ss W hH hblk hsz => callsIn_wide.2 (AnyM.slices_Sort_int Try.sortA blk off cap ss W hH hblk hsz),
   fun p cap W => callsIn_wide.2 (AnyM.slices_Sort_int_none Try.sortA p cap W)⟩

theorem keys_any (mb : Option Nat) (W : World) : Calls Try.prog 53 #[.map mb] W fun e w' => e = .returned (.func (.func 72) #[] #[.pointer (some ⟨W.heap.size, 0, none⟩)]) ∧ w' = W.alloc (.cells #[.map mb] 81) :=
  (callsIn_wide (n := 5)).1 (AnyZI.keys_in Try.keysA Fence.wide 5 trivial rfl mb W)

theorem sorted_any {W : World} {b n c : Nat} {l : List Int} (h : Mp W b n l) (hc : W.cell? ⟨c, 0, none⟩ = some (.map (some b))) (hs : l.Pairwise (fun a b => a < b)) (hl : l.length ≤ 1048576) :
    Calls Try.prog 52 #[.func (.func 72) #[] #[.pointer (some ⟨c, 0, none⟩)]] W fun e w' => ∃ v, e = .returned v ∧ w'.ownsRow W.heap.size 2 1 v l.length (l.map encZ) ∧ Kept W w' [] := by
  have hcl : c < W.heap.size := World.block_lt_of_cell? W _ hc
  have hseq : SeqGives Fence.wide 2 Try.prog 72 #[.pointer (some ⟨c, 0, none⟩)] encZ (fun ss => ss.Perm (intKeys (Dm l))) (Maps.size (Dm l)) W :=
    AnyZI.keys_gives (ρ := Try.keysA_ren) { Try.keysA with } Fence.wide _ trivial rfl (by omega) c b n (Dm l) _ hcl hc h
  have hmax : Maps.size (Dm l) ≤ maxLen := by rw [size_Dm]; simp only [maxLen]; omega
  have hbytes : Maps.size (Dm l) * 8 ≤ 140737488355328 := by rw [size_Dm]; omega
  have cS := AnyZI.sorted_in Try.sortedA Fence.wide 5 trivial trivial trivial trivial rfl (by omega) (sorts_any _) (enters_of Try.func71 (by kernel_rfl) rfl) 72 #[.pointer (some ⟨c, 0, none⟩)] trivial (enters_of Try.func72 (by kernel_rfl) rfl) _ _ hmax hbytes _ hseq
  refine ((callsIn_wide (n := 5)).1 cS).mono ?_
  rintro e w' ⟨v, ss, rfl, hp, hrow, _, hb⟩
  rw [intKeys_Dm] at hp
  have hlen : ss.length = l.length := hp.length_eq
  rw [sort_sorted hp hs, hlen] at hrow
  exact ⟨v, rfl, hrow, Kept.ofBelow hb []⟩

theorem ownsRow_low {w : World} {base base' : Nat} {e : TypeId} {size n : Nat} {v : Value} {xs : List Value} (h : w.ownsRow base e size v n xs) (hb : base' ≤ base) : w.ownsRow base' e size v n xs := by
  refine ⟨h.1, ?_⟩
  rcases h.2 with h2 | ⟨g, cap, cur, rfl, hbg, r⟩
  · exact .inl h2
  · exact .inr ⟨g, cap, cur, rfl, by omega, r⟩

theorem ownsRow_shape {w : World} {base : Nat} {e : TypeId} {size n : Nat} {v : Value} {xs : List Value} (h : w.ownsRow base e size v n xs) : ∃ a c, v = .slice a n c := by
  rcases h.2 with ⟨rfl, rfl⟩ | ⟨g, cap, cur, rfl, _⟩
  · exact ⟨none, 0, rfl⟩
  · exact ⟨_, _, rfl⟩

theorem res_cells {w : World} {g : Nat} {u v : Value} {t : TypeId} (h : w.heap[g]? = some (.cells #[u, v] t (0, 0))) : w.cell? ⟨g, 0, none⟩ = some u ∧ w.cell? ⟨g, 1, none⟩ = some v ∧ w.frozen? ⟨g, 0, none⟩ = false ∧ w.frozen? ⟨g, 1, none⟩ = false :=
  ⟨by rw [cell_of_row w g 0 _ _ _ h]; rfl, by rw [cell_of_row w g 1 _ _ _ h]; rfl, frozen_of_row _ _ _ _ _ h, frozen_of_row _ _ _ _ _ h⟩

theorem set_far {w : World} {g i p j : Nat} {u v : Value} (h : p ≠ g) (hc : w.cell? ⟨p, j, none⟩ = some v) : (w.setCell ⟨g, i, none⟩ u).cell? ⟨p, j, none⟩ = some v :=
  ((Kept.refl w [g]).setCell (p := ⟨g, i, none⟩) (.inl (by simp)) u).cell (p := ⟨p, j, none⟩) (by simpa using h) hc

theorem enc_len (l : List Int) : (l.map encZ).length = l.length := by simp

set_option maxRecDepth 20000 in
/-- Now: its slice is the call's own. -/
theorem mnow_any {w : World} {B p b : Nat} {v : Value} {st : List Nat} (h : Mg w B p b v st) :
    Calls Try.prog 28 #[.pointer (some ⟨p, 0, none⟩)] w fun e w' => ∃ a c, e = .returned (.agg #[.int .i64 ((st.length : Int) + 1), .slice a (opens st).length c]) ∧ w'.ownsRow w.heap.size 2 1 (.slice a (opens st).length c) (opens st).length ((opens st).map encZ) ∧ Kept w w' [] := by
  obtain ⟨m, hm⟩ : ∃ m, (opens st).length = m := ⟨_, rfl⟩
  rw [hm]
  obtain ⟨W1, hW1⟩ : ∃ W1, W1 = w.alloc (.cells #[.int .i64 0, .slice none 0 0] 47) := ⟨_, rfl⟩
  have hz1 : W1.heap.size = w.heap.size + 1 := by rw [hW1]; simp
  have hk1 : Kept w W1 [] := by rw [hW1]; exact (Kept.refl w []).alloc _
  have K1 := Lib.hid hk1
  have hb1 : W1.heap[w.heap.size]? = some (.cells #[.int .i64 0, .slice none 0 0] 47 (0, 0)) := by rw [hW1]; exact heap_alloc_new w _
  have B1 := Lib.hid hb1
  have H1 := Lib.hid (h.keep hk1)
  obtain ⟨n, hn⟩ : ∃ n : Int, n = (st.length : Int) + 1 := ⟨_, rfl⟩
  rw [← hn]
  have HN : Hid (∀ V, Kept W1 V [] → Calls Try.prog 33 #[.pointer (some ⟨p, 0, none⟩)] V fun e w' => e = .returned (.int .i64 n) ∧ V = w') := Lib.hid (fun V hV => by
    refine (mnext_any (H1.out.keep hV)).mono ?_
    rintro e w' ⟨rfl, rfl⟩
    exact ⟨by rw [hn], rfl⟩)
  have HK : Hid (∀ V, Kept W1 V [] → Calls Try.prog 53 #[.map (some b)] V fun e w' => ∃ c, e = .returned (.func (.func 72) #[] #[.pointer (some ⟨c, 0, none⟩)]) ∧ w'.cell? ⟨c, 0, none⟩ = some (.map (some b)) ∧ Kept W1 w' []) := Lib.hid (fun V hV => by
    refine (keys_any _ V).mono ?_
    rintro e w' ⟨rfl, rfl⟩
    exact ⟨_, rfl, by rw [cell_of_row _ _ 0 _ _ _ (heap_alloc_new V _)]; rfl, hV.alloc _⟩)
  have HS : Hid (∀ V c, Kept W1 V [] → V.cell? ⟨c, 0, none⟩ = some (.map (some b)) → Calls Try.prog 52 #[.func (.func 72) #[] #[.pointer (some ⟨c, 0, none⟩)]] V fun e w' => ∃ a c, e = .returned (.slice a m c) ∧ w'.ownsRow w.heap.size 2 1 (.slice a m c) m ((opens st).map encZ) ∧ Kept W1 w' []) := Lib.hid (fun V c hV hc => by
    refine (sorted_any (H1.out.keep hV).hm hc (opens_sorted st) (by have := opens_le st; have := H1.out.hl; omega)).mono ?_
    rintro e w' ⟨u, rfl, ho, hk⟩
    obtain ⟨a, c, rfl⟩ := ownsRow_shape ho
    rw [hm] at ho ⊢
    exact ⟨a, c, rfl, ownsRow_low ho (by have := hV.size; omega), hV.trans hk (by simp)⟩)
  have k8 := (Kept.refl W1 []).drew
  have y2 : W1.drew.cell? ⟨p, 0, none⟩ = some (.map (some b)) := H1.out.cell.1
  have hpz : p ≠ w.heap.size := by have := heap_lt h.hp; omega
  clear h hb1 hk1 hn hm
  go_enter Try.func28, Try.ntmps28
  go_wp2_with fail
  rw [← hW1]
  clear hW1
  go_region_held3 (fun V => V.cell? ⟨p, 0, none⟩ = some (.map (some b))) (first | exact y2 | exact set_far hpz (set_far hpz y2))
    (first
      | (go_at_call 33; refine (HN.out _ ?_).mono ?_; assumption; rintro e w8 ⟨rfl, rfl⟩)
      | (go_at_call 53; refine (HK.out _ ?_).mono ?_; assumption; rintro e w8 ⟨c, rfl, c8, k8⟩; have y2 := (H1.out.keep k8).cell.1)
      | (go_at_call 52; refine (HS.out _ _ ?_ ?_).mono ?_; assumption; assumption; rintro e w9 ⟨a9, c9, rfl, ho, k8⟩; have y2 := (H1.out.keep k8).cell.1; obtain ⟨e0, e1, e2, e3⟩ := res_cells (k8.heap (by simp) B1.out)))
  have hb9 := k8.heap (by simp) B1.out
  have hb10 := heap_setCell_at hb9 0 (.int .i64 n)
  have hb11 := heap_setCell_at hb10 1 (.slice a9 m c9)
  have f9 : Fr w.heap.size [47] w9 ((w9.setCell ⟨w.heap.size, 0, none⟩ (.int .i64 n)).setCell ⟨w.heap.size, 1, none⟩ (.slice a9 m c9)) :=
    ((Fr.refl _ _ w9).setCell hb9 (.inr ⟨Nat.le_refl _, by simp⟩) 0 _).setCell hb10 (.inr ⟨Nat.le_refl _, by simp⟩) 1 _
  have o11 := ownsRow_fr ho f9 (by decide)
  have k11 : Kept w ((w9.setCell ⟨w.heap.size, 0, none⟩ (.int .i64 n)).setCell ⟨w.heap.size, 1, none⟩ (.slice a9 m c9)) [] :=
    ((K1.out.trans k8 (by simp)).setCell (p := ⟨w.heap.size, 0, none⟩) (.inr (Nat.le_refl _)) _).setCell (p := ⟨w.heap.size, 1, none⟩) (.inr (Nat.le_refl _)) _
  obtain ⟨w11, hw11⟩ : ∃ w11, w11 = (w9.setCell ⟨w.heap.size, 0, none⟩ (.int .i64 n)).setCell ⟨w.heap.size, 1, none⟩ (.slice a9 m c9) := ⟨_, rfl⟩
  rw [← hw11] at hb11 o11 k11 ⊢
  obtain ⟨d0, d1, _, _⟩ := res_cells (u := .int .i64 n) (v := .slice a9 m c9) (by simpa using hb11)
  clear hw11 f9 hb9 hb10
  go_wp2
  exact bodyPost_ret (v := .agg #[.int .i64 n, .slice a9 m c9]) (by simp [results, Try.results28, go_sem, d0, d1]) rfl ⟨a9, c9, rfl, o11, k11⟩

end Go.Proofs.Ytdjhcdgehmpikaa
