/-
  The contracts of carrierref02.ReadNum (whatever is read), End, and ReadInt.
-/
import Derived.Test.YtkpjbmcgfdophaaRefRead
namespace Go.Proofs.Ytkpjbmcgfdophaa
open Go.RowKit

set_option maxHeartbeats 1000000 in
set_option maxRecDepth 100000 in
theorem refread_any (v : Value) (e : Int) (l : List UInt8) (w : World) (h : Rd w v l) (hl : l.length ≤ 1099511627796) :
    Calls Try.prog 43 #[.agg #[v, .int .i64 e]] w fun en w' => ∃ v', en = .returned (.tuple #[.int .u64 (rNum e l).1, .agg #[v', .int .i64 (rNum e l).2.2]]) ∧ Rd w' v' (rNum e l).2.1 ∧ Kept w w' [] ∧ (∀ x, v'.ownBlock = some x → v.ownBlock = some x) := by
  obtain ⟨a, c, rfl, hc, ha, hcell⟩ := id h
  by_cases he : e = 0
  · subst he
    by_cases hne : l = []
    · subst hne
      have hr : rNum 0 [] = (0, [], 3) := by decide
      have Hr := Lib.hid hr
      clear hr hcell ha h
      go_enter Try.func43, Try.ntmps43
      go_wp2
      go_loop [6] (fun i => i = .int .i64 0) (fun _ => 0)
      case atStart => rfl
      case round =>
        subst hrel
        go_wp2
        refine bodyPost_ret (v := .tuple #[.int .u64 0, .agg #[.slice none 0 0, .int .i64 3]]) (by simp [results, Try.results43, go_sem]) rfl ?_
        rw [Hr.out]
        exact ⟨_, rfl, Rd.nil _, ((Kept.refl w []).alloc _).alloc _, by simp [Value.ownBlock]⟩
    · obtain ⟨b, o, rfl, hcell2⟩ := hcell hne
      refine (refread_some b o c l w hc (List.length_pos_iff.2 hne) hcell2 hl).mono ?_
      rintro en w' ⟨v', rfl, h1, h2, h3⟩
      exact ⟨v', rfl, h1, h2, fun x hx => by rw [h3 x hx]; rfl⟩
  · have hr : rNum e l = (0, l, e) := by rw [rNum, if_neg he]
    have hx0 : (e != 0) = true := by simpa using he
    have Hr := Lib.hid hr
    have H := Lib.hid h
    clear hr hcell ha h he
    go_enter Try.func43, Try.ntmps43
    go_wp2
    go_region
    go_wp2
    refine bodyPost_ret (v := .tuple #[.int .u64 0, .agg #[.slice a l.length c, .int .i64 e]]) (by simp [results, Try.results43, go_sem]) rfl ?_
    rw [Hr.out]
    have hk := (((Kept.refl w []).alloc (.cells #[.slice a l.length c, .int .i64 e] 64)).alloc (.cells #[.slice a l.length c, .int .i64 e] 64)).drew
    exact ⟨_, rfl, H.out.kept hk (by simp), hk, fun x hx => hx⟩

set_option maxHeartbeats 400000 in
set_option maxRecDepth 100000 in
theorem refend_any (v : Value) (e : Int) (l : List UInt8) (w : World) (h : Rd w v l) :
    Calls Try.prog 37 #[.agg #[v, .int .i64 e]] w fun en w' => en = .returned (.int .i64 (rEnd e l)) ∧ Kept w w' [] := by
  obtain ⟨a, c, rfl, hc, ha, hcell⟩ := h
  clear ha hcell
  by_cases he : e = 0
  · subst he
    by_cases hne : l = []
    · subst hne
      go_enter Try.func37, Try.ntmps37
      go_wp2
      go_ret
      exact ⟨rfl, (Kept.refl w []).alloc _⟩
    · have hp : (0 : Int) < (l.length : Int) := by have := List.length_pos_iff.2 hne; omega
      have hx : rEnd 0 l = 2 := by rw [rEnd, if_pos rfl, if_neg hne]
      have Hx := Lib.hid hx
      clear hx
      go_enter Try.func37, Try.ntmps37
      go_wp2
      go_ret
      exact ⟨ret_i64 Hx.out.symm, (Kept.refl w []).alloc _⟩
  · have hx0 : (e == 0) = false := by simpa using he
    have hx : rEnd e l = e := by rw [rEnd, if_neg he]
    have Hx := Lib.hid hx
    clear hx he
    go_enter Try.func37, Try.ntmps37
    go_wp2
    go_ret
    exact ⟨ret_i64 Hx.out.symm, (Kept.refl w []).alloc _⟩

theorem Rd.kept2 {w w' : World} {v : Value} {l : List UInt8} {bs : List Nat} (h : Rd w v l) (hk : Kept w w' bs) (hb : l ≠ [] → ∀ b, v.ownBlock = some b → b ∉ bs) : Rd w' v l := by
  obtain ⟨a, c, rfl, hc, ha, hl⟩ := h
  refine ⟨a, c, rfl, hc, ha, fun hne => ?_⟩
  obtain ⟨b, o, rfl, hcell⟩ := hl hne
  exact ⟨b, o, rfl, fun i hi => hk.cell (p := ⟨b, o + i, none⟩) (hb hne b rfl) (hcell i hi)⟩

theorem Rd.block_lt {w : World} {v : Value} {l : List UInt8} (h : Rd w v l) (hne : l ≠ []) : ∀ b, v.ownBlock = some b → b < w.heap.size := by
  obtain ⟨a, c, rfl, hc, ha, hl⟩ := h
  obtain ⟨b, o, rfl, hcell⟩ := hl hne
  intro x hx
  simp [Value.ownBlock] at hx
  subst hx
  exact World.block_lt_of_cell? w _ (hcell 0 (List.length_pos_iff.2 hne))

/-- A slice that lies where another one lay is none of a block that came later. -/
theorem Rd.not_new {w : World} {v v' : Value} {l l' : List UInt8} (h : Rd w v l) (hlen : l'.length ≤ l.length) (hb : ∀ x, v'.ownBlock = some x → v.ownBlock = some x) {k : Nat} (hk : w.heap.size ≤ k) : l' ≠ [] → ∀ b, v'.ownBlock = some b → b ∉ [k] := by
  intro hne b hb'
  have := h.block_lt (by rintro rfl; exact hne (List.eq_nil_of_length_eq_zero (by simpa using hlen))) b (hb b hb')
  simp
  omega

theorem two_cells {w : World} {p : Nat} {x y : Value} {T : TypeId} (h : w.heap[p]? = some (.cells #[x, y] T (0, 0))) (u v : Value) (o : Obj) :
    (((w.setCell ⟨p, 0, none⟩ u).setCell ⟨p, 1, none⟩ v).alloc o).cell? ⟨p, 0, none⟩ = some u ∧ (((w.setCell ⟨p, 0, none⟩ u).setCell ⟨p, 1, none⟩ v).alloc o).cell? ⟨p, 1, none⟩ = some v := by
  have h1 := heap_setCell_at h 0 u
  have h2 := heap_setCell_at h1 1 v
  have hlt : p < ((w.setCell ⟨p, 0, none⟩ u).setCell ⟨p, 1, none⟩ v).heap.size := (Array.getElem?_eq_some_iff.1 h2).1
  rw [World.cell?_alloc_past _ _ _ hlt, World.cell?_alloc_past _ _ _ hlt, cell_of_row _ _ _ _ _ _ h2, cell_of_row _ _ _ _ _ _ h2]
  exact ⟨rfl, rfl⟩

/-- A number back from its zigzag. -/
def unzig (n : Nat) : Int := if n % 2 = 1 then -((n / 2 : Nat) : Int) - 1 else ((n / 2 : Nat) : Int)

set_option maxHeartbeats 1000000 in
set_option maxRecDepth 100000 in
theorem refreadint_any (v : Value) (e : Int) (l : List UInt8) (w : World) (h : Rd w v l) (hl : l.length ≤ 1099511627796) :
    Calls Try.prog 36 #[.agg #[v, .int .i64 e]] w fun en w' => ∃ v', en = .returned (.tuple #[.int .i64 (unzig (rNum e l).1), .agg #[v', .int .i64 (rNum e l).2.2]]) ∧ Rd w' v' (rNum e l).2.1 ∧ Kept w w' [] ∧ (∀ x, v'.ownBlock = some x → v.ownBlock = some x) := by
  have H := Lib.hid h
  obtain ⟨a, len, c, hv⟩ := h.shape3
  clear h
  subst hv
  have hn2 := rNum_lt e l
  obtain ⟨n, hn⟩ : ∃ n, n = (rNum e l).1 := ⟨_, rfl⟩
  rw [← hn] at hn2
  have Hn := Lib.hid hn; clear hn
  go_enter Try.func36, Try.ntmps36
  go_wp2_with fail
  refine (refread_any _ e l _ (H.out.kept (((Kept.refl w []).alloc _).alloc _) (by simp)) hl).mono ?_
  rintro en w1 ⟨v1, rfl, hr1, hk1, hb1⟩
  have hB : w1.heap[w.heap.size + 1]? = some (.cells #[.slice none 0 0, .int .i64 0] 64 (0, 0)) := hk1.heap (by simp) (by
    have := heap_alloc_new (w.alloc (.cells #[.slice a len c, .int .i64 e] 64)) (.cells #[.slice none 0 0, .int .i64 0] 64)
    simpa using this)
  have hlt : w.heap.size + 1 < w1.heap.size := (Array.getElem?_eq_some_iff.1 hB).1
  have k0 : w1.cell? ⟨w.heap.size + 1, 0, none⟩ = some (.slice none 0 0) := by simpa using cell_of_row w1 (w.heap.size + 1) 0 _ _ _ hB
  have k1 : w1.cell? ⟨w.heap.size + 1, 1, none⟩ = some (.int .i64 0) := by simpa using cell_of_row w1 (w.heap.size + 1) 1 _ _ _ hB
  have f0 := frozen_of_row w1 (w.heap.size + 1) 0 _ _ hB
  have f1 := frozen_of_row w1 (w.heap.size + 1) 1 _ _ hB
  obtain ⟨a1, n1, c1, hv1⟩ := hr1.shape3
  obtain ⟨e1, he1⟩ : ∃ e1, e1 = (rNum e l).2.2 := ⟨_, rfl⟩
  have Hr1 := Lib.hid hr1; have Hk1 := Lib.hid (((((Kept.refl w []).alloc _).alloc _)).trans hk1 (by simp)); have Hb1 := Lib.hid hb1
  rw [← Hn.out, ← he1]
  have He := Lib.hid he1
  clear hr1 hk1 hb1 he1
  subst hv1
  obtain ⟨q0, q1⟩ := two_cells hB (.slice a1 n1 c1) (.int .i64 e1) (.cells #[.slice a1 n1 c1, .int .i64 e1] 64)
  clear hB
  by_cases ho : n % 2 = 1
  · have x1 : ((n : Int) % 2 == 1) = true := by simp; omega
    have Hu : RowKit.Hid (unzig n = -((n / 2 : Nat) : Int) - 1) := Lib.hid (by rw [unzig, if_pos ho])
    clear ho
    go_wp2
    go_region
    go_wp2
    refine bodyPost_ret (v := .tuple #[.int .i64 (-(n / 2 : Int) - 1), .agg #[.slice a1 n1 c1, .int .i64 e1]]) (by simp [results, Try.results36, go_sem, q0, q1]) rfl ?_
    have hk3 : ∀ o : Obj, Kept w1 (((w1.setCell ⟨w.heap.size + 1, 0, none⟩ (.slice a1 n1 c1)).setCell ⟨w.heap.size + 1, 1, none⟩ (.int .i64 e1)).alloc o).drew [w.heap.size + 1] := fun o =>
      ((((Kept.refl w1 _).setCell (.inl (by simp)) _).setCell (.inl (by simp)) _).alloc o).drew
    rw [← Hn.out, ← He.out, Hu.out]
    exact ⟨_, rfl, Hr1.out.kept2 (hk3 _) (H.out.not_new (rNum_len e l) Hb1.out (by omega)), Hk1.out.trans (hk3 _) (by simp), Hb1.out⟩
  · have x1 : ((n : Int) % 2 == 1) = false := by simp; omega
    have Hu : RowKit.Hid (unzig n = ((n / 2 : Nat) : Int)) := Lib.hid (by rw [unzig, if_neg ho])
    clear ho
    go_wp2
    go_region
    go_wp2
    refine bodyPost_ret (v := .tuple #[.int .i64 ((n / 2 : Int)), .agg #[.slice a1 n1 c1, .int .i64 e1]]) (by simp [results, Try.results36, go_sem, q0, q1]) rfl ?_
    have hk3 : ∀ o : Obj, Kept w1 (((w1.setCell ⟨w.heap.size + 1, 0, none⟩ (.slice a1 n1 c1)).setCell ⟨w.heap.size + 1, 1, none⟩ (.int .i64 e1)).alloc o).drew [w.heap.size + 1] := fun o =>
      ((((Kept.refl w1 _).setCell (.inl (by simp)) _).setCell (.inl (by simp)) _).alloc o).drew
    rw [← Hn.out, ← He.out, Hu.out]
    exact ⟨_, rfl, Hr1.out.kept2 (hk3 _) (H.out.not_new (rNum_len e l) Hb1.out (by omega)), Hk1.out.trans (hk3 _) (by simp), Hb1.out⟩

end Go.Proofs.Ytkpjbmcgfdophaa
