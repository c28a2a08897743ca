/-
  Pl, Qm, Qn, Qo, Qp in one text.
-/
import Derived.Test.YtdjhcdgehmpikaaMa
import Derived.Test.YtdjhcdgehmpikaaQi
import Derived.Test.YtdjhcdgehmpikaaMq
namespace Go.Proofs.Ytdjhcdgehmpikaa
set_option linter.unusedVariables false
open Go.RowKit Go.Maps

variable {w w' : World} {B q zb h : Nat} {v zv lv : Value} {st : List Nat} {l : Fl} {L : List Rq} {i : Nat} {t : Rq} {T : List Fl} {TT : List Tab}

/-- The document's table and the code's. -/
structure R1 (l : Fl) (t : Tab) : Prop where
  rl : Rl l t.F
  st : t.ks.Pairwise (· < ·)
  ks : ∀ k, k ∉ t.ks → t.F k = []

theorem R1.mem {t : Tab} (r : R1 l t) : ∀ x ∈ l, x.1 ∈ t.ks := by
  rintro ⟨k, y⟩ hx
  by_cases hk : k ∈ t.ks
  · exact hk
  · exfalso
    have h1 : y ∈ pick k l := mem_pick.2 hx
    rw [← r.rl k, r.ks k hk] at h1
    cases h1

def RelT (T : List Fl) (TT : List Tab) : Prop := T.length = TT.length ∧ ∀ (i : Nat) l t, T[i]? = some l → TT[i]? = some t → R1 l t
def FewL (N : Nat) (T : List Fl) : Prop := ∀ l ∈ T, l.length ≤ N

theorem FewL.set {N : Nat} (h : FewL N T) {i : Nat} {l' : Fl} (hl : l'.length ≤ N + 1) : FewL (N + 1) (T.set i l') := by
  intro x hx
  rcases List.mem_or_eq_of_mem_set hx with h1 | rfl
  · have := h x h1; omega
  · exact hl

theorem RelT.rlset (h : RelT T TT) {i : Nat} {l' : Fl} {t' : Tab} (hr : R1 l' t') : RelT (T.set i l') (TT.set i t') := by
  refine ⟨by simp [h.1], fun j l t h1 h2 => ?_⟩
  by_cases e : i = j
  · subst e
    have hl := (List.getElem?_eq_some_iff.1 h1).1
    have hm := (List.getElem?_eq_some_iff.1 h2).1
    simp only [List.length_set] at hl hm
    rw [List.getElem?_set_self hl] at h1
    rw [List.getElem?_set_self hm] at h2
    simp only [Option.some.injEq] at h1 h2
    subst h1; subst h2; exact hr
  · rw [List.getElem?_set_ne e] at h1 h2
    exact h.2 j l t h1 h2

theorem Zc.shape (c : Zc w B zb zv L) : ∃ a cap, zv = .slice a L.length cap ∧ L.length ≤ 9223372036854775807 ∧ (0 < L.length → ∃ g, a = some ⟨g, 0, none⟩ ∧ L.length ≤ cap ∧ ∀ (i : Nat) (t : Rq), L[i]? = some t → w.cell? ⟨g, i, none⟩ = some (.pointer (some ⟨t.h, 0, none⟩))) := by
  obtain ⟨a, cap, rfl⟩ := ownsRow_shape c.hv
  refine ⟨a, cap, rfl, ?_, fun h0 => ?_⟩
  · rcases c.hv.2 with ⟨_, h0⟩ | ⟨g', cap', cur, h2, _, hh, hn, hm, _⟩
    · omega
    · unfold maxLen at hm; omega
  · obtain ⟨g, rfl, _, hn, _, hc⟩ := row_head c.hv h0
    exact ⟨g, rfl, hn, fun i t ht => hc i _ (by rw [rps, List.getElem?_map, ht]; rfl)⟩

/-- What a statement leaves. -/
def RPost (w : World) (B q zb : Nat) (st : List Nat) (E : Int) (R : List (Int × ByteArray)) (T : List Fl) (e : Ending) (w' : World) : Prop :=
  ∃ v', e = .returned (.tuple #[v', .int .i64 E]) ∧ w'.ownsRow w.heap.size 55 2 v' R.length (rcl R) ∧ Rst w' B q zb st T ∧ Fy B tysR w w'

set_option maxHeartbeats 1000000 in
set_option maxRecDepth 100000 in
theorem rrun_k0 (a : Rsx w B q zb v zv st L) (mx own : Int) (u : Option Addr) (n m : Nat) (opl : List Int) (hv : Vo w (.slice u n m) opl) (tb : Int) (key : Int) (txt : ByteArray) :
    Calls Try.prog 22 #[.pointer (some ⟨zb, 0, none⟩), .agg #[.int .i64 mx, .slice u n m, .int .i64 own], .agg #[.int .u8 0, .int .i64 tb, .int .i64 key, .string txt]] w fun e w' => RPost w B q zb st 1 [] (L.map Rq.l) e w' := by
  obtain ⟨W2, hW2⟩ : ∃ W2, W2 = (w.alloc (.cells #[.int .i64 mx, .slice u n m, .int .i64 own] 50)).alloc (.cells #[.int .u8 0, .int .i64 tb, .int .i64 key, .string txt] 57) := ⟨_, rfl⟩
  have k2 : Kept w W2 [] := by rw [hW2]; exact ((Kept.refl w []).alloc _).alloc _
  obtain ⟨z, hz⟩ : ∃ z, z = w.heap.size := ⟨_, rfl⟩
  have hy1 : (w.alloc (.cells #[.int .i64 mx, .slice u n m, .int .i64 own] 50)).heap.size = z + 1 := by rw [hz]; simp
  obtain ⟨y, hy⟩ : ∃ y, y = z + 1 := ⟨_, rfl⟩
  have g1 : W2.heap[z]? = some (.cells #[.int .i64 mx, .slice u n m, .int .i64 own] 50 (0, 0)) := by rw [hW2, hz]; exact ((Kept.refl _ []).alloc _).heap (by simp) (heap_alloc_new w _)
  have g2 : W2.heap[y]? = some (.cells #[.int .u8 0, .int .i64 tb, .int .i64 key, .string txt] 57 (0, 0)) := by
    have := heap_alloc_new (w.alloc (.cells #[.int .i64 mx, .slice u n m, .int .i64 own] 50)) (.cells #[.int .u8 0, .int .i64 tb, .int .i64 key, .string txt] 57)
    rw [hy1] at this
    rw [hW2, hy]; exact this
  have z0 : W2.cell? ⟨z, 0, none⟩ = some (.int .i64 mx) := by rw [cell_of_row _ _ 0 _ _ _ g1]; rfl
  have z1 : W2.cell? ⟨z, 1, none⟩ = some (.slice u n m) := by rw [cell_of_row _ _ 1 _ _ _ g1]; rfl
  have z2 : W2.cell? ⟨z, 2, none⟩ = some (.int .i64 own) := by rw [cell_of_row _ _ 2 _ _ _ g1]; rfl
  have y0 : W2.cell? ⟨y, 0, none⟩ = some (.int .u8 0) := by rw [cell_of_row _ _ 0 _ _ _ g2]; rfl
  have y1 : W2.cell? ⟨y, 1, none⟩ = some (.int .i64 tb) := by rw [cell_of_row _ _ 1 _ _ _ g2]; rfl
  have y2 : W2.cell? ⟨y, 2, none⟩ = some (.int .i64 key) := by rw [cell_of_row _ _ 2 _ _ _ g2]; rfl
  have y3 : W2.cell? ⟨y, 3, none⟩ = some (.string txt) := by rw [cell_of_row _ _ 3 _ _ _ g2]; rfl
  have K2 := Lib.hid k2
  obtain ⟨a0, cap, rfl, hmax, hsh⟩ := a.zc.shape
  have c0 : W2.cell? ⟨zb, 0, none⟩ = some (.slice a0 L.length cap) := k2.cell (by simp) (by rw [cell_of_row _ _ 0 _ _ _ a.zc.hr]; rfl)
  obtain ⟨ln, hln⟩ : ∃ ln, L.length = ln := ⟨_, rfl⟩
  rw [hln] at c0 hsh hmax
  have A := Lib.hid (Rst.keep ⟨v, _, L, a, rfl⟩ k2)
  clear a k2 g1 g2 hy1 hsh hv z0 z1 z2 hln 
  go_enter Try.func22, Try.ntmps22
  go_wp2_with fail
  rw [← hW2, ← hz, ← hy]
  clear hW2 hz hy
  go_quiet (fail)
  go_wp2
  go_ret2
  exact ⟨_, rfl, World.ownsRow_nil _ _ _ _, (A.out).keep ((Kept.refl W2 []).drewN _), Fy.ofKept (K2.out.trans ((Kept.refl W2 []).drewN _) (by simp)) _ _⟩

set_option maxHeartbeats 1000000 in
set_option maxRecDepth 100000 in
theorem rrun_k7 (a : Rsx w B q zb v zv st L) (mx own : Int) (u : Option Addr) (n m : Nat) (opl : List Int) (hv : Vo w (.slice u n m) opl) (kind : Nat) (tb : Int) (hk : 6 < kind) (key : Int) (txt : ByteArray) :
    Calls Try.prog 22 #[.pointer (some ⟨zb, 0, none⟩), .agg #[.int .i64 mx, .slice u n m, .int .i64 own], .agg #[.int .u8 kind, .int .i64 tb, .int .i64 key, .string txt]] w fun e w' => RPost w B q zb st 1 [] (L.map Rq.l) e w' := by
  obtain ⟨W2, hW2⟩ : ∃ W2, W2 = (w.alloc (.cells #[.int .i64 mx, .slice u n m, .int .i64 own] 50)).alloc (.cells #[.int .u8 kind, .int .i64 tb, .int .i64 key, .string txt] 57) := ⟨_, rfl⟩
  have k2 : Kept w W2 [] := by rw [hW2]; exact ((Kept.refl w []).alloc _).alloc _
  obtain ⟨z, hz⟩ : ∃ z, z = w.heap.size := ⟨_, rfl⟩
  have hy1 : (w.alloc (.cells #[.int .i64 mx, .slice u n m, .int .i64 own] 50)).heap.size = z + 1 := by rw [hz]; simp
  obtain ⟨y, hy⟩ : ∃ y, y = z + 1 := ⟨_, rfl⟩
  have g1 : W2.heap[z]? = some (.cells #[.int .i64 mx, .slice u n m, .int .i64 own] 50 (0, 0)) := by rw [hW2, hz]; exact ((Kept.refl _ []).alloc _).heap (by simp) (heap_alloc_new w _)
  have g2 : W2.heap[y]? = some (.cells #[.int .u8 kind, .int .i64 tb, .int .i64 key, .string txt] 57 (0, 0)) := by
    have := heap_alloc_new (w.alloc (.cells #[.int .i64 mx, .slice u n m, .int .i64 own] 50)) (.cells #[.int .u8 kind, .int .i64 tb, .int .i64 key, .string txt] 57)
    rw [hy1] at this
    rw [hW2, hy]; exact this
  have z0 : W2.cell? ⟨z, 0, none⟩ = some (.int .i64 mx) := by rw [cell_of_row _ _ 0 _ _ _ g1]; rfl
  have z1 : W2.cell? ⟨z, 1, none⟩ = some (.slice u n m) := by rw [cell_of_row _ _ 1 _ _ _ g1]; rfl
  have z2 : W2.cell? ⟨z, 2, none⟩ = some (.int .i64 own) := by rw [cell_of_row _ _ 2 _ _ _ g1]; rfl
  have y0 : W2.cell? ⟨y, 0, none⟩ = some (.int .u8 kind) := by rw [cell_of_row _ _ 0 _ _ _ g2]; rfl
  have y1 : W2.cell? ⟨y, 1, none⟩ = some (.int .i64 tb) := by rw [cell_of_row _ _ 1 _ _ _ g2]; rfl
  have y2 : W2.cell? ⟨y, 2, none⟩ = some (.int .i64 key) := by rw [cell_of_row _ _ 2 _ _ _ g2]; rfl
  have y3 : W2.cell? ⟨y, 3, none⟩ = some (.string txt) := by rw [cell_of_row _ _ 3 _ _ _ g2]; rfl
  have K2 := Lib.hid k2
  obtain ⟨a0, cap, rfl, hmax, hsh⟩ := a.zc.shape
  have c0 : W2.cell? ⟨zb, 0, none⟩ = some (.slice a0 L.length cap) := k2.cell (by simp) (by rw [cell_of_row _ _ 0 _ _ _ a.zc.hr]; rfl)
  obtain ⟨ln, hln⟩ : ∃ ln, L.length = ln := ⟨_, rfl⟩
  rw [hln] at c0 hsh hmax
  have x1 : decide ((kind : Int) < 1) = false := by simp; omega
  have x2 : decide ((6 : Int) < kind) = true := by simp; omega
  have x1b : ¬ (kind : Int) < 1 := by omega
  have x2b : (6 : Int) < kind := by omega
  have A := Lib.hid (Rst.keep ⟨v, _, L, a, rfl⟩ k2)
  clear a k2 g1 g2 hy1 hsh hv z0 z1 z2 hln hk
  go_enter Try.func22, Try.ntmps22
  go_wp2_with fail
  rw [← hW2, ← hz, ← hy]
  clear hW2 hz hy
  go_quiet (fail)
  go_wp2
  go_ret2
  exact ⟨_, rfl, World.ownsRow_nil _ _ _ _, (A.out).keep ((Kept.refl W2 []).drewN _), Fy.ofKept (K2.out.trans ((Kept.refl W2 []).drewN _) (by simp)) _ _⟩

set_option maxHeartbeats 1000000 in
set_option maxRecDepth 100000 in
theorem rrun_neg (a : Rsx w B q zb v zv st L) (mx own : Int) (u : Option Addr) (n m : Nat) (opl : List Int) (hv : Vo w (.slice u n m) opl) (kind : Nat) (tb : Int) (hk : 1 ≤ kind ∧ kind ≤ 6) (ht : tb < 0) (key : Int) (txt : ByteArray) :
    Calls Try.prog 22 #[.pointer (some ⟨zb, 0, none⟩), .agg #[.int .i64 mx, .slice u n m, .int .i64 own], .agg #[.int .u8 kind, .int .i64 tb, .int .i64 key, .string txt]] w fun e w' => RPost w B q zb st 1 [] (L.map Rq.l) e w' := by
  obtain ⟨W2, hW2⟩ : ∃ W2, W2 = (w.alloc (.cells #[.int .i64 mx, .slice u n m, .int .i64 own] 50)).alloc (.cells #[.int .u8 kind, .int .i64 tb, .int .i64 key, .string txt] 57) := ⟨_, rfl⟩
  have k2 : Kept w W2 [] := by rw [hW2]; exact ((Kept.refl w []).alloc _).alloc _
  obtain ⟨z, hz⟩ : ∃ z, z = w.heap.size := ⟨_, rfl⟩
  have hy1 : (w.alloc (.cells #[.int .i64 mx, .slice u n m, .int .i64 own] 50)).heap.size = z + 1 := by rw [hz]; simp
  obtain ⟨y, hy⟩ : ∃ y, y = z + 1 := ⟨_, rfl⟩
  have g1 : W2.heap[z]? = some (.cells #[.int .i64 mx, .slice u n m, .int .i64 own] 50 (0, 0)) := by rw [hW2, hz]; exact ((Kept.refl _ []).alloc _).heap (by simp) (heap_alloc_new w _)
  have g2 : W2.heap[y]? = some (.cells #[.int .u8 kind, .int .i64 tb, .int .i64 key, .string txt] 57 (0, 0)) := by
    have := heap_alloc_new (w.alloc (.cells #[.int .i64 mx, .slice u n m, .int .i64 own] 50)) (.cells #[.int .u8 kind, .int .i64 tb, .int .i64 key, .string txt] 57)
    rw [hy1] at this
    rw [hW2, hy]; exact this
  have z0 : W2.cell? ⟨z, 0, none⟩ = some (.int .i64 mx) := by rw [cell_of_row _ _ 0 _ _ _ g1]; rfl
  have z1 : W2.cell? ⟨z, 1, none⟩ = some (.slice u n m) := by rw [cell_of_row _ _ 1 _ _ _ g1]; rfl
  have z2 : W2.cell? ⟨z, 2, none⟩ = some (.int .i64 own) := by rw [cell_of_row _ _ 2 _ _ _ g1]; rfl
  have y0 : W2.cell? ⟨y, 0, none⟩ = some (.int .u8 kind) := by rw [cell_of_row _ _ 0 _ _ _ g2]; rfl
  have y1 : W2.cell? ⟨y, 1, none⟩ = some (.int .i64 tb) := by rw [cell_of_row _ _ 1 _ _ _ g2]; rfl
  have y2 : W2.cell? ⟨y, 2, none⟩ = some (.int .i64 key) := by rw [cell_of_row _ _ 2 _ _ _ g2]; rfl
  have y3 : W2.cell? ⟨y, 3, none⟩ = some (.string txt) := by rw [cell_of_row _ _ 3 _ _ _ g2]; rfl
  have K2 := Lib.hid k2
  obtain ⟨a0, cap, rfl, hmax, hsh⟩ := a.zc.shape
  have c0 : W2.cell? ⟨zb, 0, none⟩ = some (.slice a0 L.length cap) := k2.cell (by simp) (by rw [cell_of_row _ _ 0 _ _ _ a.zc.hr]; rfl)
  obtain ⟨ln, hln⟩ : ∃ ln, L.length = ln := ⟨_, rfl⟩
  rw [hln] at c0 hsh hmax
  have x1 : decide ((kind : Int) < 1) = false := by simp; omega
  have x2 : decide ((6 : Int) < kind) = false := by simp; omega
  have x1b : ¬ (kind : Int) < 1 := by omega
  have x2b : ¬ (6 : Int) < kind := by omega
  have x3 : decide (tb < 0) = true := by simp; omega
  have A := Lib.hid (Rst.keep ⟨v, _, L, a, rfl⟩ k2)
  clear a k2 g1 g2 hy1 hsh hv z0 z1 z2 hln hk
  go_enter Try.func22, Try.ntmps22
  go_wp2_with fail
  rw [← hW2, ← hz, ← hy]
  clear hW2 hz hy
  go_quiet (fail)
  go_wp2
  go_ret2
  exact ⟨_, rfl, World.ownsRow_nil _ _ _ _, (A.out).keep ((Kept.refl W2 []).drewN _), Fy.ofKept (K2.out.trans ((Kept.refl W2 []).drewN _) (by simp)) _ _⟩

set_option maxHeartbeats 1000000 in
set_option maxRecDepth 100000 in
theorem rrun_out (a : Rsx w B q zb v zv st L) (mx own : Int) (u : Option Addr) (n m : Nat) (opl : List Int) (hv : Vo w (.slice u n m) opl) (kind tb : Nat) (hk : 1 ≤ kind ∧ kind ≤ 6) (ht : L.length ≤ tb) (key : Int) (txt : ByteArray) :
    Calls Try.prog 22 #[.pointer (some ⟨zb, 0, none⟩), .agg #[.int .i64 mx, .slice u n m, .int .i64 own], .agg #[.int .u8 kind, .int .i64 tb, .int .i64 key, .string txt]] w fun e w' => RPost w B q zb st 1 [] (L.map Rq.l) e w' := by
  obtain ⟨W2, hW2⟩ : ∃ W2, W2 = (w.alloc (.cells #[.int .i64 mx, .slice u n m, .int .i64 own] 50)).alloc (.cells #[.int .u8 kind, .int .i64 tb, .int .i64 key, .string txt] 57) := ⟨_, rfl⟩
  have k2 : Kept w W2 [] := by rw [hW2]; exact ((Kept.refl w []).alloc _).alloc _
  obtain ⟨z, hz⟩ : ∃ z, z = w.heap.size := ⟨_, rfl⟩
  have hy1 : (w.alloc (.cells #[.int .i64 mx, .slice u n m, .int .i64 own] 50)).heap.size = z + 1 := by rw [hz]; simp
  obtain ⟨y, hy⟩ : ∃ y, y = z + 1 := ⟨_, rfl⟩
  have g1 : W2.heap[z]? = some (.cells #[.int .i64 mx, .slice u n m, .int .i64 own] 50 (0, 0)) := by rw [hW2, hz]; exact ((Kept.refl _ []).alloc _).heap (by simp) (heap_alloc_new w _)
  have g2 : W2.heap[y]? = some (.cells #[.int .u8 kind, .int .i64 tb, .int .i64 key, .string txt] 57 (0, 0)) := by
    have := heap_alloc_new (w.alloc (.cells #[.int .i64 mx, .slice u n m, .int .i64 own] 50)) (.cells #[.int .u8 kind, .int .i64 tb, .int .i64 key, .string txt] 57)
    rw [hy1] at this
    rw [hW2, hy]; exact this
  have z0 : W2.cell? ⟨z, 0, none⟩ = some (.int .i64 mx) := by rw [cell_of_row _ _ 0 _ _ _ g1]; rfl
  have z1 : W2.cell? ⟨z, 1, none⟩ = some (.slice u n m) := by rw [cell_of_row _ _ 1 _ _ _ g1]; rfl
  have z2 : W2.cell? ⟨z, 2, none⟩ = some (.int .i64 own) := by rw [cell_of_row _ _ 2 _ _ _ g1]; rfl
  have y0 : W2.cell? ⟨y, 0, none⟩ = some (.int .u8 kind) := by rw [cell_of_row _ _ 0 _ _ _ g2]; rfl
  have y1 : W2.cell? ⟨y, 1, none⟩ = some (.int .i64 tb) := by rw [cell_of_row _ _ 1 _ _ _ g2]; rfl
  have y2 : W2.cell? ⟨y, 2, none⟩ = some (.int .i64 key) := by rw [cell_of_row _ _ 2 _ _ _ g2]; rfl
  have y3 : W2.cell? ⟨y, 3, none⟩ = some (.string txt) := by rw [cell_of_row _ _ 3 _ _ _ g2]; rfl
  have K2 := Lib.hid k2
  obtain ⟨a0, cap, rfl, hmax, hsh⟩ := a.zc.shape
  have c0 : W2.cell? ⟨zb, 0, none⟩ = some (.slice a0 L.length cap) := k2.cell (by simp) (by rw [cell_of_row _ _ 0 _ _ _ a.zc.hr]; rfl)
  obtain ⟨ln, hln⟩ : ∃ ln, L.length = ln := ⟨_, rfl⟩
  rw [hln] at c0 hsh hmax
  have x1 : decide ((kind : Int) < 1) = false := by simp; omega
  have x2 : decide ((6 : Int) < kind) = false := by simp; omega
  have x1b : ¬ (kind : Int) < 1 := by omega
  have x2b : ¬ (6 : Int) < kind := by omega
  rw [hln] at ht
  have x3 : decide ((tb : Int) < 0) = false := by simp
  have x4 : decide (ln ≤ tb) = true := by simp; omega
  have x5 : decide ((ln : Int) ≤ tb) = true := by simp; omega
  have A := Lib.hid (Rst.keep ⟨v, _, L, a, rfl⟩ k2)
  clear a k2 g1 g2 hy1 hsh hv z0 z1 z2 hln hk
  go_enter Try.func22, Try.ntmps22
  go_wp2_with fail
  rw [← hW2, ← hz, ← hy]
  clear hW2 hz hy
  go_quiet (fail)
  go_wp2
  go_ret2
  exact ⟨_, rfl, World.ownsRow_nil _ _ _ _, (A.out).keep ((Kept.refl W2 []).drewN _), Fy.ofKept (K2.out.trans ((Kept.refl W2 []).drewN _) (by simp)) _ _⟩

set_option maxHeartbeats 1000000 in
set_option maxRecDepth 100000 in
theorem rrun_txt (a : Rsx w B q zb v zv st L) (mx own : Int) (u : Option Addr) (n m : Nat) (opl : List Int) (hv : Vo w (.slice u n m) opl) (kind tb : Nat) (hk : 1 ≤ kind ∧ kind < 3) (ht : tb < L.length) (key : Int) (txt : ByteArray) (hx : 40 < txt.size) :
    Calls Try.prog 22 #[.pointer (some ⟨zb, 0, none⟩), .agg #[.int .i64 mx, .slice u n m, .int .i64 own], .agg #[.int .u8 kind, .int .i64 tb, .int .i64 key, .string txt]] w fun e w' => RPost w B q zb st 1 [] (L.map Rq.l) e w' := by
  obtain ⟨W2, hW2⟩ : ∃ W2, W2 = (w.alloc (.cells #[.int .i64 mx, .slice u n m, .int .i64 own] 50)).alloc (.cells #[.int .u8 kind, .int .i64 tb, .int .i64 key, .string txt] 57) := ⟨_, rfl⟩
  have k2 : Kept w W2 [] := by rw [hW2]; exact ((Kept.refl w []).alloc _).alloc _
  obtain ⟨z, hz⟩ : ∃ z, z = w.heap.size := ⟨_, rfl⟩
  have hy1 : (w.alloc (.cells #[.int .i64 mx, .slice u n m, .int .i64 own] 50)).heap.size = z + 1 := by rw [hz]; simp
  obtain ⟨y, hy⟩ : ∃ y, y = z + 1 := ⟨_, rfl⟩
  have g1 : W2.heap[z]? = some (.cells #[.int .i64 mx, .slice u n m, .int .i64 own] 50 (0, 0)) := by rw [hW2, hz]; exact ((Kept.refl _ []).alloc _).heap (by simp) (heap_alloc_new w _)
  have g2 : W2.heap[y]? = some (.cells #[.int .u8 kind, .int .i64 tb, .int .i64 key, .string txt] 57 (0, 0)) := by
    have := heap_alloc_new (w.alloc (.cells #[.int .i64 mx, .slice u n m, .int .i64 own] 50)) (.cells #[.int .u8 kind, .int .i64 tb, .int .i64 key, .string txt] 57)
    rw [hy1] at this
    rw [hW2, hy]; exact this
  have z0 : W2.cell? ⟨z, 0, none⟩ = some (.int .i64 mx) := by rw [cell_of_row _ _ 0 _ _ _ g1]; rfl
  have z1 : W2.cell? ⟨z, 1, none⟩ = some (.slice u n m) := by rw [cell_of_row _ _ 1 _ _ _ g1]; rfl
  have z2 : W2.cell? ⟨z, 2, none⟩ = some (.int .i64 own) := by rw [cell_of_row _ _ 2 _ _ _ g1]; rfl
  have y0 : W2.cell? ⟨y, 0, none⟩ = some (.int .u8 kind) := by rw [cell_of_row _ _ 0 _ _ _ g2]; rfl
  have y1 : W2.cell? ⟨y, 1, none⟩ = some (.int .i64 tb) := by rw [cell_of_row _ _ 1 _ _ _ g2]; rfl
  have y2 : W2.cell? ⟨y, 2, none⟩ = some (.int .i64 key) := by rw [cell_of_row _ _ 2 _ _ _ g2]; rfl
  have y3 : W2.cell? ⟨y, 3, none⟩ = some (.string txt) := by rw [cell_of_row _ _ 3 _ _ _ g2]; rfl
  have K2 := Lib.hid k2
  obtain ⟨a0, cap, rfl, hmax, hsh⟩ := a.zc.shape
  have c0 : W2.cell? ⟨zb, 0, none⟩ = some (.slice a0 L.length cap) := k2.cell (by simp) (by rw [cell_of_row _ _ 0 _ _ _ a.zc.hr]; rfl)
  obtain ⟨ln, hln⟩ : ∃ ln, L.length = ln := ⟨_, rfl⟩
  rw [hln] at c0 hsh hmax
  have x1 : decide ((kind : Int) < 1) = false := by simp; omega
  have x2 : decide ((6 : Int) < kind) = false := by simp; omega
  have x1b : ¬ (kind : Int) < 1 := by omega
  have x2b : ¬ (6 : Int) < kind := by omega
  rw [hln] at ht
  have x3 : decide ((tb : Int) < 0) = false := by simp
  have x4 : decide (ln ≤ tb) = false := by simp; omega
  have x5 : decide ((ln : Int) ≤ tb) = false := by simp; omega
  have x6 : decide ((kind : Int) < 3) = true := by simp; omega
  have x6b : (kind : Int) < 3 := by omega
  have x7 : decide (40 < txt.size) = true := by simp; omega
  have x8 : decide ((40 : Int) < (txt.size : Int)) = true := by simp; omega
  have A := Lib.hid (Rst.keep ⟨v, _, L, a, rfl⟩ k2)
  clear a k2 g1 g2 hy1 hsh hv z0 z1 z2 hln hk
  go_enter Try.func22, Try.ntmps22
  go_wp2_with fail
  rw [← hW2, ← hz, ← hy]
  clear hW2 hz hy
  go_quiet (fail)
  go_wp2
  go_ret2
  exact ⟨_, rfl, World.ownsRow_nil _ _ _ _, (A.out).keep ((Kept.refl W2 []).drewN _), Fy.ofKept (K2.out.trans ((Kept.refl W2 []).drewN _) (by simp)) _ _⟩

theorem Stp.after {O O' : Nat → Prop} {V : World} (k : Kept w V []) (f : Stp O O' V w') : Stp O O' w w' :=
  ⟨(Fo.ofKept k _).trans f.1, fun j hj => (f.2 j hj).imp id (fun h => Nat.le_trans k.size h)⟩
theorem Stp.ofFo {O : Nat → Prop} {V : World} (k : Kept w V []) (f : Fo O V w') : Stp O O w w' :=
  ⟨(Fo.ofKept k _).trans f, fun j hj => .inl hj⟩

set_option maxHeartbeats 1000000 in
set_option maxRecDepth 100000 in
theorem rrun_ins (a : Rsx w B q zb v zv st L) (ht : L[i]? = some t) (mx own : Int) (u : Option Addr) (n m : Nat) (opl : List Int) (hv : Vo w (.slice u n m) opl) (key : Int) (txt : ByteArray) (hl : t.l.length ≤ 1000) (hx : txt.size ≤ 40) :
    Calls Try.prog 22 #[.pointer (some ⟨zb, 0, none⟩), .agg #[.int .i64 mx, .slice u n m, .int .i64 own], .agg #[.int .u8 1, .int .i64 i, .int .i64 key, .string txt]] w fun e w' => RPost w B q zb st (flInsE st ⟨mx, opl, own⟩ key t.l) [] ((L.map Rq.l).set i (flPut (flInsE st ⟨mx, opl, own⟩ key t.l) key ⟨txt, own, 0⟩ t.l)) e w' := by
  obtain ⟨W2, hW2⟩ : ∃ W2, W2 = (w.alloc (.cells #[.int .i64 mx, .slice u n m, .int .i64 own] 50)).alloc (.cells #[.int .u8 1, .int .i64 i, .int .i64 key, .string txt] 57) := ⟨_, rfl⟩
  have k2 : Kept w W2 [] := by rw [hW2]; exact ((Kept.refl w []).alloc _).alloc _
  obtain ⟨z, hz⟩ : ∃ z, z = w.heap.size := ⟨_, rfl⟩
  have hy1 : (w.alloc (.cells #[.int .i64 mx, .slice u n m, .int .i64 own] 50)).heap.size = z + 1 := by rw [hz]; simp
  obtain ⟨y, hy⟩ : ∃ y, y = z + 1 := ⟨_, rfl⟩
  have g1 : W2.heap[z]? = some (.cells #[.int .i64 mx, .slice u n m, .int .i64 own] 50 (0, 0)) := by rw [hW2, hz]; exact ((Kept.refl _ []).alloc _).heap (by simp) (heap_alloc_new w _)
  have g2 : W2.heap[y]? = some (.cells #[.int .u8 1, .int .i64 i, .int .i64 key, .string txt] 57 (0, 0)) := by
    have := heap_alloc_new (w.alloc (.cells #[.int .i64 mx, .slice u n m, .int .i64 own] 50)) (.cells #[.int .u8 1, .int .i64 i, .int .i64 key, .string txt] 57)
    rw [hy1] at this
    rw [hW2, hy]; exact this
  have z0 : W2.cell? ⟨z, 0, none⟩ = some (.int .i64 mx) := by rw [cell_of_row _ _ 0 _ _ _ g1]; rfl
  have z1 : W2.cell? ⟨z, 1, none⟩ = some (.slice u n m) := by rw [cell_of_row _ _ 1 _ _ _ g1]; rfl
  have z2 : W2.cell? ⟨z, 2, none⟩ = some (.int .i64 own) := by rw [cell_of_row _ _ 2 _ _ _ g1]; rfl
  have y0 : W2.cell? ⟨y, 0, none⟩ = some (.int .u8 1) := by rw [cell_of_row _ _ 0 _ _ _ g2]; rfl
  have y1 : W2.cell? ⟨y, 1, none⟩ = some (.int .i64 i) := by rw [cell_of_row _ _ 1 _ _ _ g2]; rfl
  have y2 : W2.cell? ⟨y, 2, none⟩ = some (.int .i64 key) := by rw [cell_of_row _ _ 2 _ _ _ g2]; rfl
  have y3 : W2.cell? ⟨y, 3, none⟩ = some (.string txt) := by rw [cell_of_row _ _ 3 _ _ _ g2]; rfl
  have K2 := Lib.hid k2
  obtain ⟨a0, cap, rfl, hmax, hsh⟩ := a.zc.shape
  have c0 : W2.cell? ⟨zb, 0, none⟩ = some (.slice a0 L.length cap) := k2.cell (by simp) (by rw [cell_of_row _ _ 0 _ _ _ a.zc.hr]; rfl)
  obtain ⟨ln, hln⟩ : ∃ ln, L.length = ln := ⟨_, rfl⟩
  rw [hln] at c0 hsh hmax
  obtain ⟨lv, x, ex⟩ := a.hs i t ht
  obtain ⟨g, rfl, hcap, hcells⟩ := hsh (by have := (List.getElem?_eq_some_iff.1 ht).1; omega)
  have hi : i < ln := by have := (List.getElem?_eq_some_iff.1 ht).1; omega
  have c1 : W2.cell? ⟨g, i, none⟩ = some (.pointer (some ⟨t.h, 0, none⟩)) := k2.cell (by simp) (hcells i t ht)
  have hi2 : decide (ln ≤ i) = false := by simp; omega
  have hi3 : decide ((ln : Int) ≤ (i : Int)) = false := by simp; omega
  have A := Lib.hid a
  have C : Hid (∀ V, Kept W2 V [] → Calls Try.prog 44 #[.pointer (some ⟨t.h, 0, none⟩), .agg #[.int .i64 mx, .slice u n m, .int .i64 own], .agg #[.int .i64 key, .string txt]] V fun e w' => e = .returned (.int .i64 (flInsE st ⟨mx, opl, own⟩ key t.l)) ∧ (Rst w' B q zb st ((L.map Rq.l).set i (flPut (flInsE st ⟨mx, opl, own⟩ key t.l) key ⟨txt, own, 0⟩ t.l)) ∧ Fy B tysR w w')) := Lib.hid (fun V hV => by
    have kV := k2.trans hV (by simp)
    refine (rins_any (a.rm.keep kV) (x.keep kV) mx own (.slice u n m) opl (hv.keep kV).rd key txt (by omega)).mono ?_
    rintro e w' ⟨rfl, lv', x', f⟩; exact ⟨rfl, a.put ht x ex x' (Stp.after kV f)⟩)
  have hx1 : decide (40 < txt.size) = false := by simp; omega
  have hx2 : decide ((40 : Int) < (txt.size : Int)) = false := by simp; omega
  clear a k2 g1 g2 hy1 hsh hcells hv hln x ex ht
  go_enter Try.func22, Try.ntmps22
  go_wp2_with fail
  rw [← hW2, ← hz, ← hy]
  clear hW2 hz hy
  go_quiet (fail)
  go_wp2_with fail
  go_quiet (fail)
  go_wp2_with fail
  refine (C.out _ (by first | exact (Kept.refl W2 []).drewN _ | exact ((Kept.refl W2 []).drewN _).drewN _)).mono ?_
  rintro e w3 ⟨rfl, r3⟩
  have R3 := Lib.hid r3
  clear r3 z0 z1 z2 y0 y1 y2 y3 c0 c1
  go_wp2
  go_ret2
  exact ⟨_, rfl, World.ownsRow_nil _ _ _ _, R3.out⟩

set_option maxHeartbeats 1000000 in
set_option maxRecDepth 100000 in
theorem rrun_upd (a : Rsx w B q zb v zv st L) (ht : L[i]? = some t) (mx own : Int) (u : Option Addr) (n m : Nat) (opl : List Int) (hv : Vo w (.slice u n m) opl) (key : Int) (txt : ByteArray) (hl : t.l.length ≤ 1000) (hx : txt.size ≤ 40) :
    Calls Try.prog 22 #[.pointer (some ⟨zb, 0, none⟩), .agg #[.int .i64 mx, .slice u n m, .int .i64 own], .agg #[.int .u8 2, .int .i64 i, .int .i64 key, .string txt]] w fun e w' => RPost w B q zb st (flDel st ⟨mx, opl, own⟩ key t.l).1 [] ((L.map Rq.l).set i (flPut (flDel st ⟨mx, opl, own⟩ key t.l).1 key ⟨txt, own, 0⟩ (flDel st ⟨mx, opl, own⟩ key t.l).2)) e w' := by
  obtain ⟨W2, hW2⟩ : ∃ W2, W2 = (w.alloc (.cells #[.int .i64 mx, .slice u n m, .int .i64 own] 50)).alloc (.cells #[.int .u8 2, .int .i64 i, .int .i64 key, .string txt] 57) := ⟨_, rfl⟩
  have k2 : Kept w W2 [] := by rw [hW2]; exact ((Kept.refl w []).alloc _).alloc _
  obtain ⟨z, hz⟩ : ∃ z, z = w.heap.size := ⟨_, rfl⟩
  have hy1 : (w.alloc (.cells #[.int .i64 mx, .slice u n m, .int .i64 own] 50)).heap.size = z + 1 := by rw [hz]; simp
  obtain ⟨y, hy⟩ : ∃ y, y = z + 1 := ⟨_, rfl⟩
  have g1 : W2.heap[z]? = some (.cells #[.int .i64 mx, .slice u n m, .int .i64 own] 50 (0, 0)) := by rw [hW2, hz]; exact ((Kept.refl _ []).alloc _).heap (by simp) (heap_alloc_new w _)
  have g2 : W2.heap[y]? = some (.cells #[.int .u8 2, .int .i64 i, .int .i64 key, .string txt] 57 (0, 0)) := by
    have := heap_alloc_new (w.alloc (.cells #[.int .i64 mx, .slice u n m, .int .i64 own] 50)) (.cells #[.int .u8 2, .int .i64 i, .int .i64 key, .string txt] 57)
    rw [hy1] at this
    rw [hW2, hy]; exact this
  have z0 : W2.cell? ⟨z, 0, none⟩ = some (.int .i64 mx) := by rw [cell_of_row _ _ 0 _ _ _ g1]; rfl
  have z1 : W2.cell? ⟨z, 1, none⟩ = some (.slice u n m) := by rw [cell_of_row _ _ 1 _ _ _ g1]; rfl
  have z2 : W2.cell? ⟨z, 2, none⟩ = some (.int .i64 own) := by rw [cell_of_row _ _ 2 _ _ _ g1]; rfl
  have y0 : W2.cell? ⟨y, 0, none⟩ = some (.int .u8 2) := by rw [cell_of_row _ _ 0 _ _ _ g2]; rfl
  have y1 : W2.cell? ⟨y, 1, none⟩ = some (.int .i64 i) := by rw [cell_of_row _ _ 1 _ _ _ g2]; rfl
  have y2 : W2.cell? ⟨y, 2, none⟩ = some (.int .i64 key) := by rw [cell_of_row _ _ 2 _ _ _ g2]; rfl
  have y3 : W2.cell? ⟨y, 3, none⟩ = some (.string txt) := by rw [cell_of_row _ _ 3 _ _ _ g2]; rfl
  have K2 := Lib.hid k2
  obtain ⟨a0, cap, rfl, hmax, hsh⟩ := a.zc.shape
  have c0 : W2.cell? ⟨zb, 0, none⟩ = some (.slice a0 L.length cap) := k2.cell (by simp) (by rw [cell_of_row _ _ 0 _ _ _ a.zc.hr]; rfl)
  obtain ⟨ln, hln⟩ : ∃ ln, L.length = ln := ⟨_, rfl⟩
  rw [hln] at c0 hsh hmax
  obtain ⟨lv, x, ex⟩ := a.hs i t ht
  obtain ⟨g, rfl, hcap, hcells⟩ := hsh (by have := (List.getElem?_eq_some_iff.1 ht).1; omega)
  have hi : i < ln := by have := (List.getElem?_eq_some_iff.1 ht).1; omega
  have c1 : W2.cell? ⟨g, i, none⟩ = some (.pointer (some ⟨t.h, 0, none⟩)) := k2.cell (by simp) (hcells i t ht)
  have hi2 : decide (ln ≤ i) = false := by simp; omega
  have hi3 : decide ((ln : Int) ≤ (i : Int)) = false := by simp; omega
  have A := Lib.hid a
  have C : Hid (∀ V, Kept W2 V [] → Calls Try.prog 45 #[.pointer (some ⟨t.h, 0, none⟩), .agg #[.int .i64 mx, .slice u n m, .int .i64 own], .agg #[.int .i64 key, .string txt]] V fun e w' => e = .returned (.int .i64 (flDel st ⟨mx, opl, own⟩ key t.l).1) ∧ (Rst w' B q zb st ((L.map Rq.l).set i (flPut (flDel st ⟨mx, opl, own⟩ key t.l).1 key ⟨txt, own, 0⟩ (flDel st ⟨mx, opl, own⟩ key t.l).2)) ∧ Fy B tysR w w')) := Lib.hid (fun V hV => by
    have kV := k2.trans hV (by simp)
    refine (rupd_any (a.rm.keep kV) (x.keep kV) mx own (.slice u n m) opl (hv.keep kV).rd key txt (by omega)).mono ?_
    rintro e w' ⟨rfl, lv', x', f⟩; exact ⟨rfl, a.put ht x ex x' (Stp.after kV f)⟩)
  have hx1 : decide (40 < txt.size) = false := by simp; omega
  have hx2 : decide ((40 : Int) < (txt.size : Int)) = false := by simp; omega
  clear a k2 g1 g2 hy1 hsh hcells hv hln x ex ht
  go_enter Try.func22, Try.ntmps22
  go_wp2_with fail
  rw [← hW2, ← hz, ← hy]
  clear hW2 hz hy
  go_quiet (fail)
  go_wp2_with fail
  go_quiet (fail)
  go_wp2_with fail
  refine (C.out _ (by first | exact (Kept.refl W2 []).drewN _ | exact ((Kept.refl W2 []).drewN _).drewN _)).mono ?_
  rintro e w3 ⟨rfl, r3⟩
  have R3 := Lib.hid r3
  clear r3 z0 z1 z2 y0 y1 y2 y3 c0 c1
  go_wp2
  go_ret2
  exact ⟨_, rfl, World.ownsRow_nil _ _ _ _, R3.out⟩

set_option maxHeartbeats 1000000 in
set_option maxRecDepth 100000 in
theorem rrun_del (a : Rsx w B q zb v zv st L) (ht : L[i]? = some t) (mx own : Int) (u : Option Addr) (n m : Nat) (opl : List Int) (hv : Vo w (.slice u n m) opl) (key : Int) (txt : ByteArray) (hl : t.l.length ≤ 1000) :
    Calls Try.prog 22 #[.pointer (some ⟨zb, 0, none⟩), .agg #[.int .i64 mx, .slice u n m, .int .i64 own], .agg #[.int .u8 3, .int .i64 i, .int .i64 key, .string txt]] w fun e w' => RPost w B q zb st (flDel st ⟨mx, opl, own⟩ key t.l).1 [] ((L.map Rq.l).set i (flDel st ⟨mx, opl, own⟩ key t.l).2) e w' := by
  obtain ⟨W2, hW2⟩ : ∃ W2, W2 = (w.alloc (.cells #[.int .i64 mx, .slice u n m, .int .i64 own] 50)).alloc (.cells #[.int .u8 3, .int .i64 i, .int .i64 key, .string txt] 57) := ⟨_, rfl⟩
  have k2 : Kept w W2 [] := by rw [hW2]; exact ((Kept.refl w []).alloc _).alloc _
  obtain ⟨z, hz⟩ : ∃ z, z = w.heap.size := ⟨_, rfl⟩
  have hy1 : (w.alloc (.cells #[.int .i64 mx, .slice u n m, .int .i64 own] 50)).heap.size = z + 1 := by rw [hz]; simp
  obtain ⟨y, hy⟩ : ∃ y, y = z + 1 := ⟨_, rfl⟩
  have g1 : W2.heap[z]? = some (.cells #[.int .i64 mx, .slice u n m, .int .i64 own] 50 (0, 0)) := by rw [hW2, hz]; exact ((Kept.refl _ []).alloc _).heap (by simp) (heap_alloc_new w _)
  have g2 : W2.heap[y]? = some (.cells #[.int .u8 3, .int .i64 i, .int .i64 key, .string txt] 57 (0, 0)) := by
    have := heap_alloc_new (w.alloc (.cells #[.int .i64 mx, .slice u n m, .int .i64 own] 50)) (.cells #[.int .u8 3, .int .i64 i, .int .i64 key, .string txt] 57)
    rw [hy1] at this
    rw [hW2, hy]; exact this
  have z0 : W2.cell? ⟨z, 0, none⟩ = some (.int .i64 mx) := by rw [cell_of_row _ _ 0 _ _ _ g1]; rfl
  have z1 : W2.cell? ⟨z, 1, none⟩ = some (.slice u n m) := by rw [cell_of_row _ _ 1 _ _ _ g1]; rfl
  have z2 : W2.cell? ⟨z, 2, none⟩ = some (.int .i64 own) := by rw [cell_of_row _ _ 2 _ _ _ g1]; rfl
  have y0 : W2.cell? ⟨y, 0, none⟩ = some (.int .u8 3) := by rw [cell_of_row _ _ 0 _ _ _ g2]; rfl
  have y1 : W2.cell? ⟨y, 1, none⟩ = some (.int .i64 i) := by rw [cell_of_row _ _ 1 _ _ _ g2]; rfl
  have y2 : W2.cell? ⟨y, 2, none⟩ = some (.int .i64 key) := by rw [cell_of_row _ _ 2 _ _ _ g2]; rfl
  have y3 : W2.cell? ⟨y, 3, none⟩ = some (.string txt) := by rw [cell_of_row _ _ 3 _ _ _ g2]; rfl
  have K2 := Lib.hid k2
  obtain ⟨a0, cap, rfl, hmax, hsh⟩ := a.zc.shape
  have c0 : W2.cell? ⟨zb, 0, none⟩ = some (.slice a0 L.length cap) := k2.cell (by simp) (by rw [cell_of_row _ _ 0 _ _ _ a.zc.hr]; rfl)
  obtain ⟨ln, hln⟩ : ∃ ln, L.length = ln := ⟨_, rfl⟩
  rw [hln] at c0 hsh hmax
  obtain ⟨lv, x, ex⟩ := a.hs i t ht
  obtain ⟨g, rfl, hcap, hcells⟩ := hsh (by have := (List.getElem?_eq_some_iff.1 ht).1; omega)
  have hi : i < ln := by have := (List.getElem?_eq_some_iff.1 ht).1; omega
  have c1 : W2.cell? ⟨g, i, none⟩ = some (.pointer (some ⟨t.h, 0, none⟩)) := k2.cell (by simp) (hcells i t ht)
  have hi2 : decide (ln ≤ i) = false := by simp; omega
  have hi3 : decide ((ln : Int) ≤ (i : Int)) = false := by simp; omega
  have A := Lib.hid a
  have C : Hid (∀ V, Kept W2 V [] → Calls Try.prog 46 #[.pointer (some ⟨t.h, 0, none⟩), .agg #[.int .i64 mx, .slice u n m, .int .i64 own], .int .i64 key] V fun e w' => e = .returned (.int .i64 (flDel st ⟨mx, opl, own⟩ key t.l).1) ∧ (Rst w' B q zb st ((L.map Rq.l).set i (flDel st ⟨mx, opl, own⟩ key t.l).2) ∧ Fy B tysR w w')) := Lib.hid (fun V hV => by
    have kV := k2.trans hV (by simp)
    refine (rdel_any (a.rm.keep kV) (x.keep kV) mx own (.slice u n m) opl (hv.keep kV).rd key).mono ?_
    rintro e w' ⟨rfl, x', f⟩; exact ⟨rfl, a.put ht x ex x' (Stp.ofFo kV f)⟩)
  clear a k2 g1 g2 hy1 hsh hcells hv hln x ex ht
  go_enter Try.func22, Try.ntmps22
  go_wp2_with fail
  rw [← hW2, ← hz, ← hy]
  clear hW2 hz hy
  go_quiet (fail)
  go_wp2_with fail
  go_quiet (fail)
  go_wp2_with fail
  refine (C.out _ (by first | exact (Kept.refl W2 []).drewN _ | exact ((Kept.refl W2 []).drewN _).drewN _)).mono ?_
  rintro e w3 ⟨rfl, r3⟩
  have R3 := Lib.hid r3
  clear r3 z0 z1 z2 y0 y1 y2 y3 c0 c1
  go_wp2
  go_ret2
  exact ⟨_, rfl, World.ownsRow_nil _ _ _ _, R3.out⟩

set_option maxHeartbeats 1000000 in
set_option maxRecDepth 100000 in
theorem rrun_tru (a : Rsx w B q zb v zv st L) (ht : L[i]? = some t) (mx own : Int) (u : Option Addr) (n m : Nat) (opl : List Int) (hv : Vo w (.slice u n m) opl) (key : Int) (txt : ByteArray) (hl : t.l.length ≤ 1000) :
    Calls Try.prog 22 #[.pointer (some ⟨zb, 0, none⟩), .agg #[.int .i64 mx, .slice u n m, .int .i64 own], .agg #[.int .u8 4, .int .i64 i, .int .i64 key, .string txt]] w fun e w' => RPost w B q zb st (flTruE st ⟨mx, opl, own⟩ t.l) (flTruR st ⟨mx, opl, own⟩ t.l) ((L.map Rq.l).set i (flTru st ⟨mx, opl, own⟩ t.l)) e w' := by
  obtain ⟨W2, hW2⟩ : ∃ W2, W2 = (w.alloc (.cells #[.int .i64 mx, .slice u n m, .int .i64 own] 50)).alloc (.cells #[.int .u8 4, .int .i64 i, .int .i64 key, .string txt] 57) := ⟨_, rfl⟩
  have k2 : Kept w W2 [] := by rw [hW2]; exact ((Kept.refl w []).alloc _).alloc _
  obtain ⟨z, hz⟩ : ∃ z, z = w.heap.size := ⟨_, rfl⟩
  have hy1 : (w.alloc (.cells #[.int .i64 mx, .slice u n m, .int .i64 own] 50)).heap.size = z + 1 := by rw [hz]; simp
  obtain ⟨y, hy⟩ : ∃ y, y = z + 1 := ⟨_, rfl⟩
  have g1 : W2.heap[z]? = some (.cells #[.int .i64 mx, .slice u n m, .int .i64 own] 50 (0, 0)) := by rw [hW2, hz]; exact ((Kept.refl _ []).alloc _).heap (by simp) (heap_alloc_new w _)
  have g2 : W2.heap[y]? = some (.cells #[.int .u8 4, .int .i64 i, .int .i64 key, .string txt] 57 (0, 0)) := by
    have := heap_alloc_new (w.alloc (.cells #[.int .i64 mx, .slice u n m, .int .i64 own] 50)) (.cells #[.int .u8 4, .int .i64 i, .int .i64 key, .string txt] 57)
    rw [hy1] at this
    rw [hW2, hy]; exact this
  have z0 : W2.cell? ⟨z, 0, none⟩ = some (.int .i64 mx) := by rw [cell_of_row _ _ 0 _ _ _ g1]; rfl
  have z1 : W2.cell? ⟨z, 1, none⟩ = some (.slice u n m) := by rw [cell_of_row _ _ 1 _ _ _ g1]; rfl
  have z2 : W2.cell? ⟨z, 2, none⟩ = some (.int .i64 own) := by rw [cell_of_row _ _ 2 _ _ _ g1]; rfl
  have y0 : W2.cell? ⟨y, 0, none⟩ = some (.int .u8 4) := by rw [cell_of_row _ _ 0 _ _ _ g2]; rfl
  have y1 : W2.cell? ⟨y, 1, none⟩ = some (.int .i64 i) := by rw [cell_of_row _ _ 1 _ _ _ g2]; rfl
  have y2 : W2.cell? ⟨y, 2, none⟩ = some (.int .i64 key) := by rw [cell_of_row _ _ 2 _ _ _ g2]; rfl
  have y3 : W2.cell? ⟨y, 3, none⟩ = some (.string txt) := by rw [cell_of_row _ _ 3 _ _ _ g2]; rfl
  have K2 := Lib.hid k2
  obtain ⟨a0, cap, rfl, hmax, hsh⟩ := a.zc.shape
  have c0 : W2.cell? ⟨zb, 0, none⟩ = some (.slice a0 L.length cap) := k2.cell (by simp) (by rw [cell_of_row _ _ 0 _ _ _ a.zc.hr]; rfl)
  obtain ⟨ln, hln⟩ : ∃ ln, L.length = ln := ⟨_, rfl⟩
  rw [hln] at c0 hsh hmax
  obtain ⟨lv, x, ex⟩ := a.hs i t ht
  obtain ⟨g, rfl, hcap, hcells⟩ := hsh (by have := (List.getElem?_eq_some_iff.1 ht).1; omega)
  have hi : i < ln := by have := (List.getElem?_eq_some_iff.1 ht).1; omega
  have c1 : W2.cell? ⟨g, i, none⟩ = some (.pointer (some ⟨t.h, 0, none⟩)) := k2.cell (by simp) (hcells i t ht)
  have hi2 : decide (ln ≤ i) = false := by simp; omega
  have hi3 : decide ((ln : Int) ≤ (i : Int)) = false := by simp; omega
  have A := Lib.hid a
  have C : Hid (∀ V, Kept W2 V [] → Calls Try.prog 47 #[.pointer (some ⟨t.h, 0, none⟩), .agg #[.int .i64 mx, .slice u n m, .int .i64 own]] V fun e w' => (∃ v', e = .returned (.tuple #[v', .int .i64 (flTruE st ⟨mx, opl, own⟩ t.l)]) ∧ w'.ownsRow w.heap.size 55 2 v' (flTruR st ⟨mx, opl, own⟩ t.l).length (rcl (flTruR st ⟨mx, opl, own⟩ t.l))) ∧ (Rst w' B q zb st ((L.map Rq.l).set i (flTru st ⟨mx, opl, own⟩ t.l)) ∧ Fy B tysR w w')) := Lib.hid (fun V hV => by
    have kV := k2.trans hV (by simp)
    refine (rtru_any (a.rm.keep kV) (x.keep kV) mx own (.slice u n m) opl (hv.keep kV) hl).mono ?_
    rintro e w' ⟨v', rfl, ho, x', f⟩; exact ⟨⟨v', rfl, ownsRow_low ho kV.size⟩, a.put ht x ex x' (Stp.ofFo kV f)⟩)
  clear a k2 g1 g2 hy1 hsh hcells hv hln x ex ht
  go_enter Try.func22, Try.ntmps22
  go_wp2_with fail
  rw [← hW2, ← hz, ← hy]
  clear hW2 hz hy
  go_quiet (fail)
  go_wp2_with fail
  go_quiet (fail)
  go_wp2_with fail
  refine (C.out _ (by first | exact (Kept.refl W2 []).drewN _ | exact ((Kept.refl W2 []).drewN _).drewN _)).mono ?_
  rintro e w3 ⟨⟨v3, rfl, ho⟩, r3⟩
  have R3 := Lib.hid r3; have HO := Lib.hid ho
  clear r3 ho z0 z1 z2 y0 y1 y2 y3 c0 c1
  go_wp2
  go_ret2
  exact ⟨_, rfl, HO.out, R3.out⟩

set_option maxHeartbeats 1000000 in
set_option maxRecDepth 100000 in
theorem rrun_scan (a : Rsx w B q zb v zv st L) (ht : L[i]? = some t) (mx own : Int) (u : Option Addr) (n m : Nat) (opl : List Int) (hv : Vo w (.slice u n m) opl) (key : Int) (txt : ByteArray) (hl : t.l.length ≤ 1000) :
    Calls Try.prog 22 #[.pointer (some ⟨zb, 0, none⟩), .agg #[.int .i64 mx, .slice u n m, .int .i64 own], .agg #[.int .u8 6, .int .i64 i, .int .i64 key, .string txt]] w fun e w' => RPost w B q zb st 0 (flScan (sees st ⟨mx, opl, own⟩) t.l) (L.map Rq.l) e w' := by
  obtain ⟨W2, hW2⟩ : ∃ W2, W2 = (w.alloc (.cells #[.int .i64 mx, .slice u n m, .int .i64 own] 50)).alloc (.cells #[.int .u8 6, .int .i64 i, .int .i64 key, .string txt] 57) := ⟨_, rfl⟩
  have k2 : Kept w W2 [] := by rw [hW2]; exact ((Kept.refl w []).alloc _).alloc _
  obtain ⟨z, hz⟩ : ∃ z, z = w.heap.size := ⟨_, rfl⟩
  have hy1 : (w.alloc (.cells #[.int .i64 mx, .slice u n m, .int .i64 own] 50)).heap.size = z + 1 := by rw [hz]; simp
  obtain ⟨y, hy⟩ : ∃ y, y = z + 1 := ⟨_, rfl⟩
  have g1 : W2.heap[z]? = some (.cells #[.int .i64 mx, .slice u n m, .int .i64 own] 50 (0, 0)) := by rw [hW2, hz]; exact ((Kept.refl _ []).alloc _).heap (by simp) (heap_alloc_new w _)
  have g2 : W2.heap[y]? = some (.cells #[.int .u8 6, .int .i64 i, .int .i64 key, .string txt] 57 (0, 0)) := by
    have := heap_alloc_new (w.alloc (.cells #[.int .i64 mx, .slice u n m, .int .i64 own] 50)) (.cells #[.int .u8 6, .int .i64 i, .int .i64 key, .string txt] 57)
    rw [hy1] at this
    rw [hW2, hy]; exact this
  have z0 : W2.cell? ⟨z, 0, none⟩ = some (.int .i64 mx) := by rw [cell_of_row _ _ 0 _ _ _ g1]; rfl
  have z1 : W2.cell? ⟨z, 1, none⟩ = some (.slice u n m) := by rw [cell_of_row _ _ 1 _ _ _ g1]; rfl
  have z2 : W2.cell? ⟨z, 2, none⟩ = some (.int .i64 own) := by rw [cell_of_row _ _ 2 _ _ _ g1]; rfl
  have y0 : W2.cell? ⟨y, 0, none⟩ = some (.int .u8 6) := by rw [cell_of_row _ _ 0 _ _ _ g2]; rfl
  have y1 : W2.cell? ⟨y, 1, none⟩ = some (.int .i64 i) := by rw [cell_of_row _ _ 1 _ _ _ g2]; rfl
  have y2 : W2.cell? ⟨y, 2, none⟩ = some (.int .i64 key) := by rw [cell_of_row _ _ 2 _ _ _ g2]; rfl
  have y3 : W2.cell? ⟨y, 3, none⟩ = some (.string txt) := by rw [cell_of_row _ _ 3 _ _ _ g2]; rfl
  have K2 := Lib.hid k2
  obtain ⟨a0, cap, rfl, hmax, hsh⟩ := a.zc.shape
  have c0 : W2.cell? ⟨zb, 0, none⟩ = some (.slice a0 L.length cap) := k2.cell (by simp) (by rw [cell_of_row _ _ 0 _ _ _ a.zc.hr]; rfl)
  obtain ⟨ln, hln⟩ : ∃ ln, L.length = ln := ⟨_, rfl⟩
  rw [hln] at c0 hsh hmax
  obtain ⟨lv, x, ex⟩ := a.hs i t ht
  obtain ⟨g, rfl, hcap, hcells⟩ := hsh (by have := (List.getElem?_eq_some_iff.1 ht).1; omega)
  have hi : i < ln := by have := (List.getElem?_eq_some_iff.1 ht).1; omega
  have c1 : W2.cell? ⟨g, i, none⟩ = some (.pointer (some ⟨t.h, 0, none⟩)) := k2.cell (by simp) (hcells i t ht)
  have hi2 : decide (ln ≤ i) = false := by simp; omega
  have hi3 : decide ((ln : Int) ≤ (i : Int)) = false := by simp; omega
  have A := Lib.hid a
  have AR := Lib.hid (show Rst w B q zb st (L.map Rq.l) from ⟨v, _, L, a, rfl⟩)
  have C : Hid (∀ V, Kept W2 V [] → Calls Try.prog 49 #[.pointer (some ⟨t.h, 0, none⟩), .agg #[.int .i64 mx, .slice u n m, .int .i64 own]] V fun e w' => (∃ v', e = .returned (v') ∧ w'.ownsRow w.heap.size 55 2 v' (flScan (sees st ⟨mx, opl, own⟩) t.l).length (rcl (flScan (sees st ⟨mx, opl, own⟩) t.l))) ∧ Kept w w' []) := Lib.hid (fun V hV => by
    have kV := k2.trans hV (by simp)
    refine (rscan_any (a.rm.keep kV) (x.keep kV) mx own (.slice u n m) opl (hv.keep kV).rd hl).mono ?_
    rintro e w' ⟨v', rfl, ho, k⟩; exact ⟨⟨v', rfl, ownsRow_low ho kV.size⟩, kV.trans k (by simp)⟩)
  clear a k2 g1 g2 hy1 hsh hcells hv hln x ex ht
  go_enter Try.func22, Try.ntmps22
  go_wp2_with fail
  rw [← hW2, ← hz, ← hy]
  clear hW2 hz hy
  go_quiet (fail)
  go_wp2_with fail
  go_quiet (fail)
  go_wp2_with fail
  refine (C.out _ (by first | exact (Kept.refl W2 []).drewN _ | exact ((Kept.refl W2 []).drewN _).drewN _)).mono ?_
  rintro e w3 ⟨⟨v3, rfl, ho⟩, k3⟩
  have K3 := Lib.hid k3; have HO := Lib.hid ho
  clear k3 ho z0 z1 z2 y0 y1 y2 y3 c0 c1
  go_wp2
  go_ret2
  exact ⟨_, rfl, HO.out, AR.out.keep K3.out, Fy.ofKept K3.out _ _⟩

set_option maxHeartbeats 1000000 in
set_option maxRecDepth 100000 in
theorem rrun_get1 (a : Rsx w B q zb v zv st L) (ht : L[i]? = some t) (mx own : Int) (u : Option Addr) (n m : Nat) (opl : List Int) (hv : Vo w (.slice u n m) opl) (key : Int) (txt : ByteArray) (x0 : ByteArray) (hg : flGet st ⟨mx, opl, own⟩ key t.l = some x0) :
    Calls Try.prog 22 #[.pointer (some ⟨zb, 0, none⟩), .agg #[.int .i64 mx, .slice u n m, .int .i64 own], .agg #[.int .u8 5, .int .i64 i, .int .i64 key, .string txt]] w fun e w' => RPost w B q zb st 0 [(key, x0)] (L.map Rq.l) e w' := by
  obtain ⟨W2, hW2⟩ : ∃ W2, W2 = (w.alloc (.cells #[.int .i64 mx, .slice u n m, .int .i64 own] 50)).alloc (.cells #[.int .u8 5, .int .i64 i, .int .i64 key, .string txt] 57) := ⟨_, rfl⟩
  have k2 : Kept w W2 [] := by rw [hW2]; exact ((Kept.refl w []).alloc _).alloc _
  obtain ⟨z, hz⟩ : ∃ z, z = w.heap.size := ⟨_, rfl⟩
  have hy1 : (w.alloc (.cells #[.int .i64 mx, .slice u n m, .int .i64 own] 50)).heap.size = z + 1 := by rw [hz]; simp
  obtain ⟨y, hy⟩ : ∃ y, y = z + 1 := ⟨_, rfl⟩
  have g1 : W2.heap[z]? = some (.cells #[.int .i64 mx, .slice u n m, .int .i64 own] 50 (0, 0)) := by rw [hW2, hz]; exact ((Kept.refl _ []).alloc _).heap (by simp) (heap_alloc_new w _)
  have g2 : W2.heap[y]? = some (.cells #[.int .u8 5, .int .i64 i, .int .i64 key, .string txt] 57 (0, 0)) := by
    have := heap_alloc_new (w.alloc (.cells #[.int .i64 mx, .slice u n m, .int .i64 own] 50)) (.cells #[.int .u8 5, .int .i64 i, .int .i64 key, .string txt] 57)
    rw [hy1] at this
    rw [hW2, hy]; exact this
  have z0 : W2.cell? ⟨z, 0, none⟩ = some (.int .i64 mx) := by rw [cell_of_row _ _ 0 _ _ _ g1]; rfl
  have z1 : W2.cell? ⟨z, 1, none⟩ = some (.slice u n m) := by rw [cell_of_row _ _ 1 _ _ _ g1]; rfl
  have z2 : W2.cell? ⟨z, 2, none⟩ = some (.int .i64 own) := by rw [cell_of_row _ _ 2 _ _ _ g1]; rfl
  have y0 : W2.cell? ⟨y, 0, none⟩ = some (.int .u8 5) := by rw [cell_of_row _ _ 0 _ _ _ g2]; rfl
  have y1 : W2.cell? ⟨y, 1, none⟩ = some (.int .i64 i) := by rw [cell_of_row _ _ 1 _ _ _ g2]; rfl
  have y2 : W2.cell? ⟨y, 2, none⟩ = some (.int .i64 key) := by rw [cell_of_row _ _ 2 _ _ _ g2]; rfl
  have y3 : W2.cell? ⟨y, 3, none⟩ = some (.string txt) := by rw [cell_of_row _ _ 3 _ _ _ g2]; rfl
  have K2 := Lib.hid k2
  obtain ⟨a0, cap, rfl, hmax, hsh⟩ := a.zc.shape
  have c0 : W2.cell? ⟨zb, 0, none⟩ = some (.slice a0 L.length cap) := k2.cell (by simp) (by rw [cell_of_row _ _ 0 _ _ _ a.zc.hr]; rfl)
  obtain ⟨ln, hln⟩ : ∃ ln, L.length = ln := ⟨_, rfl⟩
  rw [hln] at c0 hsh hmax
  obtain ⟨lv, x, ex⟩ := a.hs i t ht
  obtain ⟨g, rfl, hcap, hcells⟩ := hsh (by have := (List.getElem?_eq_some_iff.1 ht).1; omega)
  have hi : i < ln := by have := (List.getElem?_eq_some_iff.1 ht).1; omega
  have c1 : W2.cell? ⟨g, i, none⟩ = some (.pointer (some ⟨t.h, 0, none⟩)) := k2.cell (by simp) (hcells i t ht)
  have hi2 : decide (ln ≤ i) = false := by simp; omega
  have hi3 : decide ((ln : Int) ≤ (i : Int)) = false := by simp; omega
  have A := Lib.hid a
  have AR := Lib.hid (show Rst w B q zb st (L.map Rq.l) from ⟨v, _, L, a, rfl⟩)
  have C : Hid (∀ V, Kept W2 V [] → Calls Try.prog 48 #[.pointer (some ⟨t.h, 0, none⟩), .agg #[.int .i64 mx, .slice u n m, .int .i64 own], .int .i64 key] V fun e w' => e = .returned (getV key (some x0)) ∧ Kept w w' []) := Lib.hid (fun V hV => by
    have kV := k2.trans hV (by simp)
    refine (rget_any (a.rm.keep kV) (x.keep kV) mx own (.slice u n m) opl (hv.keep kV).rd key).mono ?_
    rintro e w' ⟨rfl, k⟩; rw [hg]; exact ⟨rfl, kV.trans k (by simp)⟩)
  clear hg
  clear a k2 g1 g2 hy1 hsh hcells hv hln x ex ht
  go_enter Try.func22, Try.ntmps22
  go_wp2_with fail
  rw [← hW2, ← hz, ← hy]
  clear hW2 hz hy
  go_quiet (fail)
  go_wp2_with fail
  go_quiet (fail)
  go_wp2_with fail
  refine (C.out _ (by first | exact (Kept.refl W2 []).drewN _ | exact ((Kept.refl W2 []).drewN _).drewN _)).mono ?_
  rintro e w3 ⟨rfl, k3⟩
  have K3 := Lib.hid k3
  clear k3 z0 z1 z2 y0 y1 y2 y3 c0 c1
  simp only [getV]
  go_wp2
  go_ret2
  exact ⟨_, rfl, ownsRow_low (oneRow _ key x0) K3.out.size, AR.out.keep ((K3.out.alloc _).alloc _), Fy.ofKept ((K3.out.alloc _).alloc _) _ _⟩

set_option maxHeartbeats 1000000 in
set_option maxRecDepth 100000 in
theorem rrun_get0 (a : Rsx w B q zb v zv st L) (ht : L[i]? = some t) (mx own : Int) (u : Option Addr) (n m : Nat) (opl : List Int) (hv : Vo w (.slice u n m) opl) (key : Int) (txt : ByteArray) (hg : flGet st ⟨mx, opl, own⟩ key t.l = none) :
    Calls Try.prog 22 #[.pointer (some ⟨zb, 0, none⟩), .agg #[.int .i64 mx, .slice u n m, .int .i64 own], .agg #[.int .u8 5, .int .i64 i, .int .i64 key, .string txt]] w fun e w' => RPost w B q zb st 4 [] (L.map Rq.l) e w' := by
  obtain ⟨W2, hW2⟩ : ∃ W2, W2 = (w.alloc (.cells #[.int .i64 mx, .slice u n m, .int .i64 own] 50)).alloc (.cells #[.int .u8 5, .int .i64 i, .int .i64 key, .string txt] 57) := ⟨_, rfl⟩
  have k2 : Kept w W2 [] := by rw [hW2]; exact ((Kept.refl w []).alloc _).alloc _
  obtain ⟨z, hz⟩ : ∃ z, z = w.heap.size := ⟨_, rfl⟩
  have hy1 : (w.alloc (.cells #[.int .i64 mx, .slice u n m, .int .i64 own] 50)).heap.size = z + 1 := by rw [hz]; simp
  obtain ⟨y, hy⟩ : ∃ y, y = z + 1 := ⟨_, rfl⟩
  have g1 : W2.heap[z]? = some (.cells #[.int .i64 mx, .slice u n m, .int .i64 own] 50 (0, 0)) := by rw [hW2, hz]; exact ((Kept.refl _ []).alloc _).heap (by simp) (heap_alloc_new w _)
  have g2 : W2.heap[y]? = some (.cells #[.int .u8 5, .int .i64 i, .int .i64 key, .string txt] 57 (0, 0)) := by
    have := heap_alloc_new (w.alloc (.cells #[.int .i64 mx, .slice u n m, .int .i64 own] 50)) (.cells #[.int .u8 5, .int .i64 i, .int .i64 key, .string txt] 57)
    rw [hy1] at this
    rw [hW2, hy]; exact this
  have z0 : W2.cell? ⟨z, 0, none⟩ = some (.int .i64 mx) := by rw [cell_of_row _ _ 0 _ _ _ g1]; rfl
  have z1 : W2.cell? ⟨z, 1, none⟩ = some (.slice u n m) := by rw [cell_of_row _ _ 1 _ _ _ g1]; rfl
  have z2 : W2.cell? ⟨z, 2, none⟩ = some (.int .i64 own) := by rw [cell_of_row _ _ 2 _ _ _ g1]; rfl
  have y0 : W2.cell? ⟨y, 0, none⟩ = some (.int .u8 5) := by rw [cell_of_row _ _ 0 _ _ _ g2]; rfl
  have y1 : W2.cell? ⟨y, 1, none⟩ = some (.int .i64 i) := by rw [cell_of_row _ _ 1 _ _ _ g2]; rfl
  have y2 : W2.cell? ⟨y, 2, none⟩ = some (.int .i64 key) := by rw [cell_of_row _ _ 2 _ _ _ g2]; rfl
  have y3 : W2.cell? ⟨y, 3, none⟩ = some (.string txt) := by rw [cell_of_row _ _ 3 _ _ _ g2]; rfl
  have K2 := Lib.hid k2
  obtain ⟨a0, cap, rfl, hmax, hsh⟩ := a.zc.shape
  have c0 : W2.cell? ⟨zb, 0, none⟩ = some (.slice a0 L.length cap) := k2.cell (by simp) (by rw [cell_of_row _ _ 0 _ _ _ a.zc.hr]; rfl)
  obtain ⟨ln, hln⟩ : ∃ ln, L.length = ln := ⟨_, rfl⟩
  rw [hln] at c0 hsh hmax
  obtain ⟨lv, x, ex⟩ := a.hs i t ht
  obtain ⟨g, rfl, hcap, hcells⟩ := hsh (by have := (List.getElem?_eq_some_iff.1 ht).1; omega)
  have hi : i < ln := by have := (List.getElem?_eq_some_iff.1 ht).1; omega
  have c1 : W2.cell? ⟨g, i, none⟩ = some (.pointer (some ⟨t.h, 0, none⟩)) := k2.cell (by simp) (hcells i t ht)
  have hi2 : decide (ln ≤ i) = false := by simp; omega
  have hi3 : decide ((ln : Int) ≤ (i : Int)) = false := by simp; omega
  have A := Lib.hid a
  have AR := Lib.hid (show Rst w B q zb st (L.map Rq.l) from ⟨v, _, L, a, rfl⟩)
  have C : Hid (∀ V, Kept W2 V [] → Calls Try.prog 48 #[.pointer (some ⟨t.h, 0, none⟩), .agg #[.int .i64 mx, .slice u n m, .int .i64 own], .int .i64 key] V fun e w' => e = .returned (getV key (none)) ∧ Kept w w' []) := Lib.hid (fun V hV => by
    have kV := k2.trans hV (by simp)
    refine (rget_any (a.rm.keep kV) (x.keep kV) mx own (.slice u n m) opl (hv.keep kV).rd key).mono ?_
    rintro e w' ⟨rfl, k⟩; rw [hg]; exact ⟨rfl, kV.trans k (by simp)⟩)
  clear hg
  clear a k2 g1 g2 hy1 hsh hcells hv hln x ex ht
  go_enter Try.func22, Try.ntmps22
  go_wp2_with fail
  rw [← hW2, ← hz, ← hy]
  clear hW2 hz hy
  go_quiet (fail)
  go_wp2_with fail
  go_quiet (fail)
  go_wp2_with fail
  refine (C.out _ (by first | exact (Kept.refl W2 []).drewN _ | exact ((Kept.refl W2 []).drewN _).drewN _)).mono ?_
  rintro e w3 ⟨rfl, k3⟩
  have K3 := Lib.hid k3
  clear k3 z0 z1 z2 y0 y1 y2 y3 c0 c1
  simp only [getV]
  go_wp2
  go_ret2
  exact ⟨_, rfl, World.ownsRow_nil _ _ _ _, AR.out.keep (K3.out.alloc _), Fy.ofKept (K3.out.alloc _) _ _⟩
end Go.Proofs.Ytdjhcdgehmpikaa

namespace Go.Proofs.Ytdjhcdgehmpikaa
set_option linter.unusedVariables false
open Go.RowKit Go.Maps

/-- How many of a table go. -/
def dN (st : List Nat) (mx : Int) (opl : List Int) (l : Fl) : Nat := l.length - (flLeft st mx opl l).length
def vsum (st : List Nat) (mx : Int) (opl : List Int) (T : List Fl) : Nat := (T.map (dN st mx opl)).sum

theorem flLeft_le (st : List Nat) (mx : Int) (opl : List Int) (l : Fl) : (flLeft st mx opl l).length ≤ l.length := List.length_filter_le _ _
theorem vsum_take {st : List Nat} {mx : Int} {opl : List Int} {T : List Fl} {i : Nat} {l : Fl} (h : T[i]? = some l) : vsum st mx opl (T.take (i + 1)) = vsum st mx opl (T.take i) + dN st mx opl l := by
  rw [List.take_add_one, h]; simp [vsum]
theorem vsum_le {st : List Nat} {mx : Int} {opl : List Int} : ∀ {T : List Fl}, (∀ l ∈ T, l.length ≤ 1000) → vsum st mx opl T ≤ 1000 * T.length
  | [], _ => by simp [vsum]
  | a :: T, h => by
    have ih := vsum_le (st := st) (mx := mx) (opl := opl) (T := T) (fun l hl => h l (by simp [hl]))
    have h1 := h a (by simp)
    simp only [vsum, List.map_cons, List.sum_cons, List.length_cons] at ih ⊢
    have : dN st mx opl a ≤ a.length := by unfold dN; omega
    omega
theorem vsum_take_le {st : List Nat} {mx : Int} {opl : List Int} {T : List Fl} (h : ∀ l ∈ T, l.length ≤ 1000) (hT : T.length ≤ 1000) (i : Nat) : vsum st mx opl (T.take i) ≤ 1000000 := by
  have := vsum_le (st := st) (mx := mx) (opl := opl) (T := T.take i) (fun l hl => h l (List.mem_of_mem_take hl))
  have h2 : (T.take i).length ≤ T.length := by simp; omega
  have : 1000 * (T.take i).length ≤ 1000 * 1000 := Nat.mul_le_mul_left _ (by omega)
  omega

section code
variable {w w' : World} {B p b r : Nat} {v : Value} {st : List Nat} {L : List Hq} {i : Nat} {t : Hq} {l : Fl} {T : List Fl}

theorem vacuum_sm (a : Sm w B p b v st L) (ht : L[i]? = some t) (hr : R1 l t.tab) (mx : Int) (u : Option Addr) (n c : Nat) (opl : List Int) (hv : Vo w (.slice u n c) opl) (hl : l.length ≤ 1000) (hks : t.ks.length ≤ 1000000) :
    Calls Try.prog 51 #[.pointer (some ⟨t.h, 0, none⟩), .agg #[.int .i64 mx, .slice u n c]] w fun e w' => e = .returned (.int .i64 (dN st mx opl l)) ∧ ∃ K, Put w w' B p b v st L i t K (leftV st mx opl t.F) := by
  obtain ⟨mb, S, x, e0⟩ := a.sx ht
  have hrl : Rl l t.F := hr.rl
  have e1 : allLen t.F t.ks = l.length := len_eq hrl hr.st hr.mem
  refine (vacuum_any x mx u n c opl hv (by rw [e1]; omega) hks).mono ?_
  rintro e w' ⟨K, rfl, mb', S', x', f', o'⟩
  have hrl2 : Rl (flLeft st mx opl l) (leftV st mx opl t.F) := hrl.filter (fun r => !goneV st mx opl r)
  have hK : ∀ y ∈ flLeft st mx opl l, y.1 ∈ K := by
    rintro ⟨k, y⟩ hy
    by_cases hk : k ∈ K
    · exact hk
    · exfalso
      have h1 : y ∈ pick k (flLeft st mx opl l) := mem_pick.2 hy
      rw [← hrl2 k] at h1
      have h2 := x'.hp.rows k
      rw [x'.hp.nk k hk] at h2
      rcases h2.2 with ⟨_, h0⟩ | ⟨g', cap, cur, h2, _⟩
      · rw [List.eq_nil_of_length_eq_zero h0] at h1; cases h1
      · cases h2
  have e2 : allLen (leftV st mx opl t.F) K = (flLeft st mx opl l).length := len_eq hrl2 x'.hp.srt hK
  have := flLeft_le st mx opl l
  exact ⟨by rw [e1, e2, dN]; congr 2; omega, K, .of a ht e0 x' f' o'⟩

/-- The same heaps, from some on with the same versions. -/
def Vr1 (w wr : World) (B p b : Nat) (v : Value) (st : List Nat) (L : List Hq) (i : Nat) : Prop :=
  ∃ L', Sm wr B p b v st L' ∧ hps L' = hps L ∧ Stp (foots p b v L) (foots p b v L') w wr ∧ ∀ j, i ≤ j → L'[j]? = L[j]?

theorem Vr1.keep {wr : World} (a : Vr1 w wr B p b v st L i) (hk : Kept wr w' []) : Vr1 w w' B p b v st L i := by
  obtain ⟨L', s, hh, f, same⟩ := a
  exact ⟨L', s.keep hk, hh, ⟨f.1.trans (Fo.ofKept hk _), f.2⟩, same⟩

set_option maxHeartbeats 2000000 in
set_option maxRecDepth 100000 in
theorem relvac_any {sv : Value} (a : Sm w B p b v st L) (c : Sc w B r sv L) (mx : Int) (u : Option Addr) (n m : Nat) (opl : List Int) (hv : Vo w (.slice u n m) opl) (hR : RelT T (L.map Hq.tab)) (hl : ∀ l ∈ T, l.length ≤ 1000) (hks : ∀ t ∈ L, t.ks.length ≤ 1000000) (hT : T.length ≤ 1000) :
    Calls Try.prog 27 #[.pointer (some ⟨r, 0, none⟩), .agg #[.int .i64 mx, .slice u n m]] w fun e w' => e = .returned (.int .i64 (vsum st mx opl T)) ∧ Fo (foots p b v L) w w' := by
  obtain ⟨W1, hW1⟩ : ∃ W1, W1 = w.alloc (.cells #[.int .i64 mx, .slice u n m] 47) := ⟨_, rfl⟩
  have k1 : Kept w W1 [] := by rw [hW1]; exact (Kept.refl w []).alloc _
  obtain ⟨z, hz⟩ : ∃ z, z = w.heap.size := ⟨_, rfl⟩
  have g1 : W1.heap[z]? = some (.cells #[.int .i64 mx, .slice u n m] 47 (0, 0)) := by rw [hW1, hz]; exact heap_alloc_new w _
  have a1 := a.keep k1
  have c1 := c.stands a (Fo.ofKept k1 _)
  have CT := Lib.hid (tables_any c1)
  obtain ⟨a0, cap, rfl, hmax, hsh⟩ := c1.shape
  have hTL : T.length = L.length := by have := hR.1; simpa using this
  obtain ⟨ln, hln⟩ : ∃ ln, L.length = ln := ⟨_, rfl⟩
  rw [hln] at CT hsh hmax hTL
  have VL := Lib.hid (fun i => vsum_take_le (st := st) (mx := mx) (opl := opl) hl hT i)
  have K1 := Lib.hid k1; have A1 := Lib.hid a1; have C1 := Lib.hid c1; have HV := Lib.hid (hv.keep k1); have HRR := Lib.hid hR; have HL := Lib.hid hl; have HKS := Lib.hid hks; have G1 := Lib.hid g1; have HSH := Lib.hid hsh; have HTL := Lib.hid hTL; have HLN := Lib.hid hln
  have I0 : Hid (Vr1 W1 W1 B p b v st L 0) := Lib.hid ⟨L, a1, rfl, ⟨Fo.refl _ _, fun _ h => .inl h⟩, fun _ _ => rfl⟩
  have V0 : Hid (vsum st mx opl (T.take 0) = 0) := Lib.hid (by simp [vsum])
  clear a c k1 hv hR hl hks hT g1 a1 c1 hsh hTL hln
  go_enter Try.func27, Try.ntmps27
  go_wp2_with fail
  rw [← hW1, ← hz]
  clear hW1 hz
  refine CT.out.mono ?_
  rintro e w2 ⟨rfl, rfl⟩
  go_wp2
  go_loopw [5, 6, 9] (fun s5 _ s9 wr => ∃ i : Nat, s9 = .int .i64 i ∧ i ≤ ln ∧ s5 = .int .i64 (vsum st mx opl (T.take i)) ∧ Vr1 W1 wr B p b v st L i) (fun _ _ s9 _ => ln - (intOf s9).toNat)
  case atStart => exact ⟨0, rfl, Nat.zero_le _, by rw [V0.out]; rfl, I0.out⟩
  case round =>
    obtain ⟨i, rfl, hi, rfl, inv⟩ := hrel
    obtain ⟨A, hA⟩ : ∃ A, vsum st mx opl (T.take i) = A := ⟨_, rfl⟩
    have hAl : A ≤ 1000000 := by rw [← hA]; exact VL.out i
    have HA := Lib.hid hA
    have INV := Lib.hid inv
    rw [hA]
    clear hA inv
    by_cases hlt : i < ln
    · have x1 : (i : Int) < (ln : Int) := by omega
      obtain ⟨t, ht⟩ : ∃ t, L[i]? = some t := ⟨_, List.getElem?_eq_getElem (by have := HLN.out; omega)⟩
      obtain ⟨l, hl⟩ : ∃ l, T[i]? = some l := ⟨_, List.getElem?_eq_getElem (by have := HTL.out; omega)⟩
      obtain ⟨d, hd⟩ : ∃ d, dN st mx opl l = d := ⟨_, rfl⟩
      have st1 := vsum_take (st := st) (mx := mx) (opl := opl) hl
      rw [HA.out, hd] at st1
      have hAd : A + d ≤ 1000000 := by rw [← st1]; exact VL.out _
      obtain ⟨g, rfl, hcap, hc⟩ := HSH.out (by omega)
      have hg := hc i t ht
      have C : Hid (∀ V, Kept wr V [] → Calls Try.prog 51 #[.pointer (some ⟨t.h, 0, none⟩), .agg #[.int .i64 mx, .slice u n m]] V fun e w' => e = .returned (.int .i64 (d : Int)) ∧ Vr1 W1 w' B p b v st L (i + 1)) := Lib.hid (fun V hV => by
        obtain ⟨L', s, hh, f, same⟩ := INV.out
        have ht' : L'[i]? = some t := by rw [same i (Nat.le_refl _)]; exact ht
        have r1 := HRR.out.2 i l t.tab hl (by rw [List.getElem?_map, ht]; rfl)
        have hvr : Vo wr (.slice u n m) opl := (show Sto W1 B p r (sfoot p b r v _ L) st (L.map Hq.tab) from ⟨b, v, _, L, A1.out, C1.out, rfl, rfl⟩).vo (f.1.mono (fun k hk => .inl hk)) HV.out
        refine (vacuum_sm (s.keep hV) ht' r1 mx u n m opl (hvr.keep hV) (HL.out l (List.mem_of_getElem? hl)) (HKS.out t (List.mem_of_getElem? ht))).mono ?_
        rintro e w' ⟨rfl, K, pu⟩
        rw [hd]
        obtain ⟨O', s', f'⟩ := Put.after hV pu
        refine ⟨rfl, _, s', (hps_set ht').trans hh, ?_, fun j hj => ?_⟩
        · exact f.trans f'
        · rw [List.getElem?_set_ne (by omega)]; exact same j (by omega))
      have SS : Hid (∀ V j, Vr1 W1 V B p b v st L j → ((V.cell? ⟨r, 0, none⟩ = some (.slice (some ⟨g, 0, none⟩) ln cap) ∧ V.cell? ⟨g, i, none⟩ = some (.pointer (some ⟨t.h, 0, none⟩))) ∧ V.cell? ⟨z, 0, none⟩ = some (.int .i64 mx)) ∧ V.cell? ⟨z, 1, none⟩ = some (.slice u n m)) := Lib.hid (fun V i' hV => by
        obtain ⟨L', s, hh, f, same⟩ := hV
        have cV := C1.out.stands A1.out f.1
        have gz := f.1.heap (A1.out.notO G1.out (by decide)) G1.out
        obtain ⟨a0', cap', e1, _, hs2⟩ := cV.shape
        simp only [Value.slice.injEq] at e1
        obtain ⟨e1, _, _⟩ := e1
        subst e1
        obtain ⟨g', e2, _, hc2⟩ := hs2 (by have := HLN.out; omega)
        simp only [Option.some.injEq, Addr.mk.injEq] at e2
        obtain ⟨e2, _⟩ := e2
        subst e2
        exact ⟨⟨⟨by rw [← HLN.out]; exact cV.cell, hc2 i t ht⟩, by rw [cell_of_row _ _ 0 _ _ _ gz]; rfl⟩, by rw [cell_of_row _ _ 1 _ _ _ gz]; rfl⟩)
      have hw1 : wrap64 ((A : Int) + (d : Int)) = (A : Int) + d := by simp only [wrap64]; omega
      have hw2 : IntKind.i64.wrap ((A : Int) + (d : Int)) = (A : Int) + d := by rw [IntWalk.i64_in _ (by omega)]
      have k8 : Kept wr wr.drew [] := (Kept.refl wr []).drew
      have yy := SS.out wr.drew i (INV.out.keep k8)
      have S8 := Lib.hid st1
      clear hd hl ht hg hc hcap st1
      go_wp2_with fail
      go_region_held3 (fun V => ((V.cell? ⟨r, 0, none⟩ = some (.slice (some ⟨g, 0, none⟩) ln cap) ∧ V.cell? ⟨g, i, none⟩ = some (.pointer (some ⟨t.h, 0, none⟩))) ∧ V.cell? ⟨z, 0, none⟩ = some (.int .i64 mx)) ∧ V.cell? ⟨z, 1, none⟩ = some (.slice u n m)) (exact yy)
        (first
          | (go_at_call 51; refine (C.out _ ?_).mono ?_; exact k8; rintro e w8 ⟨rfl, q8⟩; have yy := SS.out w8 (i + 1) q8))
      have Q8 := Lib.hid q8
      clear q8 yy k8
      go_wp2
      go_roundw
      case rel => exact ⟨i + 1, by go_num, by omega, by rw [S8.out]; first | rfl | (simp only [Value.int.injEq, true_and]; omega), Q8.out⟩
      case measure => simp [intOf]; omega
    · obtain rfl : i = ln := by omega
      have x1 : ¬ (i : Int) < (i : Int) := by omega
      have HA2 : Hid (vsum st mx opl T = A) := Lib.hid (by rw [← HA.out, List.take_of_length_le (by have := HTL.out; omega)])
      go_wp2
      go_ret
      obtain ⟨L', s, hh, f, same⟩ := INV.out
      rw [HA2.out]
      exact ⟨rfl, (Fo.ofKept K1.out _).trans f.1⟩
end code

section doc
variable {w w' : World} {B q zb h : Nat} {v zv lv : Value} {st : List Nat} {l : Fl} {L : List Rq} {i : Nat} {t : Rq} {T : List Fl}

theorem Rst.len (a : Rst w B q zb st T) : ∃ L, T = L.map Rq.l ∧ ∃ v zv, Rsx w B q zb v zv st L := by
  obtain ⟨v, zv, L, a, e⟩ := a
  exact ⟨L, e, v, zv, a⟩

set_option maxHeartbeats 2000000 in
set_option maxRecDepth 100000 in
theorem rrelvac_any (a : Rst w B q zb st T) (mx : Int) (u : Option Addr) (n m : Nat) (opl : List Int) (hv : Vo w (.slice u n m) opl) (hl : ∀ l ∈ T, l.length ≤ 1000) (hT : T.length ≤ 1000) :
    Calls Try.prog 29 #[.pointer (some ⟨zb, 0, none⟩), .agg #[.int .i64 mx, .slice u n m]] w fun e w' => e = .returned (.int .i64 (vsum st mx opl T)) ∧ Fy B tysR w w' := by
  obtain ⟨W1, hW1⟩ : ∃ W1, W1 = w.alloc (.cells #[.int .i64 mx, .slice u n m] 47) := ⟨_, rfl⟩
  have k1 : Kept w W1 [] := by rw [hW1]; exact (Kept.refl w []).alloc _
  obtain ⟨z, hz⟩ : ∃ z, z = w.heap.size := ⟨_, rfl⟩
  have g1 : W1.heap[z]? = some (.cells #[.int .i64 mx, .slice u n m] 47 (0, 0)) := by rw [hW1, hz]; exact heap_alloc_new w _
  obtain ⟨ln, hln⟩ : ∃ ln, T.length = ln := ⟨_, rfl⟩
  have VL := Lib.hid (fun i => vsum_take_le (st := st) (mx := mx) (opl := opl) hl hT i)
  have K1 := Lib.hid k1; have HV := Lib.hid (hv.keep k1); have HL := Lib.hid hl; have G1 := Lib.hid g1; have HLN := Lib.hid hln
  have I0 : Hid (∃ T', Rst W1 B q zb st T' ∧ T'.length = ln ∧ Fy B tysR W1 W1 ∧ ∀ j, 0 ≤ j → T'[j]? = T[j]?) := Lib.hid ⟨T, a.keep k1, hln, Fy.refl _ _ _, fun _ _ => rfl⟩
  have V0 : Hid (vsum st mx opl (T.take 0) = 0) := Lib.hid (by simp [vsum])
  have hln1 : ln ≤ 1000 := by omega
  clear a k1 hv hl hT g1 hln
  go_enter Try.func29, Try.ntmps29
  go_wp2_with fail
  rw [← hW1, ← hz]
  clear hW1 hz
  go_loopw [5, 6] (fun s5 s6 wr => ∃ i : Nat, s6 = .int .i64 i ∧ i ≤ ln ∧ s5 = .int .i64 (vsum st mx opl (T.take i)) ∧ ∃ T', Rst wr B q zb st T' ∧ T'.length = ln ∧ Fy B tysR W1 wr ∧ ∀ j, i ≤ j → T'[j]? = T[j]?) (fun _ s6 _ => ln - (intOf s6).toNat)
  case atStart => exact ⟨0, rfl, Nat.zero_le _, by rw [V0.out]; rfl, I0.out⟩
  case round =>
    obtain ⟨i, rfl, hi, rfl, T', ⟨v, zv, L, a, e⟩, hTl, fy, same⟩ := hrel
    obtain ⟨A, hA⟩ : ∃ A, vsum st mx opl (T.take i) = A := ⟨_, rfl⟩
    have hAl : A ≤ 1000000 := by rw [← hA]; exact VL.out i
    have HA := Lib.hid hA
    rw [hA]
    obtain ⟨a0, cap, rfl, hmax, hsh⟩ := a.zc.shape
    have hLl : L.length = ln := by rw [← hTl, e]; simp
    have c0 : wr.cell? ⟨zb, 0, none⟩ = some (.slice a0 ln cap) := by rw [← hLl, cell_of_row _ _ 0 _ _ _ a.zc.hr]; rfl
    have AA := Lib.hid a; have FY := Lib.hid fy; have SAME := Lib.hid same; have HE := Lib.hid e; have HLL := Lib.hid hLl; have HSH := Lib.hid hsh
    clear hA a fy same e hTl hsh hLl
    by_cases hlt : i < ln
    · have x1 : (i : Int) < (ln : Int) := by omega
      obtain ⟨t, ht⟩ : ∃ t, L[i]? = some t := ⟨_, List.getElem?_eq_getElem (by have := HLL.out; omega)⟩
      have hl : T[i]? = some t.l := by rw [← SAME.out i (Nat.le_refl _), HE.out, List.getElem?_map, ht]; rfl
      obtain ⟨d, hd⟩ : ∃ d, dN st mx opl t.l = d := ⟨_, rfl⟩
      have st1 := vsum_take (st := st) (mx := mx) (opl := opl) hl
      rw [HA.out, hd] at st1
      have hAd : A + d ≤ 1000000 := by rw [← st1]; exact VL.out _
      obtain ⟨g, rfl, hcap, hc⟩ := HSH.out (by have := HLL.out; omega)
      have hg := hc i t ht
      obtain ⟨lv, x, ex⟩ := AA.out.hs i t ht
      have gz := FY.out.heap G1.out (by decide)
      have hvr : Vo wr (.slice u n m) opl := FY.out.row HV.out (by decide)
      have SS : Hid (∀ V, Fo (rfoot t.h lv) wr V → ((V.cell? ⟨zb, 0, none⟩ = some (.slice (some ⟨g, 0, none⟩) ln cap) ∧ V.cell? ⟨g, i, none⟩ = some (.pointer (some ⟨t.h, 0, none⟩))) ∧ V.cell? ⟨z, 0, none⟩ = some (.int .i64 mx)) ∧ V.cell? ⟨z, 1, none⟩ = some (.slice u n m)) := Lib.hid (fun V hV => by
        have hr := x.heap hV AA.out.zc.hr (by decide)
        have zc' : Zc V B zb _ L := ⟨hr, x.row hV AA.out.zc.hv (by decide), AA.out.zc.br⟩
        have gz' := x.heap hV gz (by decide)
        obtain ⟨a0', cap', e1, _, hs2⟩ := zc'.shape
        simp only [Value.slice.injEq] at e1
        obtain ⟨e1, _, _⟩ := e1
        subst e1
        obtain ⟨g', e2, _, hc2⟩ := hs2 (by have := HLL.out; omega)
        simp only [Option.some.injEq, Addr.mk.injEq] at e2
        obtain ⟨e2, _⟩ := e2
        subst e2
        exact ⟨⟨⟨by rw [← HLL.out, cell_of_row _ _ 0 _ _ _ hr]; rfl, hc2 i t ht⟩, by rw [cell_of_row _ _ 0 _ _ _ gz']; rfl⟩, by rw [cell_of_row _ _ 1 _ _ _ gz']; rfl⟩)
      have C : Hid (∀ V, Kept wr V [] → Calls Try.prog 54 #[.pointer (some ⟨t.h, 0, none⟩), .agg #[.int .i64 mx, .slice u n m]] V fun e w' => e = .returned (.int .i64 (d : Int)) ∧ (∃ T', Rst w' B q zb st T' ∧ T'.length = ln ∧ Fy B tysR W1 w' ∧ ∀ j, i + 1 ≤ j → T'[j]? = T[j]?) ∧ Fo (rfoot t.h lv) wr w') := Lib.hid (fun V hV => by
        refine (rvac_any (AA.out.rm.keep hV) (x.keep hV) mx (.slice u n m) opl (hvr.keep hV).rd (HL.out _ (List.mem_of_getElem? hl))).mono ?_
        rintro e w' ⟨rfl, lv', x', f'⟩
        have f2 := Stp.after hV f'
        obtain ⟨r', y'⟩ := AA.out.put ht x ex x' f2
        have le := flLeft_le st mx opl t.l
        refine ⟨by rw [← hd, dN]; congr 2; omega, ⟨_, r', ?_, FY.out.trans y', fun j hj => ?_⟩, f2.1⟩
        · rw [List.length_set, List.length_map]; exact HLL.out
        · rw [List.getElem?_set_ne (by omega), ← HE.out]; exact SAME.out j (by omega))
      have hw1 : wrap64 ((A : Int) + (d : Int)) = (A : Int) + d := by simp only [wrap64]; omega
      have hw2 : IntKind.i64.wrap ((A : Int) + (d : Int)) = (A : Int) + d := by rw [IntWalk.i64_in _ (by omega)]
      have k8 : Kept wr wr.drew [] := (Kept.refl wr []).drew
      have yy := SS.out wr.drew (Fo.ofKept k8 _)
      have S8 := Lib.hid st1
      clear hd hl ht hg hc hcap st1 x ex gz hvr
      go_wp2_with fail
      go_region_held3 (fun V => ((V.cell? ⟨zb, 0, none⟩ = some (.slice (some ⟨g, 0, none⟩) ln cap) ∧ V.cell? ⟨g, i, none⟩ = some (.pointer (some ⟨t.h, 0, none⟩))) ∧ V.cell? ⟨z, 0, none⟩ = some (.int .i64 mx)) ∧ V.cell? ⟨z, 1, none⟩ = some (.slice u n m)) (exact yy)
        (first
          | (go_at_call 54; refine (C.out _ ?_).mono ?_; exact k8; rintro e w8 ⟨rfl, q8, f8⟩; have yy := SS.out w8 f8))
      have Q8 := Lib.hid q8
      clear q8 yy k8 f8 c0
      go_wp2
      go_roundw
      case rel => exact ⟨i + 1, by go_num, by omega, by rw [S8.out]; first | rfl | (simp only [Value.int.injEq, true_and]; omega), Q8.out⟩
      case measure => simp [intOf]; omega
    · obtain rfl : i = ln := by omega
      have x1 : ¬ (i : Int) < (i : Int) := by omega
      have HA2 : Hid (vsum st mx opl T = A) := Lib.hid (by rw [← HA.out, List.take_of_length_le (by have := HLN.out; omega)])
      go_wp2
      go_ret
      rw [HA2.out]
      exact ⟨rfl, (Fy.ofKept K1.out _ _).trans FY.out⟩
end doc
end Go.Proofs.Ytdjhcdgehmpikaa

namespace Go.Proofs.Ytdjhcdgehmpikaa
set_option linter.unusedVariables false
open Go.RowKit Go.Maps

def RlT (T : List Fl) (TT : List Tab) : Prop := T.length = TT.length ∧ ∀ (i : Nat) l t, T[i]? = some l → TT[i]? = some t → Rl l t.F

theorem RelT.rl {T : List Fl} {TT : List Tab} (h : RelT T TT) : RlT T TT := ⟨h.1, fun i l t h1 h2 => (h.2 i l t h1 h2).rl⟩

theorem RlT.full {w : World} {B p r : Nat} {O : Nat → Prop} {st : List Nat} {T : List Fl} {TT : List Tab} (h : RlT T TT) (s : Sto w B p r O st TT) : RelT T TT :=
  ⟨h.1, fun i l t h1 h2 => ⟨h.2 i l t h1 h2, (s.facts h2).1, (s.facts h2).2⟩⟩

theorem RlT.set {T : List Fl} {TT : List Tab} (h : RlT T TT) {i : Nat} {l' : Fl} {t' : Tab} (hr : Rl l' t'.F) : RlT (T.set i l') (TT.set i t') := by
  refine ⟨by simp [h.1], fun j l t h1 h2 => ?_⟩
  by_cases e : i = j
  · subst e
    have hl := (List.getElem?_eq_some_iff.1 h1).1
    have hm := (List.getElem?_eq_some_iff.1 h2).1
    simp only [List.length_set] at hl hm
    rw [List.getElem?_set_self hl] at h1
    rw [List.getElem?_set_self hm] at h2
    simp only [Option.some.injEq] at h1 h2
    subst h1; subst h2; exact hr
  · rw [List.getElem?_set_ne e] at h1 h2
    exact h.2 j l t h1 h2

theorem FewL.mono {N M : Nat} {T : List Fl} (h : FewL N T) (hm : N ≤ M) : FewL M T := fun l hl => Nat.le_trans (h l hl) hm

theorem flPut_len (e k : Int) (r : Vr) (l : Fl) : (flPut e k r l).length ≤ l.length + 1 := by
  unfold flPut
  split
  · simp
  · omega
theorem flDels_len (st : List Nat) (V : Vw) : ∀ (R : List (Int × ByteArray)) (l : Fl), (R.foldl (fun l y => (flDel st V y.1 l).2) l).length = l.length
  | [], l => rfl
  | y :: R, l => by rw [List.foldl_cons, flDels_len st V R, flDel_length]
theorem flTru_len (st : List Nat) (V : Vw) (l : Fl) : (flTru st V l).length = l.length := by
  unfold flTru
  split
  · exact flDels_len st V _ l
  · rfl

variable {w w' : World} {B q zb : Nat} {st : List Nat} {T : List Fl} {TT : List Tab}

/-- What the document's statement leaves, told by the code's tables. -/
def RRun (w : World) (B q zb : Nat) (st : List Nat) (N : Nat) (E : Int) (R : List (Int × ByteArray)) (TT : List Tab) (e : Ending) (w' : World) : Prop :=
  ∃ T', RPost w B q zb st E R T' e w' ∧ RlT T' TT ∧ FewL (N + 1) T'

theorem rrun_any {N : Nat} (a : Rst w B q zb st T) (hR : RelT T TT) (hN : FewL N T) (hN2 : N ≤ 900) (mx own : Int) (u : Option Addr) (n m : Nat) (opl : List Int) (hv : Vo w (.slice u n m) opl) (kind : Nat) (tb key : Int) (txt : ByteArray) :
    Calls Try.prog 22 #[.pointer (some ⟨zb, 0, none⟩), .agg #[.int .i64 mx, .slice u n m, .int .i64 own], .agg #[.int .u8 kind, .int .i64 tb, .int .i64 key, .string txt]] w fun e w' =>
      RRun w B q zb st N (runE st ⟨mx, opl, own⟩ kind tb key txt TT) (runR st ⟨mx, opl, own⟩ kind tb key txt TT) (runT st ⟨mx, opl, own⟩ kind tb key txt TT) e w' := by
  obtain ⟨v, zv, L, a, rfl⟩ := a
  have same : RlT (L.map Rq.l) TT ∧ FewL (N + 1) (L.map Rq.l) := ⟨hR.rl, hN.mono (by omega)⟩
  -- what a statement does that is refused
  have refused : runE st ⟨mx, opl, own⟩ kind tb key txt TT = 1 → runR st ⟨mx, opl, own⟩ kind tb key txt TT = [] → runT st ⟨mx, opl, own⟩ kind tb key txt TT = TT → ∀ e w', RPost w B q zb st 1 [] (L.map Rq.l) e w' →
      RRun w B q zb st N (runE st ⟨mx, opl, own⟩ kind tb key txt TT) (runR st ⟨mx, opl, own⟩ kind tb key txt TT) (runT st ⟨mx, opl, own⟩ kind tb key txt TT) e w' := by
    intro h1 h2 h3 e w' h
    rw [h1, h2, h3]
    exact ⟨_, h, same.1, same.2⟩
  have hlen : (L.map Rq.l).length = TT.length := hR.1
  rw [List.length_map] at hlen
  by_cases h0 : tb < 0
  · have e1 : runE st ⟨mx, opl, own⟩ kind tb key txt TT = 1 := by rw [runE, if_pos h0]
    have e2 : runR st ⟨mx, opl, own⟩ kind tb key txt TT = [] := by rw [runR, if_pos h0]
    have e3 : runT st ⟨mx, opl, own⟩ kind tb key txt TT = TT := by rw [runT, if_pos h0]
    have hc : kind = 0 ∨ 6 < kind ∨ (1 ≤ kind ∧ kind ≤ 6) := by omega
    rcases hc with rfl | hk | hk
    · exact (rrun_k0 a mx own u n m opl hv tb key txt).mono (refused e1 e2 e3)
    · exact (rrun_k7 a mx own u n m opl hv kind tb hk key txt).mono (refused e1 e2 e3)
    · exact (rrun_neg a mx own u n m opl hv kind tb hk h0 key txt).mono (refused e1 e2 e3)
  · obtain ⟨i, rfl⟩ : ∃ i : Nat, tb = i := ⟨tb.toNat, by omega⟩
    have E : runE st ⟨mx, opl, own⟩ kind i key txt TT = (match TT[i]? with | some t => (runH st ⟨mx, opl, own⟩ kind key txt t).e | none => 1) := by rw [runE, if_neg h0, Int.toNat_natCast]; rfl
    have RR : runR st ⟨mx, opl, own⟩ kind i key txt TT = (match TT[i]? with | some t => (runH st ⟨mx, opl, own⟩ kind key txt t).rows | none => []) := by rw [runR, if_neg h0, Int.toNat_natCast]; rfl
    have TN : runT st ⟨mx, opl, own⟩ kind i key txt TT = (match TT[i]? with | some t => TT.set i (runH st ⟨mx, opl, own⟩ kind key txt t).tab | none => TT) := by rw [runT, if_neg h0, Int.toNat_natCast]; rfl
    by_cases hi : i < L.length
    · obtain ⟨t, ht⟩ : ∃ t, L[i]? = some t := ⟨_, List.getElem?_eq_getElem hi⟩
      obtain ⟨tt, htt⟩ : ∃ tt, TT[i]? = some tt := ⟨_, List.getElem?_eq_getElem (by omega)⟩
      rw [htt] at E RR TN
      simp only at E RR TN
      have r1 := hR.2 i t.l tt (by rw [List.getElem?_map, ht]; rfl) htt
      have hl : t.l.length ≤ N := hN t.l (List.mem_map.2 ⟨t, List.mem_of_getElem? ht, rfl⟩)
      have bad : runH st ⟨mx, opl, own⟩ kind key txt tt = ⟨1, [], tt⟩ → ∀ e w', RPost w B q zb st 1 [] (L.map Rq.l) e w' →
          RRun w B q zb st N (runE st ⟨mx, opl, own⟩ kind i key txt TT) (runR st ⟨mx, opl, own⟩ kind i key txt TT) (runT st ⟨mx, opl, own⟩ kind i key txt TT) e w' := by
        intro h
        rw [h] at E RR TN
        exact refused E RR (by rw [TN]; exact set_same htt)
      have good : ∀ E' R' (t' : Tab) l', runH st ⟨mx, opl, own⟩ kind key txt tt = ⟨E', R', t'⟩ → Rl l' t'.F → l'.length ≤ N + 1 → ∀ e w', RPost w B q zb st E' R' ((L.map Rq.l).set i l') e w' →
          RRun w B q zb st N (runE st ⟨mx, opl, own⟩ kind i key txt TT) (runR st ⟨mx, opl, own⟩ kind i key txt TT) (runT st ⟨mx, opl, own⟩ kind i key txt TT) e w' := by
        intro E' R' t' l' h hr hn e w' hp
        rw [h] at E RR TN
        rw [E, RR, TN]
        exact ⟨_, hp, hR.rl.set hr, hN.set hn⟩
      have still : ∀ E' R', runH st ⟨mx, opl, own⟩ kind key txt tt = ⟨E', R', tt⟩ → ∀ e w', RPost w B q zb st E' R' (L.map Rq.l) e w' →
          RRun w B q zb st N (runE st ⟨mx, opl, own⟩ kind i key txt TT) (runR st ⟨mx, opl, own⟩ kind i key txt TT) (runT st ⟨mx, opl, own⟩ kind i key txt TT) e w' := by
        intro E' R' h e w' hp
        rw [h] at E RR TN
        rw [E, RR, TN]
        exact ⟨_, hp, by rw [set_same htt]; exact same.1, same.2⟩
      have hc : kind = 0 ∨ 6 < kind ∨ ((kind = 1 ∨ kind = 2) ∧ 40 < txt.size) ∨ (kind = 1 ∧ txt.size ≤ 40) ∨ (kind = 2 ∧ txt.size ≤ 40) ∨ kind = 3 ∨ kind = 4 ∨ kind = 5 ∨ kind = 6 := by omega
      rcases hc with rfl | hk | ⟨hk, hx⟩ | ⟨rfl, hx⟩ | ⟨rfl, hx⟩ | rfl | rfl | rfl | rfl
      · exact (rrun_k0 a mx own u n m opl hv i key txt).mono (bad rfl)
      · refine (rrun_k7 a mx own u n m opl hv kind i hk key txt).mono (bad ?_)
        rw [runH, if_neg (by omega), if_neg (by omega), if_neg (by omega), if_neg (by omega), if_neg (by omega)]
      · refine (rrun_txt a mx own u n m opl hv kind i (by omega) hi key txt hx).mono (bad ?_)
        rw [runH, if_pos hk, putH, if_pos hx]
      · refine (rrun_ins a ht mx own u n m opl hv key txt (by omega) hx).mono (good _ _ ⟨putK (insE st ⟨mx, opl, own⟩ (tt.F key)) key tt.ks, putF (insE st ⟨mx, opl, own⟩ (tt.F key)) key ⟨txt, own, 0⟩ tt.F⟩ _ ?_ ?_ ?_)
        · rw [flInsE_eq r1.rl, runH, if_pos (by omega), putH, if_neg (by omega), if_pos rfl]
        · rw [flInsE_eq r1.rl]; exact flPut_rl r1.rl _ _ _
        · have := flPut_len (flInsE st ⟨mx, opl, own⟩ key t.l) key ⟨txt, own, 0⟩ t.l; omega
      · obtain ⟨d1, d2⟩ := flDel_rl r1.rl st ⟨mx, opl, own⟩ key
        refine (rrun_upd a ht mx own u n m opl hv key txt (by omega) hx).mono (good _ _ ⟨putK (delL st ⟨mx, opl, own⟩ (tt.F key)).1 key tt.ks, putF (delL st ⟨mx, opl, own⟩ (tt.F key)).1 key ⟨txt, own, 0⟩ (updF tt.F key (delL st ⟨mx, opl, own⟩ (tt.F key)).2)⟩ _ ?_ ?_ ?_)
        · rw [d1, runH, if_pos (by omega), putH, if_neg (by omega), if_neg (by omega)]
        · rw [d1]; exact flPut_rl d2 _ _ _
        · have := flPut_len (flDel st ⟨mx, opl, own⟩ key t.l).1 key ⟨txt, own, 0⟩ (flDel st ⟨mx, opl, own⟩ key t.l).2
          rw [flDel_length] at this; omega
      · obtain ⟨d1, d2⟩ := flDel_rl r1.rl st ⟨mx, opl, own⟩ key
        refine (rrun_del a ht mx own u n m opl hv key txt (by omega)).mono (good _ _ ⟨tt.ks, updF tt.F key (delL st ⟨mx, opl, own⟩ (tt.F key)).2⟩ _ ?_ d2 ?_)
        · rw [d1, runH, if_neg (by omega), if_pos rfl]
        · rw [flDel_length]; omega
      · refine (rrun_tru a ht mx own u n m opl hv key txt (by omega)).mono (good _ _ ⟨tt.ks, truF st ⟨mx, opl, own⟩ tt.ks tt.F⟩ _ ?_ (flTru_rl r1.rl r1.st r1.mem st _) ?_)
        · have e4 : flTruR st ⟨mx, opl, own⟩ t.l = truR st ⟨mx, opl, own⟩ tt.ks tt.F := by rw [flTruR, truR, flTruE_eq r1.rl r1.mem, flScan_eq r1.rl r1.st r1.mem]
          rw [flTruE_eq r1.rl r1.mem, e4]; rfl
        · rw [flTru_len]; omega
      · have hg := flGet_rl r1.rl st ⟨mx, opl, own⟩ key tt rfl
        have hh : runH st ⟨mx, opl, own⟩ 5 key txt tt = getH st ⟨mx, opl, own⟩ key tt := by rw [runH, if_neg (by omega), if_neg (by omega), if_neg (by omega), if_pos rfl]
        rw [hg] at hh
        cases h1 : flGet st ⟨mx, opl, own⟩ key t.l with
        | none =>
          rw [h1] at hh
          exact (rrun_get0 a ht mx own u n m opl hv key txt h1).mono (still _ _ hh)
        | some x0 =>
          rw [h1] at hh
          exact (rrun_get1 a ht mx own u n m opl hv key txt x0 h1).mono (still _ _ hh)
      · refine (rrun_scan a ht mx own u n m opl hv key txt (by omega)).mono (still _ _ ?_)
        rw [flScan_eq r1.rl r1.st r1.mem]; rfl
    · have htt : TT[i]? = Option.none := List.getElem?_eq_none (by omega)
      rw [htt] at E RR TN
      simp only at E RR TN
      have hc : kind = 0 ∨ 6 < kind ∨ (1 ≤ kind ∧ kind ≤ 6) := by omega
      rcases hc with rfl | hk | hk
      · exact (rrun_k0 a mx own u n m opl hv i key txt).mono (refused E RR TN)
      · exact (rrun_k7 a mx own u n m opl hv kind i hk key txt).mono (refused E RR TN)
      · exact (rrun_out a mx own u n m opl hv kind i hk (by omega) key txt).mono (refused E RR TN)
end Go.Proofs.Ytdjhcdgehmpikaa

namespace Go.Proofs.Ytdjhcdgehmpikaa
set_option linter.unusedVariables false
open Go.RowKit Go.Maps

theorem Try.infoVw : (Try.prog.info? 50).map (fun i => (i.zero, i.size, i.bytes)) = some (some (.agg #[.int .i64 0, .slice none 0 0, .int .i64 0]), 3, 40) := by kernel_rfl

structure Vd where
  mx : Int
  u : Option Addr
  n : Nat
  c : Nat
  opl : List Int
  own : Int

def vdc (x : Vd) : List Value := [.int .i64 x.mx, .slice x.u x.n x.c, .int .i64 x.own]
def vdl (l : List Vd) : List Value := l.flatMap vdc
theorem vdl_append (l m : List Vd) : vdl (l ++ m) = vdl l ++ vdl m := by simp [vdl]

structure Vws (w : World) (B : Nat) (val : Value) (l : List Vd) : Prop where
  row : w.ownsRow B 50 3 val l.length (vdl l)
  vo : ∀ x ∈ l, Vo w (.slice x.u x.n x.c) x.opl
  own : ∀ x ∈ l, (Lit.int .i64 x.own).wf = true

variable {w w' : World} {B p r q zb : Nat} {O : Nat → Prop} {st : List Nat} {T : List Fl} {TT : List Tab} {val : Value} {l : List Vd}

theorem Vws.keep (a : Vws w B val l) (hk : Kept w w' []) : Vws w' B val l := ⟨ownsRow_fr a.row (Fr.ofKept hk 0 []) (by simp), fun x hx => (a.vo x hx).keep hk, a.own⟩
theorem Vws.sto (a : Vws w B val l) (s : Sto w B p r O st TT) (hf : Fo O w w') : Vws w' B val l := ⟨s.row hf a.row (by decide), fun x hx => s.vo hf (a.vo x hx), a.own⟩
theorem Vws.fy (a : Vws w B val l) {C : Nat} (hf : Fy C tysR w w') : Vws w' B val l := ⟨hf.row a.row (by decide), fun x hx => hf.row (a.vo x hx) (by decide), a.own⟩

theorem vdl_cells {base g n c k : Nat} {ty : TypeId} {l : List Vd} {o : Vd} (ho : w.ownsRow base ty 3 (.slice (some ⟨g, 0, none⟩) n c) l.length (vdl l)) (hr : l[k]? = some o) :
    w.cell? ⟨g, k * 3, none⟩ = some (.int .i64 o.mx) ∧ w.cell? ⟨g, k * 3 + 1, none⟩ = some (.slice o.u o.n o.c) ∧ w.cell? ⟨g, k * 3 + 2, none⟩ = some (.int .i64 o.own) := by
  have get : ∀ (l : List Vd) (k : Nat), l[k]? = some o → (vdl l)[k * 3]? = some (.int .i64 o.mx) ∧ (vdl l)[k * 3 + 1]? = some (.slice o.u o.n o.c) ∧ (vdl l)[k * 3 + 2]? = some (.int .i64 o.own) := by
    intro l
    induction l with
    | nil => intro k h; simp at h
    | cons x l ih =>
      intro k h
      cases k with
      | zero => simp only [List.getElem?_cons_zero, Option.some.injEq] at h; subst h; exact ⟨rfl, rfl, rfl⟩
      | succ k =>
        obtain ⟨h1, h2, h3⟩ := ih k (by simpa using h)
        have e : vdl (x :: l) = .int .i64 x.mx :: .slice x.u x.n x.c :: .int .i64 x.own :: vdl l := rfl
        rw [e]
        refine ⟨?_, ?_, ?_⟩
        · rw [show (k + 1) * 3 = k * 3 + 1 + 1 + 1 by omega]; simpa using h1
        · rw [show (k + 1) * 3 + 1 = (k * 3 + 1) + 1 + 1 + 1 by omega]; simpa using h2
        · rw [show (k + 1) * 3 + 2 = (k * 3 + 2) + 1 + 1 + 1 by omega]; simpa using h3
  obtain ⟨h1, h2, h3⟩ := get l k hr
  have c1 := World.ownsRow.cells ho (g := g) rfl _ _ h1
  have c2 := World.ownsRow.cells ho (g := g) rfl _ _ h2
  have c3 := World.ownsRow.cells ho (g := g) rfl _ _ h3
  simp only [Addr.add_lit, Nat.zero_add] at c1 c2 c3
  exact ⟨c1, c2, c3⟩

theorem Vws.at_ {k : Nat} {x : Vd} (a : Vws w B val l) (h : l[k]? = some x) : ∃ g c, val = .slice (some ⟨g, 0, none⟩) l.length c ∧ l.length ≤ c ∧
    w.cell? ⟨g, k * 3, none⟩ = some (.int .i64 x.mx) ∧ w.cell? ⟨g, k * 3 + 1, none⟩ = some (.slice x.u x.n x.c) ∧ w.cell? ⟨g, k * 3 + 2, none⟩ = some (.int .i64 x.own) := by
  have hl := (List.getElem?_eq_some_iff.1 h).1
  obtain ⟨a0, c, rfl⟩ := ownsRow_shape a.row
  obtain ⟨g, rfl, hc, _⟩ := own_at a.row (by omega)
  exact ⟨g, c, rfl, hc, vdl_cells a.row h⟩

theorem Vws.blk (a : Vws w B val l) {k : Nat} (hk : val.ownBlock = some k) : B ≤ k ∧ ∃ cur, w.heap[k]? = some (.cells cur 50 (0, 0)) := by
  refine ⟨(World.ownsRow.lt a.row k hk).1, ?_⟩
  rcases a.row.2 with ⟨h2, _⟩ | ⟨g', cap, cur, h2, _, hh, _⟩
  · rw [h2] at hk; cases hk
  · rw [h2] at hk
    simp only [Value.ownBlock, Option.some.injEq] at hk
    subst hk
    exact ⟨cur, hh⟩

theorem Rst.ty {P : Nat → Prop} (a : Rst w B q zb st T) (hf : Fo P w w') (hp : ∀ k cs t fz, w.heap[k]? = some (.cells cs t fz) → t ∈ tysR → ¬ P k) : Rst w' B q zb st T := by
  obtain ⟨v, zv, L, a, e⟩ := a
  exact ⟨v, zv, L, a.ty hf hp, e⟩

theorem src_vd {W : World} {z : Nat} (x : Vd) (hz : W.heap.size = z) :
    Src Try.prog 3 35 (.slice (some ⟨z, 0, none⟩) 1 1) 1 (vdc x) (W.alloc (.cells #[.int .i64 x.mx, .slice x.u x.n x.c, .int .i64 x.own] 50)) := by
  subst hz
  have hb := heap_alloc_new W (.cells #[.int .i64 x.mx, .slice x.u x.n x.c, .int .i64 x.own] 50)
  exact Src.ofSlice _ Try.underlying35 ⟨W.heap.size, 0, none⟩ 1 1 _ rfl (fun j u hu => by
    rw [Addr.add_lit, cell_of_row _ _ _ _ _ _ hb, Nat.zero_add]
    simpa [vdc] using hu) (by intro u hu; simp [vdc] at hu; rcases hu with rfl | rfl | rfl <;> rfl)

/-- One view more. -/
theorem Vws.more {C : Nat} {w5 : World} {v5 : Value} (a : Vws w B val l) (s : Sto w B p r O st TT) (z : Rst w B q zb st T) (hb : Below C w w) (x : Vd) (hC : C ≤ B) (hv : Vo w (.slice x.u x.n x.c) x.opl) (hx : (Lit.int .i64 x.own).wf = true)
    (ho : w5.ownsRow B 50 3 v5 (l.length + 1) (vdl l ++ vdc x)) (hg : w.grownBy w5 val.ownBlock) :
    Vws w5 B v5 (l ++ [x]) ∧ Sto w5 B p r O st TT ∧ Rst w5 B q zb st T ∧ Below C w w5 := by
  have f : Fo (fun k => val.ownBlock = some k) w w5 := (Fo.refl _ w).grown hg (fun k e => .inl e)
  have s5 : Sto w5 B p r O st TT := s.fo f (fun k hk e => by
    obtain ⟨_, cur, hc⟩ := a.blk e
    exact s.notO hc (by decide) hk)
  have vo5 : ∀ (u : Option Addr) (n c : Nat) opl, Vo w (.slice u n c) opl → Vo w5 (.slice u n c) opl := fun u n c opl h => ownsRow_fo h f (fun g hg e => by
    obtain ⟨_, cur, hc⟩ := a.blk e
    rcases h.2 with ⟨h2, _⟩ | ⟨g', cap, cur', h2, _, hh, _⟩
    · rw [h2] at hg; cases hg
    · rw [h2] at hg
      simp only [Value.ownBlock, Option.some.injEq] at hg
      subst hg
      rw [hc] at hh
      simp only [Option.some.injEq, Obj.cells.injEq] at hh
      exact absurd hh.2.1 (by decide))
  refine ⟨⟨by rw [vdl_append, List.length_append]; simpa [vdl] using ho, fun y hy => ?_, fun y hy => ?_⟩, s5, z.ty f (fun k cs t fz h1 h2 e => ?_), f.below (Nat.le_trans hC s.size) (fun k e => Nat.le_trans hC (a.blk e).1)⟩
  · rcases List.mem_append.1 hy with h | h
    · exact vo5 _ _ _ _ (a.vo y h)
    · rw [List.mem_singleton] at h; subst h; exact vo5 _ _ _ _ hv
  · rcases List.mem_append.1 hy with h | h
    · exact a.own y h
    · rw [List.mem_singleton] at h; subst h; exact hx
  · obtain ⟨_, cur, hc⟩ := a.blk e
    rw [hc] at h1
    simp only [Option.some.injEq, Obj.cells.injEq] at h1
    obtain ⟨_, rfl, _⟩ := h1
    exact absurd h2 (by decide)

theorem rnew (w : World) {B : Nat} (hB : B ≤ w.heap.size) : Rm (w.alloc (.cells #[.slice none 0 0] 30)) B w.heap.size (.slice none 0 0) [] :=
  ⟨heap_alloc_new w _, World.ownsRow_nil _ _ _ _, hB, by decide, by simp⟩
end Go.Proofs.Ytdjhcdgehmpikaa

namespace Go.Proofs.Ytdjhcdgehmpikaa
set_option linter.unusedVariables false
open Go.RowKit Go.Maps

structure Pl (W wr : World) (B p r q zb : Nat) (O : Nat → Prop) (st : List Nat) (T : List Fl) (TT : List Tab) (val : Value) (vl : List Vd) (i : Nat) : Prop where
  s : Sto wr B p r O st TT
  z : Rst wr B q zb st T
  rel : RelT T TT
  few : Few i TT
  fewl : FewL i T
  vw : Vws wr B val vl
  bel : Below W.heap.size W wr
  hC : W.heap.size ≤ B
  ln : st.length ≤ i
  vln : vl.length ≤ i
  tl : T.length ≤ 4

variable {W wr w1 w2 w' : World} {B p r q zb : Nat} {O O' : Nat → Prop} {st st' : List Nat} {T T' : List Fl} {TT TT' : List Tab} {val : Value} {vl : List Vd} {i : Nat}

theorem Few.mono {M N : Nat} {T : List Tab} (h : Few M T) (hm : M ≤ N) : Few N T := fun t ht => ⟨Nat.le_trans (h t ht).1 hm, fun k => Nat.le_trans ((h t ht).2 k) hm⟩

theorem Pl.keep (a : Pl W wr B p r q zb O st T TT val vl i) (hk : Kept wr w' []) : Pl W w' B p r q zb O st T TT val vl i :=
  { a with s := a.s.keep hk, z := a.z.keep hk, vw := a.vw.keep hk, bel := a.bel.trans (hk.below (B := W.heap.size) (Nat.le_trans a.hC a.s.size) (by simp)) }

theorem Pl.up (a : Pl W wr B p r q zb O st T TT val vl i) {j : Nat} (h : i ≤ j) : Pl W wr B p r q zb O st T TT val vl j :=
  { a with few := a.few.mono h, fewl := a.fewl.mono h, ln := Nat.le_trans a.ln h, vln := Nat.le_trans a.vln h }

/-- The code has done something. -/
structure Pm (W wr : World) (B p r q zb : Nat) (O : Nat → Prop) (st st' : List Nat) (T : List Fl) (TT : List Tab) (val : Value) (vl : List Vd) : Prop where
  s : Sto wr B p r O st' TT
  z : Rst wr B q zb st T
  vw : Vws wr B val vl
  bel : Below W.heap.size W wr

theorem Pl.co (a : Pl W wr B p r q zb O st T TT val vl i) (s : Sto w1 B p r O' st' TT') (f : Stp O O' wr w1) : Pm W w1 B p r q zb O' st st' T TT' val vl :=
  ⟨s, a.z.co a.s f.1, a.vw.sto a.s f.1, a.bel.trans ((a.s.below f.1).mono a.hC)⟩

/-- .. and the document. -/
theorem Pm.doc (a : Pm W w1 B p r q zb O st st' T TT val vl) (hC : W.heap.size ≤ B) (z : Rst w2 B q zb st' T') (f : Fy B tysR w1 w2) : Sto w2 B p r O st' TT ∧ Rst w2 B q zb st' T' ∧ Vws w2 B val vl ∧ Below W.heap.size W w2 :=
  ⟨a.s.fy f, z, a.vw.fy f, a.bel.trans (f.below (C := W.heap.size) hC (Nat.le_trans hC a.s.size))⟩

/-- Begin, on both sides. -/
theorem Pl.begun (a : Pl W wr B p r q zb O st T TT val vl i) (s : Sto w1 B p r O' (st ++ [1]) TT) (f : Stp O O' wr w1) (z : Rst w2 B q zb (st ++ [1]) T) (g : Fy B tysR w1 w2) : Pl W w2 B p r q zb O' (st ++ [1]) T TT val vl (i + 1) := by
  obtain ⟨h1, h2, h3, h4⟩ := (a.co s f).doc a.hC z g
  exact ⟨h1, h2, a.rel, a.few.mono (by omega), a.fewl.mono (by omega), h3, h4, a.hC, by have := a.ln; simp; omega, by have := a.vln; omega, a.tl⟩

/-- Commit, on both sides. -/
theorem Pl.ended (a : Pl W wr B p r q zb O st T TT val vl i) {x : Nat} (s : Sto w1 B p r O' (st.set x 2) TT) (f : Stp O O' wr w1) (z : Rst w2 B q zb (st.set x 2) T) (g : Fy B tysR w1 w2) : Pl W w2 B p r q zb O' (st.set x 2) T TT val vl (i + 1) := by
  obtain ⟨h1, h2, h3, h4⟩ := (a.co s f).doc a.hC z g
  exact ⟨h1, h2, a.rel, a.few.mono (by omega), a.fewl.mono (by omega), h3, h4, a.hC, by have := a.ln; simp; omega, by have := a.vln; omega, a.tl⟩

/-- A statement, on both sides. -/
theorem Pl.ran (a : Pl W wr B p r q zb O st T TT val vl i) {V : Vw} {kind : Nat} {tb key : Int} {txt : ByteArray} (s : Sto w1 B p r O' st (runT st V kind tb key txt TT)) (f : Stp O O' wr w1) (z : Rst w2 B q zb st T') (g : Fy B tysR w1 w2) (hr : RlT T' (runT st V kind tb key txt TT)) (hl : FewL (i + 1) T') : Pl W w2 B p r q zb O' st T' (runT st V kind tb key txt TT) val vl (i + 1) := by
  obtain ⟨h1, h2, h3, h4⟩ := (a.co s f).doc a.hC z g
  exact ⟨h1, h2, hr.full h1, runT_few a.few st V kind tb key txt, hl, h3, h4, a.hC, by have := a.ln; omega, by have := a.vln; omega, by have h1 := hr.1; have h2 := a.rel.1; rw [runT_length] at h1; have := a.tl; omega⟩

/-- One view more. -/
theorem Pl.more {w5 : World} {v5 : Value} (a : Pl W wr B p r q zb O st T TT val vl (i + 1)) (hi : vl.length ≤ i) (x : Vd) (hv : Vo wr (.slice x.u x.n x.c) x.opl) (hx : (Lit.int .i64 x.own).wf = true)
    (ho : w5.ownsRow B 50 3 v5 (vl.length + 1) (vdl vl ++ vdc x)) (hg : wr.grownBy w5 val.ownBlock) : Pl W w5 B p r q zb O st T TT v5 (vl ++ [x]) (i + 1) := by
  obtain ⟨h1, h2, h3, h4⟩ := a.vw.more (C := W.heap.size) a.s a.z (Kept.below (Kept.refl wr []) (Nat.le_trans a.hC a.s.size) (by simp)) x a.hC hv hx ho hg
  exact ⟨h2, h3, a.rel, a.few, a.fewl, h1, a.bel.trans h4, a.hC, a.ln, by simp; omega, a.tl⟩

theorem Pl.start {n : Nat} (hn : n ≤ 4) (s : Sto wr B p r O [] (List.replicate n noTab)) (z : Rst wr B q zb [] (List.replicate n [])) (bel : Below W.heap.size W wr) (hC : W.heap.size ≤ B) : Pl W wr B p r q zb O [] (List.replicate n []) (List.replicate n noTab) (.slice none 0 0) [] 0 := by
  refine ⟨s, z, ?_, few_none 0 n, fun l hl => by rw [List.eq_of_mem_replicate hl]; exact Nat.le_refl _, ⟨World.ownsRow_nil _ _ _ _, by simp, by simp⟩, bel, hC, Nat.le_refl _, Nat.le_refl _, by simpa using hn⟩
  refine RlT.full ⟨by simp, fun i l t h1 h2 => ?_⟩ s
  obtain rfl := List.eq_of_mem_replicate (List.mem_of_getElem? h1)
  obtain rfl := List.eq_of_mem_replicate (List.mem_of_getElem? h2)
  exact Rl.nil

theorem runR_le {N : Nat} (h : RelT T TT) (hl : FewL N T) (st : List Nat) (V : Vw) (kind : Nat) (tb key : Int) (txt : ByteArray) : (runR st V kind tb key txt TT).length ≤ N + 1 := by
  unfold runR
  split
  · simp
  · split
    · rename_i t ht
      obtain ⟨l, hl'⟩ : ∃ l, T[tb.toNat]? = some l := ⟨_, List.getElem?_eq_getElem (by rw [h.1]; exact (List.getElem?_eq_some_iff.1 ht).1)⟩
      have r1 := h.2 _ l t hl' ht
      have b := hl l (List.mem_of_getElem? hl')
      have sc : (scanR (sees st V) t.ks t.F).length ≤ N := by rw [← flScan_eq r1.rl r1.st r1.mem]; exact Nat.le_trans (flScan_le _ _) b
      unfold runH
      split
      · simp
      split
      · simp
      split
      · show (truR st V t.ks t.F).length ≤ N + 1
        unfold truR
        split
        · omega
        · simp
      split
      · unfold getH
        split
        · split <;> simp
        · simp
      split
      · show (scanR (sees st V) t.ks t.F).length ≤ N + 1
        omega
      · simp
    · simp

theorem relvac_sto {w : World} {N : Nat} (s : Sto w B p r O st TT) (hR : RelT T TT) (hf : Few N TT) (hl : FewL N T) (hN : N ≤ 900) (hT : T.length ≤ 1000) (mx : Int) (u : Option Addr) (n m : Nat) (opl : List Int) (hv : Vo w (.slice u n m) opl) :
    Calls Try.prog 27 #[.pointer (some ⟨r, 0, none⟩), .agg #[.int .i64 mx, .slice u n m]] w fun e w' => e = .returned (.int .i64 (vsum st mx opl T)) ∧ Fo O w w' := by
  obtain ⟨b, v, sv, L, a, c, rfl, rfl⟩ := s
  refine (relvac_any a c mx u n m opl hv hR (fun l h => by have := hl l h; omega) (fun t ht => ?_) hT).mono ?_
  · have := (hf t.tab (List.mem_map.2 ⟨t, ht, rfl⟩)).1
    have e : t.tab.ks = t.ks := rfl
    rw [e] at this
    omega
  · rintro e w' ⟨rfl, f⟩
    exact ⟨rfl, f.mono (fun k hk => .inl hk)⟩
end Go.Proofs.Ytdjhcdgehmpikaa
