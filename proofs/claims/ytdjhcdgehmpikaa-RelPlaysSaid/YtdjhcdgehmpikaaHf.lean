/-
  first, seenFirst, and the predicates that are handed to first: seenFirst's, Insert's, Redo's.
-/
import Derived.Test.YtdjhcdgehmpikaaHe
namespace Go.Proofs.Ytdjhcdgehmpikaa
open Go.RowKit Go.Maps

/-- A pointer to the version with this number. -/
def pv (sv : Value) : Option Nat → Value
  | none => .pointer none
  | some i => match sv with
    | .slice (some ⟨g, _, _⟩) _ _ => .pointer (some ⟨g, i * 4, none⟩)
    | _ => .pointer none

theorem ret_v {a b : Value} (h : a = b) : Ending.returned a = .returned b := by rw [h]

variable {w : World} {B p h b mb : Nat} {v : Value} {S : Int → Value} {st : List Nat} {ks : List Int} {F : Int → List Vr}

theorem findIdx_lt {P : Vr → Bool} {l : List Vr} {i : Nat} (h : l.findIdx? P = some i) : i < l.length := by
  rw [List.findIdx?_eq_some_iff_getElem] at h
  exact h.1

set_option maxRecDepth 20000 in
theorem first_any (a : Sx w B p h b mb v S st ks F) (key : Int) (hk : (Lit.int .i64 key).wf = true) (c : Nat) (lb : Array Value) (P : Vr → Bool) (ec : ∀ args w, (callFunc c args).run Try.prog w = .ok (.enter c args) w) (hc : Pays w key (F key) c lb P) :
    Calls Try.prog 76 #[.pointer (some ⟨h, 0, none⟩), .int .i64 key, .func (.func c) #[] lb] w fun e w' => e = .returned (pv (S key) ((F key).findIdx? P)) ∧ Kept w w' [] := by
  obtain ⟨c0, c1⟩ := a.hp.cell
  have hlk := look_slice a.hp.hm a.hp.nk key hk
  have hro := a.hp.rows key
  have ci := indexFunc_any (F key) (S key) hro c lb P ec hc
  have hR := idx
  obtain ⟨n, hn⟩ : ∃ n, (F key).length = n := ⟨_, rfl⟩
  have HN := Lib.hid hn
  rcases hro.2 with ⟨hs, h0⟩ | ⟨g, cap, cur, hs, _, _, hnc, _, _, _⟩
  · have hF : F key = [] := List.eq_nil_of_length_eq_zero h0
    rw [hs] at hlk ci ⊢
    have R : Hid (pv (.slice none 0 0) ((F key).findIdx? P) = .pointer none) := Lib.hid (by rw [hF]; rfl)
    have e1 : idx P (F key) = -1 := by rw [hF]; rfl
    rw [e1] at ci
    clear a hro hc hk hs h0 hF e1 hn hR
    go_enter Try.func76, Try.ntmps76
    go_wp2_with (go_at_call 83; refine ci.mono ?_; rintro e w' ⟨rfl, k2⟩)
    go_ret
    exact ⟨ret_v R.out.symm, k2⟩
  · rw [hs] at hlk ci ⊢
    cases hi : (F key).findIdx? P with
    | none =>
      have e1 : idx P (F key) = -1 := by rw [idx, hi]
      rw [e1] at ci
      clear a hro hc hk hs e1 hi hn hR hnc
      go_enter Try.func76, Try.ntmps76
      go_wp2_with (go_at_call 83; refine ci.mono ?_; rintro e w' ⟨rfl, k2⟩)
      go_ret
      exact ⟨rfl, k2⟩
    | some i =>
      have e1 : idx P (F key) = i := by rw [idx, hi]
      have hlt := findIdx_lt hi
      rw [hn] at hlt hlk ci
      have x1 : (i : Int) < (n : Int) := by omega
      rw [e1] at ci
      clear a hro hc hk hs e1 hi hn hR hnc
      go_enter Try.func76, Try.ntmps76
      go_wp2_with (go_at_call 83; refine ci.mono ?_; rintro e w' ⟨rfl, k2⟩)
      go_ret
      exact ⟨ret_v (by simp [pv]), k2⟩

theorem seen1_any (a : Sx w B p h b mb v S st ks F) (mx own : Int) (sl : Value) (opl : List Int) (hsl : RdI w sl opl) (b1 b2 : Nat) (c0 : w.cell? ⟨b1, 0, none⟩ = some (.pointer (some ⟨h, 0, none⟩)))
    (d0 : w.cell? ⟨b2, 0, none⟩ = some (.int .i64 mx)) (d1 : w.cell? ⟨b2, 1, none⟩ = some sl) (d2 : w.cell? ⟨b2, 2, none⟩ = some (.int .i64 own)) (key : Int) (r : Vr) (hr : VrOk r) :
    Calls Try.prog 78 #[.agg #[.int .i64 key, .string r.txt, .int .i64 r.birth, .int .i64 r.death], .pointer (some ⟨b1, 0, none⟩), .pointer (some ⟨b2, 0, none⟩)] w fun e w' => e = .returned (.bool (sees st ⟨mx, opl, own⟩ r)) ∧ Kept w w' [] := by
  have K1 := Lib.hid ((Kept.refl w []).alloc (.cells #[.int .i64 key, .string r.txt, .int .i64 r.birth, .int .i64 r.death] 124))
  have cs := sees_heap (a.keep K1.out) mx own sl opl (hsl.keep K1.out) key r hr
  obtain ⟨sa, sc, rfl, _⟩ := hsl
  unfold vw vcs at cs
  obtain ⟨q, hq⟩ : ∃ q, sees st ⟨mx, opl, own⟩ r = q := ⟨_, rfl⟩
  rw [hq] at cs ⊢
  have l1 := World.block_lt_of_cell? w _ c0
  have l2 := World.block_lt_of_cell? w _ d0
  obtain ⟨txt, rb, rd⟩ := r
  clear a hq hr
  go_enter Try.func78, Try.ntmps78
  go_wp2_with (go_at_call 79; refine cs.mono ?_; rintro e w' ⟨rfl, k2⟩)
  go_ret
  exact ⟨rfl, K1.out.trans k2 (by simp)⟩

theorem seenFirst_any (a : Sx w B p h b mb v S st ks F) (mx own : Int) (sl : Value) (opl : List Int) (hsl : RdI w sl opl) (key : Int) (hk : (Lit.int .i64 key).wf = true) :
    Calls Try.prog 59 #[.pointer (some ⟨h, 0, none⟩), vw mx sl own, .int .i64 key] w fun e w' => e = .returned (pv (S key) ((F key).findIdx? (sees st ⟨mx, opl, own⟩))) ∧ Kept w w' [] := by
  have A := Lib.hid a; have HS := Lib.hid hsl
  obtain ⟨sa, sc, rfl, _⟩ := hsl
  obtain ⟨W1, hW1⟩ : ∃ W1, W1 = w.alloc (.cells #[.pointer (some ⟨h, 0, none⟩)] 71) := ⟨_, rfl⟩
  obtain ⟨W2, hW2⟩ : ∃ W2, W2 = W1.alloc (.cells #[.int .i64 mx, .slice sa opl.length sc, .int .i64 own] 51) := ⟨_, rfl⟩
  have k1 : Kept w W1 [] := by rw [hW1]; exact (Kept.refl w []).alloc _
  have k12 : Kept W1 W2 [] := by rw [hW2]; exact (Kept.refl W1 []).alloc _
  have K2 := Lib.hid (k1.trans k12 (by simp))
  have g1 : W1.heap[w.heap.size]? = some (.cells #[.pointer (some ⟨h, 0, none⟩)] 71 (0, 0)) := by rw [hW1]; exact heap_alloc_new w _
  have g1' := k12.heap (by simp) g1
  have g2 : W2.heap[W1.heap.size]? = some (.cells #[.int .i64 mx, .slice sa opl.length sc, .int .i64 own] 51 (0, 0)) := by rw [hW2]; exact heap_alloc_new W1 _
  have hz : W1.heap.size = w.heap.size + 1 := by rw [hW1]; simp
  rw [hz] at g2
  have c0 : W2.cell? ⟨w.heap.size, 0, none⟩ = some (.pointer (some ⟨h, 0, none⟩)) := by rw [cell_of_row _ _ 0 _ _ _ g1']; rfl
  have d0 : W2.cell? ⟨w.heap.size + 1, 0, none⟩ = some (.int .i64 mx) := by rw [cell_of_row _ _ 0 _ _ _ g2]; rfl
  have d1 : W2.cell? ⟨w.heap.size + 1, 1, none⟩ = some (.slice sa opl.length sc) := by rw [cell_of_row _ _ 1 _ _ _ g2]; rfl
  have d2 : W2.cell? ⟨w.heap.size + 1, 2, none⟩ = some (.int .i64 own) := by rw [cell_of_row _ _ 2 _ _ _ g2]; rfl
  have pays : Pays W2 key (F key) 78 #[.pointer (some ⟨w.heap.size, 0, none⟩), .pointer (some ⟨w.heap.size + 1, 0, none⟩)] (sees st ⟨mx, opl, own⟩) := by
    intro r hr V hV
    have hkv := K2.out.trans hV (by simp)
    exact seen1_any (A.out.keep hkv) mx own _ opl (HS.out.keep hkv) _ _ (hV.cell (p := ⟨w.heap.size, 0, none⟩) (by simp) c0) (hV.cell (p := ⟨w.heap.size + 1, 0, none⟩) (by simp) d0) (hV.cell (p := ⟨w.heap.size + 1, 1, none⟩) (by simp) d1) (hV.cell (p := ⟨w.heap.size + 1, 2, none⟩) (by simp) d2) key r (A.out.hp.ok key r hr)
  have cf := first_any (A.out.keep K2.out) key hk _ _ _ (enters_of Try.func78 (by kernel_rfl) rfl) pays
  obtain ⟨q, hq⟩ : ∃ q, pv (S key) ((F key).findIdx? (sees st ⟨mx, opl, own⟩)) = q := ⟨_, rfl⟩
  rw [hq] at cf ⊢
  have cf' := Lib.hid cf
  have C0 := c0
  unfold vw
  clear a pays hk hq k1 k12 g1 g1' g2 hz cf d0 d1 d2
  go_enter Try.func59, Try.ntmps59
  go_wp2_with fail
  rw [← hW1, ← hW2]
  refine cf'.out.mono ?_
  rintro e w' ⟨rfl, k2⟩
  go_wp2
  go_ret
  exact ⟨rfl, K2.out.trans k2 (by simp)⟩

end Go.Proofs.Ytdjhcdgehmpikaa
