/-
  Insert, Update.
-/
import Derived.Test.YtdjhcdgehmpikaaHi
namespace Go.Proofs.Ytdjhcdgehmpikaa
open Go.RowKit Go.Maps

/-- Insert: the error, of a key's versions. -/
def insE (st : List Nat) (V : Vw) (l : List Vr) : Int :=
  if stAt st V.own = 1 then (if (l.findIdx? (sees st V)).isSome then 5 else if (l.findIdx? (inWay st V)).isSome then 6 else 0) else 7

/-- A new version behind the others, if there was no error. -/
def putK (e : Int) (key : Int) (ks : List Int) : List Int := if e = 0 then insK key ks else ks
def putF (e : Int) (key : Int) (r : Vr) (F : Int → List Vr) : Int → List Vr := if e = 0 then updF F key (F key ++ [r]) else F

variable {w : World} {B p h b mb : Nat} {v : Value} {S : Int → Value} {st : List Nat} {ks : List Int} {F : Int → List Vr}

theorem pv_none (sv : Value) : pv sv none = .pointer none := rfl

/-- Three boxes: a pointer to the heap, a view, a row. -/
structure Box3 (w W : World) (h : Nat) (mx own : Int) (sl : Value) (key : Int) (txt : ByteArray) : Prop where
  k : Kept w W []
  b0 : W.heap[w.heap.size]? = some (.cells #[.pointer (some ⟨h, 0, none⟩)] 71 (0, 0))
  b1 : W.heap[w.heap.size + 1]? = some (.cells #[.int .i64 mx, sl, .int .i64 own] 51 (0, 0))
  b2 : W.heap[w.heap.size + 1 + 1]? = some (.cells #[.int .i64 key, .string txt] 55 (0, 0))

theorem box3 (w : World) (h : Nat) (mx own : Int) (sl : Value) (key : Int) (txt : ByteArray) :
    Box3 w (((w.alloc (.cells #[.pointer (some ⟨h, 0, none⟩)] 71)).alloc (.cells #[.int .i64 mx, sl, .int .i64 own] 51)).alloc (.cells #[.int .i64 key, .string txt] 55)) h mx own sl key txt := by
  have e1 : (w.alloc (.cells #[.pointer (some ⟨h, 0, none⟩)] 71)).heap.size = w.heap.size + 1 := by simp
  have e2 : ((w.alloc (.cells #[.pointer (some ⟨h, 0, none⟩)] 71)).alloc (.cells #[.int .i64 mx, sl, .int .i64 own] 51)).heap.size = w.heap.size + 1 + 1 := by simp
  have g0 := heap_alloc_new w (.cells #[.pointer (some ⟨h, 0, none⟩)] 71)
  have g1 := heap_alloc_new (w.alloc (.cells #[.pointer (some ⟨h, 0, none⟩)] 71)) (.cells #[.int .i64 mx, sl, .int .i64 own] 51)
  have g2 := heap_alloc_new ((w.alloc (.cells #[.pointer (some ⟨h, 0, none⟩)] 71)).alloc (.cells #[.int .i64 mx, sl, .int .i64 own] 51)) (.cells #[.int .i64 key, .string txt] 55)
  rw [e1] at g1
  rw [e2] at g2
  exact { k := (((Kept.refl w []).alloc _).alloc _).alloc _, b0 := (Below.heap_alloc _ _ _ (by rw [e2]; omega)).trans ((Below.heap_alloc _ _ _ (by rw [e1]; omega)).trans g0), b1 := (Below.heap_alloc _ _ _ (by rw [e2]; omega)).trans g1, b2 := g2 }

theorem Box3.keep {w W W' : World} {h : Nat} {mx own : Int} {sl : Value} {key : Int} {txt : ByteArray} (a : Box3 w W h mx own sl key txt) (hk : Kept W W' []) : Box3 w W' h mx own sl key txt :=
  { k := a.k.trans hk (by simp), b0 := hk.heap (by simp) a.b0, b1 := hk.heap (by simp) a.b1, b2 := hk.heap (by simp) a.b2 }

theorem Box3.c0 {w W : World} {h : Nat} {mx own : Int} {sl : Value} {key : Int} {txt : ByteArray} (a : Box3 w W h mx own sl key txt) : W.cell? ⟨w.heap.size, 0, none⟩ = some (.pointer (some ⟨h, 0, none⟩)) := by rw [cell_of_row _ _ 0 _ _ _ a.b0]; rfl

set_option maxHeartbeats 2000000 in
set_option maxRecDepth 100000 in
theorem insert_any (a : Sx w B p h b mb v S st ks F) (mx own : Int) (sl : Value) (opl : List Int) (hsl : RdI w sl opl) (ho : (Lit.int .i64 own).wf = true) (key : Int) (txt : ByteArray) (hk : (Lit.int .i64 key).wf = true) (hks : ks.length < 1000000) (hF : (F key).length < 1000000) :
    Calls Try.prog 56 #[.pointer (some ⟨h, 0, none⟩), vw mx sl own, .agg #[.int .i64 key, .string txt]] w fun e w' => e = .returned (.int .i64 (insE st ⟨mx, opl, own⟩ (F key))) ∧
      ∃ S', Sx w' B p h b mb v S' st (putK (insE st ⟨mx, opl, own⟩ (F key)) key ks) (putF (insE st ⟨mx, opl, own⟩ (F key)) key ⟨txt, own, 0⟩ F) ∧ Fo (foot p b v h mb S) w w' ∧ ∀ k, foot p b v h mb S' k → foot p b v h mb S k ∨ w.heap.size ≤ k := by
  have A := Lib.hid a; have HS := Lib.hid hsl; have HOW := Lib.hid ho; have HK := Lib.hid hk; have HKS := Lib.hid hks; have HF := Lib.hid hF
  obtain ⟨sa, sc, rfl, _⟩ := hsl
  have bx := box3 w h mx own (.slice sa opl.length sc) key txt
  obtain ⟨W3, hW3⟩ : ∃ W3, W3 = ((w.alloc (.cells #[.pointer (some ⟨h, 0, none⟩)] 71)).alloc (.cells #[.int .i64 mx, .slice sa opl.length sc, .int .i64 own] 51)).alloc (.cells #[.int .i64 key, .string txt] 55) := ⟨_, rfl⟩
  rw [← hW3] at bx
  have BX := Lib.hid bx
  have cm := Lib.hid (mayWrite_any (A.out.keep bx.k) mx own sa opl.length sc ho)
  have cs := Lib.hid (fun V (hV : Box3 w V h mx own (.slice sa opl.length sc) key txt) => seenFirst_any (A.out.keep hV.k) mx own (.slice sa opl.length sc) opl (HS.out.keep hV.k) key hk)
  have cf := Lib.hid (fun V (hV : Box3 w V h mx own (.slice sa opl.length sc) key txt) => first_any (A.out.keep hV.k) key hk _ #[.pointer (some ⟨w.heap.size, 0, none⟩), .pointer (some ⟨w.heap.size + 1, 0, none⟩)] (inWay st ⟨mx, opl, own⟩) (enters_of Try.func74 (by kernel_rfl) rfl) (fun r hr V' hV' => by
    have q := hV.keep hV'
    obtain ⟨z0, z1, z2⟩ := three_at q.b1
    exact ins1_any (A.out.keep q.k) mx own _ opl (HS.out.keep q.k) _ _ q.c0 z0 z1 z2 key r (A.out.hp.ok key r hr)))
  have cb := Lib.hid (fun V (hV : Box3 w V h mx own (.slice sa opl.length sc) key txt) => bear_any (A.out.keep hV.k) key txt own hk ho hks hF)
  unfold vw at cm cs ⊢
  obtain ⟨z0, z1, z2⟩ := three_at bx.b1
  have y0 := bx.c0
  have y1 : W3.cell? ⟨w.heap.size + 1 + 1, 0, none⟩ = some (.int .i64 key) := by rw [cell_of_row _ _ 0 _ _ _ bx.b2]; rfl
  clear a ho hk hks hF
  by_cases h1 : stAt st own = 1
  · have hmw : mwE st own = 0 := by rw [mwE, if_pos h1]
    rw [hmw] at cm
    cases hi : (F key).findIdx? (sees st ⟨mx, opl, own⟩) with
    | some i =>
      have hE : insE st ⟨mx, opl, own⟩ (F key) = 5 := by simp only [insE, if_pos h1, hi]; rfl
      rw [hE]
      obtain ⟨g, cap, cur, hs, _⟩ := A.out.row (findIdx_lt hi)
      rw [hi, hs] at cs
      simp only [pv] at cs
      clear hmw h1 hE hi bx hs cf cb
      go_enter Try.func56, Try.ntmps56
      go_wp2_with fail
      rw [← hW3]
      clear hW3
      refine cm.out.mono ?_
      rintro e w2 ⟨rfl, k2⟩
      have B2 := Lib.hid (BX.out.keep k2)
      clear k2 z0 z1 z2 y0 y1
      obtain ⟨z0, z1, z2⟩ := three_at B2.out.b1
      have y0 := B2.out.c0
      have y1 : w2.cell? ⟨w.heap.size + 1 + 1, 0, none⟩ = some (.int .i64 key) := by rw [cell_of_row _ _ 0 _ _ _ B2.out.b2]; rfl
      go_wp2_with fail
      refine (cs.out _ B2.out).mono ?_
      rintro e w3 ⟨rfl, k3⟩
      have B3 := Lib.hid (B2.out.keep k3)
      clear k3 z0 z1 z2 y0 y1
      go_wp2
      go_ret
      exact ⟨rfl, S, A.out.keep B3.out.k, Fo.ofKept B3.out.k _, fun k hk => .inl hk⟩
    | none =>
      rw [hi] at cs
      simp only [pv_none] at cs
      cases hj : (F key).findIdx? (inWay st ⟨mx, opl, own⟩) with
      | some i =>
        have hE : insE st ⟨mx, opl, own⟩ (F key) = 6 := by simp only [insE, if_pos h1, hi, hj]; rfl
        rw [hE]
        obtain ⟨g, cap, cur, hs, _⟩ := A.out.row (findIdx_lt hj)
        rw [hj, hs] at cf
        simp only [pv] at cf
        clear hmw h1 hE hi bx hs cb hj
        go_enter Try.func56, Try.ntmps56
        go_wp2_with fail
        rw [← hW3]
        clear hW3
        refine cm.out.mono ?_
        rintro e w2 ⟨rfl, k2⟩
        have B2 := Lib.hid (BX.out.keep k2)
        clear k2 z0 z1 z2 y0 y1
        obtain ⟨z0, z1, z2⟩ := three_at B2.out.b1
        have y0 := B2.out.c0
        have y1 : w2.cell? ⟨w.heap.size + 1 + 1, 0, none⟩ = some (.int .i64 key) := by rw [cell_of_row _ _ 0 _ _ _ B2.out.b2]; rfl
        go_wp2_with fail
        refine (cs.out _ B2.out).mono ?_
        rintro e w3 ⟨rfl, k3⟩
        have B3 := Lib.hid (B2.out.keep k3)
        clear k3 z0 z1 z2 y0 y1
        have y0 := B3.out.c0
        have y1 : w3.cell? ⟨w.heap.size + 1 + 1, 0, none⟩ = some (.int .i64 key) := by rw [cell_of_row _ _ 0 _ _ _ B3.out.b2]; rfl
        go_wp2_with fail
        refine (cf.out _ B3.out).mono ?_
        rintro e w4 ⟨rfl, k4⟩
        have B4 := Lib.hid (B3.out.keep k4)
        clear k4 y0 y1
        go_wp2
        go_ret
        exact ⟨rfl, S, A.out.keep B4.out.k, Fo.ofKept B4.out.k _, fun k hk => .inl hk⟩
      | none =>
        have hE : insE st ⟨mx, opl, own⟩ (F key) = 0 := by simp only [insE, if_pos h1, hi, hj]; rfl
        rw [hE]
        rw [hj] at cf
        simp only [pv_none] at cf
        clear hmw h1 hE hi bx hj
        go_enter Try.func56, Try.ntmps56
        go_wp2_with fail
        rw [← hW3]
        clear hW3
        refine cm.out.mono ?_
        rintro e w2 ⟨rfl, k2⟩
        have B2 := Lib.hid (BX.out.keep k2)
        clear k2 z0 z1 z2 y0 y1
        obtain ⟨z0, z1, z2⟩ := three_at B2.out.b1
        have y0 := B2.out.c0
        have y1 : w2.cell? ⟨w.heap.size + 1 + 1, 0, none⟩ = some (.int .i64 key) := by rw [cell_of_row _ _ 0 _ _ _ B2.out.b2]; rfl
        go_wp2_with fail
        refine (cs.out _ B2.out).mono ?_
        rintro e w3 ⟨rfl, k3⟩
        have B3 := Lib.hid (B2.out.keep k3)
        clear k3 z0 z1 z2 y0 y1
        have y0 := B3.out.c0
        have y1 : w3.cell? ⟨w.heap.size + 1 + 1, 0, none⟩ = some (.int .i64 key) := by rw [cell_of_row _ _ 0 _ _ _ B3.out.b2]; rfl
        go_wp2_with fail
        refine (cf.out _ B3.out).mono ?_
        rintro e w4 ⟨rfl, k4⟩
        have B4 := Lib.hid (B3.out.keep k4)
        clear k4 y0 y1
        have y0 := B4.out.c0
        have y1 : w4.cell? ⟨w.heap.size + 1 + 1, 0, none⟩ = some (.int .i64 key) := by rw [cell_of_row _ _ 0 _ _ _ B4.out.b2]; rfl
        have y2 : w4.cell? ⟨w.heap.size + 1 + 1, 1, none⟩ = some (.string txt) := by rw [cell_of_row _ _ 1 _ _ _ B4.out.b2]; rfl
        obtain ⟨z0, z1, z2⟩ := three_at B4.out.b1
        go_wp2_with fail
        refine (cb.out _ B4.out).mono ?_
        rintro e w5 ⟨rfl, S', R5, F5, O5⟩
        have R5 := Lib.hid R5; have F5 := Lib.hid F5; have O5 := Lib.hid O5
        clear y0 y1 y2 z0 z1 z2
        go_wp2
        go_ret
        exact ⟨rfl, S', R5.out, (Fo.ofKept B4.out.k _).trans F5.out, fun k hk => (O5.out k hk).imp id (fun h => Nat.le_trans B4.out.k.size h)⟩
  · have hmw : mwE st own = 7 := by rw [mwE, if_neg h1]
    rw [hmw] at cm
    have hE : insE st ⟨mx, opl, own⟩ (F key) = 7 := by rw [insE, if_neg h1]
    rw [hE]
    clear hmw h1 hE bx cs cf cb
    go_enter Try.func56, Try.ntmps56
    go_wp2_with fail
    rw [← hW3]
    clear hW3
    refine cm.out.mono ?_
    rintro e w2 ⟨rfl, k2⟩
    have B2 := Lib.hid (BX.out.keep k2)
    clear k2 z0 z1 z2 y0 y1
    go_wp2
    go_ret
    exact ⟨rfl, S, A.out.keep B2.out.k, Fo.ofKept B2.out.k _, fun k hk => .inl hk⟩

end Go.Proofs.Ytdjhcdgehmpikaa
