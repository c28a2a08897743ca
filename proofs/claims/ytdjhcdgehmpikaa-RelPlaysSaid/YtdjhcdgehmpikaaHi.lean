/-
  A version dies ('Sx.die'); Delete, Insert, Update.
-/
import Derived.Test.YtdjhcdgehmpikaaHh
namespace Go.Proofs.Ytdjhcdgehmpikaa
open Go.RowKit Go.Maps

/-- The version with this number dies by x. -/
def dieAt (l : List Vr) (i : Nat) (x : Int) : List Vr := l.modify i fun r => { r with death := x }

theorem dieAt_length (l : List Vr) (i : Nat) (x : Int) : (dieAt l i x).length = l.length := by simp [dieAt]

theorem vcl_die (k : Int) (x : Int) : ∀ (l : List Vr) (i : Nat), i < l.length → vcl k (dieAt l i x) = (vcl k l).set (i * 4 + 3) (.int .i64 x)
  | [], i, h => by simp at h
  | a :: l, 0, _ => by simp [dieAt, vcl, vcs]
  | a :: l, i + 1, h => by
    have ih := vcl_die k x l i (by simpa using h)
    simp only [dieAt] at ih ⊢
    rw [List.modify_succ_cons, vcl, vcl, List.flatMap_cons, List.flatMap_cons, List.set_append_right _ _ (by simp [vcs]; omega)]
    rw [show (i + 1) * 4 + 3 - (vcs k a).length = i * 4 + 3 by simp [vcs]; omega]
    simp only [vcl] at ih
    rw [ih]

theorem updF_self {α : Type} (F : Int → α) (k : Int) : updF F k (F k) = F := by
  funext q
  by_cases e : q = k
  · subst e; rw [updF_same]
  · rw [updF_other _ _ e]

variable {w : World} {B p h b mb : Nat} {v : Value} {S : Int → Value} {st : List Nat} {ks : List Int} {F : Int → List Vr}

/-- What a key's slice is. -/
theorem Sx.row (a : Sx w B p h b mb v S st ks F) {key : Int} {i : Nat} (hi : i < (F key).length) : ∃ g cap cur, S key = .slice (some ⟨g, 0, none⟩) (F key).length cap ∧ w.heap[g]? = some (.cells cur 124 (0, 0)) := by
  rcases (a.hp.rows key).2 with ⟨_, h0⟩ | ⟨g, cap, cur, hs, _, hg, _⟩
  · omega
  · exact ⟨g, cap, cur, hs, hg⟩

theorem Sx.die (a : Sx w B p h b mb v S st ks F) {key : Int} {i g n cap : Nat} (hs : S key = .slice (some ⟨g, 0, none⟩) n cap) (hi : i < (F key).length) (x : Int) (hx : (Lit.int .i64 x).wf = true) :
    Sx (w.setCell ⟨g, i * 4 + 3, none⟩ (.int .i64 x)) B p h b mb v S st ks (updF F key (dieAt (F key) i x)) ∧ Fo (foot p b v h mb S) w (w.setCell ⟨g, i * 4 + 3, none⟩ (.int .i64 x)) ∧ Fr B [124] w (w.setCell ⟨g, i * 4 + 3, none⟩ (.int .i64 x)) := by
  have hb : (S key).ownBlock = some g := by rw [hs]; rfl
  obtain ⟨hl, hrow⟩ := a.hp.rows key
  rcases hrow with ⟨h1, _⟩ | ⟨g', cap', cur, h1, hbg, hg, hnc, hcm, hcs, htk⟩
  · rw [hs] at h1; cases h1
  rw [hs] at h1
  simp only [Value.slice.injEq, Option.some.injEq, Addr.mk.injEq] at h1
  obtain ⟨⟨rfl, _⟩, rfl, rfl⟩ := h1
  have f1 : Fr B [124] w (w.setCell ⟨g, i * 4 + 3, none⟩ (.int .i64 x)) := (Fr.refl B _ w).setCell hg (.inr ⟨hbg, by simp⟩) _ _
  have fo : Fo (foot p b v h mb S) w (w.setCell ⟨g, i * 4 + 3, none⟩ (.int .i64 x)) := (Fo.refl _ w).setCell (p := ⟨g, i * 4 + 3, none⟩) (.inl (.inr (.inr (.inr ⟨key, hb⟩)))) _
  have k1 : Fo (fun k => k = g) w (w.setCell ⟨g, i * 4 + 3, none⟩ (.int .i64 x)) := (Fo.refl (fun k => k = g) w).setCell (p := ⟨g, i * 4 + 3, none⟩) (.inl rfl) _
  refine ⟨⟨a.mg.frame f1 (by decide) (by decide), ?_, a.ne⟩, fo, f1⟩
  refine { a.hp with hh := f1.heap a.hp.hh (by decide), hm := ownsMap_fr a.hp.hm f1, rows := ?_, ok := ?_ }
  · intro q
    by_cases e : q = key
    · subst e
      rw [updF_same, dieAt_length, vcl_die q x _ i hi, hs]
      refine ⟨by simpa using hl, .inr ⟨g, cap, _, rfl, hbg, heap_setCell_at hg _ _, hnc, hcm, by simpa using hcs, ?_⟩⟩
      rw [Array.toList_setIfInBounds, List.take_set, htk]
    · rw [updF_other _ _ e]
      refine ownsRow_fo (a.hp.rows q) k1 (fun g2 hg2 e2 => ?_)
      subst e2
      rcases a.hp.apart q key e with h2 | h2
      · rw [h2] at hg2; cases hg2
      · exact h2 (by rw [hg2, hb])
  · intro k s hs2
    by_cases e : k = key
    · subst e
      rw [updF_same] at hs2
      obtain ⟨j, hj, e2⟩ := List.mem_iff_getElem.1 hs2
      simp only [dieAt, List.getElem_modify] at e2
      simp only [dieAt, List.length_modify] at hj
      have hok := a.hp.ok k _ (List.getElem_mem hj)
      split at e2
      · subst e2; exact ⟨hok.1, hx⟩
      · subst e2; exact hok
    · rw [updF_other _ _ e] at hs2
      exact a.hp.ok k s hs2

/-- Delete, of a key's versions: the error, and what they are then. -/
def delL (st : List Nat) (V : Vw) (l : List Vr) : Int × List Vr :=
  if stAt st V.own = 1 then match l.findIdx? (sees st V) with
    | none => (4, l)
    | some i => match l[i]? with
      | none => (4, l)
      | some r => if binds st V r.death then (6, l) else (0, dieAt l i V.own)
  else (7, l)

theorem three_at {w : World} {g : Nat} {x y z : Value} {t : TypeId} (h : w.heap[g]? = some (.cells #[x, y, z] t (0, 0))) : w.cell? ⟨g, 0, none⟩ = some x ∧ w.cell? ⟨g, 1, none⟩ = some y ∧ w.cell? ⟨g, 2, none⟩ = some z :=
  ⟨by rw [cell_of_row w g 0 _ _ _ h]; rfl, by rw [cell_of_row w g 1 _ _ _ h]; rfl, by rw [cell_of_row w g 2 _ _ _ h]; rfl⟩

set_option maxHeartbeats 2000000 in
set_option maxRecDepth 100000 in
theorem delete_any (a : Sx w B p h b mb v S st ks F) (mx own : Int) (sl : Value) (opl : List Int) (hsl : RdI w sl opl) (ho : (Lit.int .i64 own).wf = true) (key : Int) (hk : (Lit.int .i64 key).wf = true) :
    Calls Try.prog 39 #[.pointer (some ⟨h, 0, none⟩), vw mx sl own, .int .i64 key] w fun e w' => e = .returned (.int .i64 (delL st ⟨mx, opl, own⟩ (F key)).1) ∧
      Sx w' B p h b mb v S st ks (updF F key (delL st ⟨mx, opl, own⟩ (F key)).2) ∧ Fo (foot p b v h mb S) w w' := by
  have A := Lib.hid a; have HS := Lib.hid hsl; have HOW := Lib.hid ho
  obtain ⟨sa, sc, rfl, _⟩ := hsl
  obtain ⟨W1, hW1⟩ : ∃ W1, W1 = w.alloc (.cells #[.int .i64 mx, .slice sa opl.length sc, .int .i64 own] 51) := ⟨_, rfl⟩
  have hk1 : Kept w W1 [] := by rw [hW1]; exact (Kept.refl w []).alloc _
  have hb1 : W1.heap[w.heap.size]? = some (.cells #[.int .i64 mx, .slice sa opl.length sc, .int .i64 own] 51 (0, 0)) := by rw [hW1]; exact heap_alloc_new w _
  obtain ⟨bx, hbx⟩ : ∃ bx, bx = w.heap.size := ⟨_, rfl⟩
  rw [← hbx] at hb1
  have hbB : B ≤ bx := by rw [hbx]; exact a.size
  have HB1 := Lib.hid hb1; have K1 := Lib.hid hk1
  have cm := Lib.hid (mayWrite_any (A.out.keep hk1) mx own sa opl.length sc ho)
  have cs := Lib.hid (fun V (hV : Kept W1 V []) => seenFirst_any (A.out.keep (hk1.trans hV (by simp))) mx own (.slice sa opl.length sc) opl (HS.out.keep (hk1.trans hV (by simp))) key hk)
  have cb := Lib.hid (fun V x (hx : (Lit.int .i64 x).wf = true) (hV : Kept W1 V []) => binds_any (A.out.keep (hk1.trans hV (by simp))) mx own (.slice sa opl.length sc) opl (HS.out.keep (hk1.trans hV (by simp))) x hx)
  unfold vw at cm cs cb ⊢
  obtain ⟨y0, y1, y2⟩ := three_at hb1
  clear a ho hk hk1
  by_cases h1 : stAt st own = 1
  · have hmw : mwE st own = 0 := by rw [mwE, if_pos h1]
    rw [hmw] at cm
    cases hi : (F key).findIdx? (sees st ⟨mx, opl, own⟩) with
    | none =>
      have hD : delL st ⟨mx, opl, own⟩ (F key) = (4, F key) := by rw [delL, if_pos h1, hi]
      rw [hD, updF_self]
      rw [hi] at cs
      simp only [pv] at cs
      clear hmw h1 hD hi
      go_enter Try.func39, Try.ntmps39
      go_wp2_with fail
      rw [← hW1, ← hbx]
      clear hW1 hbx
      refine cm.out.mono ?_
      rintro e w2 ⟨rfl, k2⟩
      have K2 := Lib.hid k2
      obtain ⟨z0, z1, z2⟩ := three_at (k2.heap (by simp) HB1.out)
      clear k2 y0 y1 y2
      go_wp2_with fail
      refine (cs.out _ K2.out).mono ?_
      rintro e w3 ⟨rfl, k3⟩
      have K3 := Lib.hid (K2.out.trans k3 (by simp))
      clear k3
      go_wp2
      go_ret
      have kk := K1.out.trans K3.out (by simp)
      exact ⟨rfl, A.out.keep kk, Fo.ofKept kk _⟩
    | some i =>
      have hlt := findIdx_lt hi
      obtain ⟨r, hr⟩ : ∃ r, (F key)[i]? = some r := ⟨_, List.getElem?_eq_getElem hlt⟩
      obtain ⟨g, cap, cur, hs, hg⟩ := A.out.row hlt
      have hD : delL st ⟨mx, opl, own⟩ (F key) = if binds st ⟨mx, opl, own⟩ r.death then (6, F key) else (0, dieAt (F key) i own) := by simp only [delL, if_pos h1, hi, hr]
      rw [hD]
      rw [hi, hs] at cs
      simp only [pv] at cs
      have hok := A.out.hp.ok key r (List.mem_of_getElem? hr)
      have HR := Lib.hid hr
      have HOK := Lib.hid hok
      have HLT := Lib.hid hlt; have HSK := Lib.hid hs
      obtain ⟨q, hq⟩ : ∃ q, binds st ⟨mx, opl, own⟩ r.death = q := ⟨_, rfl⟩
      have HQ := Lib.hid hq
      rw [hq]
      obtain ⟨txt, rb, rd⟩ := r
      simp only at hq HQ hok HOK
      clear hmw h1 hD hi hr hok hlt hs hq hg
      have cbd := Lib.hid (fun V (hV : Kept W1 V []) => cb.out V rd HOK.out.2 hV)
      rw [HQ.out] at cbd
      clear cb
      go_enter Try.func39, Try.ntmps39
      go_wp2_with fail
      rw [← hW1, ← hbx]
      clear hW1 hbx
      refine cm.out.mono ?_
      rintro e w2 ⟨rfl, k2⟩
      have K2 := Lib.hid k2
      obtain ⟨z0, z1, z2⟩ := three_at (k2.heap (by simp) HB1.out)
      clear k2 y0 y1 y2
      go_wp2_with fail
      refine (cs.out _ K2.out).mono ?_
      rintro e w3 ⟨rfl, k3⟩
      have K3 := Lib.hid (K2.out.trans k3 (by simp))
      clear k3
      have z := three_at (K3.out.heap (by simp) HB1.out)
      have A3 := Lib.hid (A.out.keep (K1.out.trans K3.out (by simp)))
      obtain ⟨u0, u1, u2⟩ := z
      have ro := A3.out.hp.rows key
      rw [HSK.out] at ro
      have d3 := (row_cells ro HR.out).2.2.2
      simp only at d3
      have D3 := Lib.hid d3
      clear z0 z1 z2 ro
      have y5 : ((w3.drew.cell? ⟨bx, 0, none⟩ = some (.int .i64 mx) ∧ w3.drew.cell? ⟨bx, 1, none⟩ = some (.slice sa opl.length sc)) ∧ w3.drew.cell? ⟨bx, 2, none⟩ = some (.int .i64 own)) ∧ w3.drew.cell? ⟨g, i * 4 + 3, none⟩ = some (.int .i64 rd) := ⟨⟨⟨u0, u1⟩, u2⟩, d3⟩
      have k8 : Kept w3 w3.drew [] := (Kept.refl w3 []).drew
      cases q
      · go_wp2_with fail
        go_region_held3 (fun V => ((V.cell? ⟨bx, 0, none⟩ = some (.int .i64 mx) ∧ V.cell? ⟨bx, 1, none⟩ = some (.slice sa opl.length sc)) ∧ V.cell? ⟨bx, 2, none⟩ = some (.int .i64 own)) ∧ V.cell? ⟨g, i * 4 + 3, none⟩ = some (.int .i64 rd)) (exact y5)
          (first
            | (go_at_call 60; refine (cbd.out _ ?_).mono ?_; exact K3.out.trans k8 (by simp); rintro e w8 ⟨rfl, k9⟩; have k8 := k8.trans k9 (by simp); have y5 := And.intro (And.intro (And.intro (k8.cell (p := ⟨bx, 0, none⟩) (by simp) u0) (k8.cell (p := ⟨bx, 1, none⟩) (by simp) u1)) (k8.cell (p := ⟨bx, 2, none⟩) (by simp) u2)) (k8.cell (p := ⟨g, i * 4 + 3, none⟩) (by simp) D3.out)))
        have A8 := Lib.hid (A3.out.keep k8)
        obtain ⟨⟨⟨v0, v1⟩, v2⟩, v3⟩ := y5
        obtain ⟨g', cap', cur', hs', hg'⟩ := A8.out.row HLT.out
        have fz : w8.frozen? ⟨g, i * 4 + 3, none⟩ = false := by
          rw [HSK.out] at hs'
          simp only [Value.slice.injEq, Option.some.injEq, Addr.mk.injEq] at hs'
          obtain ⟨⟨rfl, _⟩, _, _⟩ := hs'
          exact frozen_of_row _ _ _ _ _ hg'
        have K8 := Lib.hid (K1.out.trans (K3.out.trans k8 (by simp)) (by simp))
        clear hs' hg' k8 k9 u0 u1 u2 d3
        go_wp2
        go_ret
        obtain ⟨d1, d2, _⟩ := A8.out.die HSK.out HLT.out own HOW.out
        exact ⟨rfl, d1, (Fo.ofKept K8.out _).trans d2⟩
      · go_wp2_with fail
        go_region_held3 (fun V => ((V.cell? ⟨bx, 0, none⟩ = some (.int .i64 mx) ∧ V.cell? ⟨bx, 1, none⟩ = some (.slice sa opl.length sc)) ∧ V.cell? ⟨bx, 2, none⟩ = some (.int .i64 own)) ∧ V.cell? ⟨g, i * 4 + 3, none⟩ = some (.int .i64 rd)) (exact y5)
          (first
            | (go_at_call 60; refine (cbd.out _ ?_).mono ?_; exact K3.out.trans k8 (by simp); rintro e w8 ⟨rfl, k9⟩; have k8 := k8.trans k9 (by simp); have y5 := And.intro (And.intro (And.intro (k8.cell (p := ⟨bx, 0, none⟩) (by simp) u0) (k8.cell (p := ⟨bx, 1, none⟩) (by simp) u1)) (k8.cell (p := ⟨bx, 2, none⟩) (by simp) u2)) (k8.cell (p := ⟨g, i * 4 + 3, none⟩) (by simp) D3.out)))
        have K8 := Lib.hid (K1.out.trans (K3.out.trans k8 (by simp)) (by simp))
        clear k8 k9 u0 u1 u2 d3 y5
        go_wp2
        go_ret
        refine ⟨rfl, ?_, Fo.ofKept K8.out _⟩
        show Sx _ _ _ _ _ _ _ _ _ _ (updF F key (F key))
        rw [updF_self]
        exact A.out.keep K8.out
  · have hmw : mwE st own = 7 := by rw [mwE, if_neg h1]
    rw [hmw] at cm
    have hD : delL st ⟨mx, opl, own⟩ (F key) = (7, F key) := by rw [delL, if_neg h1]
    rw [hD, updF_self]
    clear hmw h1 hD
    go_enter Try.func39, Try.ntmps39
    go_wp2_with fail
    rw [← hW1, ← hbx]
    clear hW1 hbx
    refine cm.out.mono ?_
    rintro e w2 ⟨rfl, k2⟩
    have K2 := Lib.hid (K1.out.trans k2 (by simp))
    clear k2
    go_wp2
    go_ret
    exact ⟨rfl, A.out.keep K2.out, Fo.ofKept K2.out _⟩

/-- The predicates of Insert and Redo. -/
theorem ins1_any (a : Sx w B p h b mb v S st ks F) (mx own : Int) (sl : Value) (opl : List Int) (hsl : RdI w sl opl) (b1 b2 : Nat) (c0 : w.cell? ⟨b1, 0, none⟩ = some (.pointer (some ⟨h, 0, none⟩)))
    (d0 : w.cell? ⟨b2, 0, none⟩ = some (.int .i64 mx)) (d1 : w.cell? ⟨b2, 1, none⟩ = some sl) (d2 : w.cell? ⟨b2, 2, none⟩ = some (.int .i64 own)) (key : Int) (r : Vr) (hr : VrOk r) :
    Calls Try.prog 74 #[.agg #[.int .i64 key, .string r.txt, .int .i64 r.birth, .int .i64 r.death], .pointer (some ⟨b1, 0, none⟩), .pointer (some ⟨b2, 0, none⟩)] w fun e w' => e = .returned (.bool (inWay st ⟨mx, opl, own⟩ r)) ∧ Kept w w' [] := by
  obtain ⟨hr1, hr2⟩ := hr
  have K1 := Lib.hid ((Kept.refl w []).alloc (.cells #[.int .i64 key, .string r.txt, .int .i64 r.birth, .int .i64 r.death] 124))
  have g1 := Lib.hid (heap_alloc_new w (.cells #[.int .i64 key, .string r.txt, .int .i64 r.birth, .int .i64 r.death] 124))
  have cb := binds_any (a.keep K1.out) mx own sl opl (hsl.keep K1.out) r.birth hr1
  have A := Lib.hid a
  have cc := Lib.hid (fun V (hV : Kept w V []) => committed_any (A.out.keep hV) r.death hr2)
  obtain ⟨sa, sc, rfl, _⟩ := hsl
  unfold vw at cb
  have R : Hid (inWay st ⟨mx, opl, own⟩ r = ((binds st ⟨mx, opl, own⟩ r.birth && decide (r.death ≠ own)) && !(stAt st r.death == 2))) := Lib.hid rfl
  obtain ⟨x, hx⟩ : ∃ x, binds st ⟨mx, opl, own⟩ r.birth = x := ⟨_, rfl⟩
  obtain ⟨y, hy⟩ : ∃ y, (stAt st r.death == 2) = y := ⟨_, rfl⟩
  rw [hx, hy] at R; rw [hx] at cb; rw [hy] at cc
  have l1 := World.block_lt_of_cell? w _ c0
  have l2 := World.block_lt_of_cell? w _ d0
  obtain ⟨txt, rb, rd⟩ := r
  simp only at R cb cc K1 g1
  have D2 := Lib.hid d2; have C0 := Lib.hid c0; have D0 := Lib.hid d0
  clear a hr1 hr2 hx hy
  cases x
  · go_enter Try.func74, Try.ntmps74
    go_wp2_with (go_at_call 60; refine cb.mono ?_; rintro e w' ⟨rfl, k2⟩)
    go_ret
    exact ⟨retb (by rw [R.out]; rfl), K1.out.trans k2 (by simp)⟩
  · by_cases h2 : rd = own
    · subst h2
      go_enter Try.func74, Try.ntmps74
      go_wp2_with fail
      refine cb.mono ?_
      rintro e w2 ⟨rfl, k2⟩
      have e3 : w2.cell? ⟨w.heap.size, 3, none⟩ = some (.int .i64 rd) := by rw [cell_of_row w2 _ 3 _ _ _ (k2.heap (by simp) g1.out)]; rfl
      have e4 : w2.cell? ⟨b2, 2, none⟩ = some (.int .i64 rd) := (K1.out.trans k2 (by simp)).cell (p := ⟨b2, 2, none⟩) (by simp) D2.out
      have K2 := Lib.hid (K1.out.trans k2 (by simp))
      clear k2 c0 d0 d1 d2
      go_wp2
      go_ret
      exact ⟨retb (by rw [R.out]; simp), K2.out⟩
    · have h3 : (rd != own) = true := by simpa using h2
      have R2 : Hid (inWay st ⟨mx, opl, own⟩ ⟨txt, rb, rd⟩ = !y) := Lib.hid (by rw [R.out]; simp [h2])
      go_enter Try.func74, Try.ntmps74
      go_wp2_with fail
      refine cb.mono ?_
      rintro e w2 ⟨rfl, k2⟩
      have e3 : w2.cell? ⟨w.heap.size, 3, none⟩ = some (.int .i64 rd) := by rw [cell_of_row w2 _ 3 _ _ _ (k2.heap (by simp) g1.out)]; rfl
      have e4 : w2.cell? ⟨b2, 2, none⟩ = some (.int .i64 own) := (K1.out.trans k2 (by simp)).cell (p := ⟨b2, 2, none⟩) (by simp) D2.out
      have e5 : w2.cell? ⟨b1, 0, none⟩ = some (.pointer (some ⟨h, 0, none⟩)) := (K1.out.trans k2 (by simp)).cell (p := ⟨b1, 0, none⟩) (by simp) C0.out
      have K2 := Lib.hid (K1.out.trans k2 (by simp))
      clear k2 c0 d0 d1 d2
      go_wp2_with (go_at_call 75; refine (cc.out _ K2.out).mono ?_; rintro e w' ⟨rfl, rfl⟩)
      go_ret
      exact ⟨retb (by rw [R2.out]), K2.out⟩

end Go.Proofs.Ytdjhcdgehmpikaa
