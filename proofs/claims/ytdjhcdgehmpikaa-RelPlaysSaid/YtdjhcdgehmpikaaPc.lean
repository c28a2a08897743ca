/-
  The document's heap: Delete; what an append, and a death, make of it.
-/
import Derived.Test.YtdjhcdgehmpikaaPb
namespace Go.Proofs.Ytdjhcdgehmpikaa
set_option linter.unusedVariables false
open Go.RowKit Go.Maps

variable {w w' : World} {B q h : Nat} {v lv : Value} {st : List Nat} {l : Fl}

theorem fcl_die (x : Int) : ∀ (l : Fl) (i : Nat), i < l.length → fcl (flDie l i x) = (fcl l).set (i * 4 + 3) (.int .i64 x)
  | [], i, h => by simp at h
  | a :: l, 0, _ => by simp [flDie, fcl, vcs]
  | a :: l, i + 1, h => by
    have ih := fcl_die x l i (by simpa using h)
    simp only [flDie] at ih ⊢
    rw [List.modify_succ_cons, fcl, fcl, List.flatMap_cons, List.flatMap_cons, List.set_append_right _ _ (by simp [vcs]; omega)]
    rw [show (i + 1) * 4 + 3 - (vcs a.1 a.2).length = i * 4 + 3 by simp [vcs]; omega]
    simp only [fcl] at ih
    rw [ih]

theorem flDie_length (l : Fl) (i : Nat) (x : Int) : (flDie l i x).length = l.length := by simp [flDie]

theorem Rhe.own (a : Rhe w B q h lv l) {k : Nat} (hk : lv.ownBlock = some k) : ∃ cur, w.heap[k]? = some (.cells cur 130 (0, 0)) := by
  rcases a.hv.2 with ⟨h2, _⟩ | ⟨g', cap, cur, h2, _, hh, _⟩
  · rw [h2] at hk; cases hk
  · rw [h2] at hk
    simp only [Value.ownBlock, Option.some.injEq] at hk
    subst hk
    exact ⟨cur, hh⟩

/-- The types of its blocks. -/
def tysH : List TypeId := [92, 130]
theorem Rhe.notO (a : Rhe w B q h lv l) {g : Nat} {cs : Array Value} {t : TypeId} {fz : Nat × Nat} (hg : w.heap[g]? = some (.cells cs t fz)) (ht : t ∉ tysH) : ¬ rfoot h lv g := by
  simp only [tysH, List.mem_cons, List.not_mem_nil, or_false, not_or] at ht
  rintro (rfl | hk)
  · rw [a.hh] at hg
    simp only [Option.some.injEq, Obj.cells.injEq] at hg
    exact ht.1 hg.2.1.symm
  · obtain ⟨cur, h3⟩ := a.own hk
    rw [h3] at hg
    simp only [Option.some.injEq, Obj.cells.injEq] at hg
    exact ht.2 hg.2.1.symm
theorem Rhe.heap (a : Rhe w B q h lv l) (hf : Fo (rfoot h lv) w w') {g : Nat} {cs : Array Value} {t : TypeId} {fz : Nat × Nat} (hg : w.heap[g]? = some (.cells cs t fz)) (ht : t ∉ tysH) : w'.heap[g]? = some (.cells cs t fz) := hf.heap (a.notO hg ht) hg
theorem Rhe.row (a : Rhe w B q h lv l) (hf : Fo (rfoot h lv) w w') {base e sz n : Nat} {u : Value} {xs : List Value} (hr : w.ownsRow base e sz u n xs) (he : e ∉ tysH) : w'.ownsRow base e sz u n xs := by
  refine ⟨hr.1, ?_⟩
  rcases hr.2 with h2 | ⟨g, cap, cur, rfl, hbg, hg, r⟩
  · exact .inl h2
  · exact .inr ⟨g, cap, cur, rfl, hbg, a.heap hf hg he, r⟩
theorem Rhe.vo (a : Rhe w B q h lv l) (hf : Fo (rfoot h lv) w w') {sl : Value} {m : List Int} (hv : Vo w sl m) : Vo w' sl m := a.row hf hv (by decide)
/-- The manager stands. -/
theorem Rhe.man (a : Rhe w B q h lv l) (hf : Fo (rfoot h lv) w w') (m : Rm w B q v st) : Rm w' B q v st :=
  { m with hp := a.heap hf m.hp (by decide), hv := a.row hf m.hv (by decide) }

theorem Rhe.die (a : Rhe w B q h lv l) {i g n c : Nat} (hs : lv = .slice (some ⟨g, 0, none⟩) n c) (hi : i < l.length) (x : Int) :
    Rhe (w.setCell ⟨g, i * 4 + 3, none⟩ (.int .i64 x)) B q h lv (flDie l i x) ∧ Fo (rfoot h lv) w (w.setCell ⟨g, i * 4 + 3, none⟩ (.int .i64 x)) := by
  have hb : lv.ownBlock = some g := by rw [hs]; rfl
  have fo : Fo (rfoot h lv) w (w.setCell ⟨g, i * 4 + 3, none⟩ (.int .i64 x)) := (Fo.refl _ w).setCell (p := ⟨g, i * 4 + 3, none⟩) (.inl (.inr hb)) _
  have fg : Fo (fun k => k = g) w (w.setCell ⟨g, i * 4 + 3, none⟩ (.int .i64 x)) := (Fo.refl (fun k => k = g) w).setCell (p := ⟨g, i * 4 + 3, none⟩) (.inl rfl) _
  obtain ⟨hl, hrow⟩ := a.hv
  rcases hrow with ⟨h1, _⟩ | ⟨g', cap', cur, h1, hbg, hg, hnc, hcm, hcs, htk⟩
  · rw [hs] at h1; cases h1
  rw [hs] at h1
  simp only [Value.slice.injEq, Option.some.injEq, Addr.mk.injEq] at h1
  obtain ⟨⟨rfl, _⟩, rfl, rfl⟩ := h1
  refine ⟨⟨fg.heap (fun e => by have h9 := a.hh; rw [show h = g from e, hg] at h9; simp at h9) a.hh, ?_, a.bh⟩, fo⟩
  rw [flDie_length, fcl_die x l i hi, hs]
  refine ⟨by simpa using hl, .inr ⟨g, c, _, rfl, hbg, heap_setCell_at hg _ _, hnc, hcm, by simpa using hcs, ?_⟩⟩
  rw [Array.toList_setIfInBounds, List.take_set, htk]

theorem Rhe.app {wx w9 : World} {v9 : Value} {key : Int} {r : Vr} (a : Rhe w B q h lv l) (kx : Kept w wx [])
    (ho : w9.ownsRow B 130 4 v9 (l.length + 1) (fcl l ++ vcs key r)) (hg : wx.grownBy w9 lv.ownBlock) (hl : v9.ownBlock = lv.ownBlock ∨ ∃ g, v9.ownBlock = some g ∧ wx.heap.size ≤ g) :
    w9.cell? ⟨h, 1, none⟩ = some lv ∧ w9.frozen? ⟨h, 1, none⟩ = false ∧ Rhe (w9.setCell ⟨h, 1, none⟩ v9) B q h v9 (l ++ [(key, r)]) ∧ Stp (rfoot h lv) (rfoot h v9) w (w9.setCell ⟨h, 1, none⟩ v9) ∧ Fo (rfoot h lv) w w9 := by
  have ax := a.keep kx
  have f9 : Fo (fun k => lv.ownBlock = some k) wx w9 := (Fo.refl _ wx).grown hg (fun k hk => .inl hk)
  have hno : ¬ lv.ownBlock = some h := fun e => by
    obtain ⟨cur, h3⟩ := ax.own e
    rw [ax.hh] at h3
    simp at h3
  have hh9 := f9.heap hno ax.hh
  have hn9 : ¬ v9.ownBlock = some h := fun e => by
    rcases ho.2 with ⟨h2, _⟩ | ⟨g', cap, cur, h2, _, hh, _⟩
    · rw [h2] at e; cases e
    · rw [h2] at e
      simp only [Value.ownBlock, Option.some.injEq] at e
      subst e
      rw [hh9] at hh
      simp at hh
  have f10 : Fo (fun k => k = h) w9 (w9.setCell ⟨h, 1, none⟩ v9) := (Fo.refl (fun k => k = h) w9).setCell (p := ⟨h, 1, none⟩) (.inl rfl) v9
  refine ⟨by rw [cell_of_row w9 h 1 _ _ _ hh9]; rfl, frozen_of_row _ _ _ _ _ hh9, ⟨?_, ?_, a.bh⟩, ⟨?_, ?_⟩, (Fo.ofKept kx _).trans (f9.mono (fun k hk => .inr hk))⟩
  · have := heap_setCell_at hh9 1 v9
    simpa using this
  · rw [fcl_append, List.length_append]
    have e : fcl [(key, r)] = vcs key r := by simp [fcl]
    rw [e]
    exact ownsRow_fo ho f10 (fun g hg' e => by subst e; exact hn9 hg')
  · exact (Fo.ofKept kx _).trans ((f9.mono (fun k hk => .inr hk)).trans (f10.mono (fun k hk => .inl hk)))
  · rintro k (rfl | hk)
    · exact .inl (.inl rfl)
    · rcases hl with h1 | ⟨g, h1, h2⟩
      · rw [h1] at hk; exact .inl (.inr hk)
      · rw [h1] at hk; cases hk; exact .inr (Nat.le_trans kx.size h2)

theorem find_eq {P : Vr → Bool} {k : Int} {l : Fl} : (flFind P k l = none ∧ fIdx P k l = -1) ∨ ∃ (i : Nat) (x : Int × Vr), flFind P k l = some i ∧ fIdx P k l = i ∧ l[i]? = some x ∧ x.1 = k ∧ P x.2 = true := by
  unfold fIdx
  cases hf : flFind P k l with
  | none => exact .inl ⟨rfl, rfl⟩
  | some i =>
    obtain ⟨j, r, h1, _, _, h4, _⟩ := find_some hf
    exact .inr ⟨i, (k, r), rfl, rfl, h1, rfl, h4⟩

/-- A view in a box of the document's. -/
def Bw (w : World) (g : Nat) (mx own : Int) (sl : Value) : Prop := w.heap[g]? = some (.cells #[.int .i64 mx, sl, .int .i64 own] 50 (0, 0))
theorem Bw.cells {g : Nat} {mx own : Int} {sl : Value} (a : Bw w g mx own sl) : w.cell? ⟨g, 0, none⟩ = some (.int .i64 mx) ∧ w.cell? ⟨g, 1, none⟩ = some sl ∧ w.cell? ⟨g, 2, none⟩ = some (.int .i64 own) := three_at a
theorem Bw.keep {g : Nat} {mx own : Int} {sl : Value} (a : Bw w g mx own sl) (hk : Kept w w' []) : Bw w' g mx own sl := hk.heap (by simp) a

set_option maxHeartbeats 1000000 in
set_option maxRecDepth 100000 in
theorem rdel_any (m : Rm w B q v st) (a : Rhe w B q h lv l) (mx own : Int) (sl : Value) (opl : List Int) (hsl : RdI w sl opl) (key : Int) :
    Calls Try.prog 46 #[.pointer (some ⟨h, 0, none⟩), .agg #[.int .i64 mx, sl, .int .i64 own], .int .i64 key] w fun e w' => e = .returned (.int .i64 (flDel st ⟨mx, opl, own⟩ key l).1) ∧ Rhe w' B q h lv (flDel st ⟨mx, opl, own⟩ key l).2 ∧ Fo (rfoot h lv) w w' := by
  obtain ⟨W1, hW1⟩ : ∃ W1, W1 = w.alloc (.cells #[.int .i64 mx, sl, .int .i64 own] 50) := ⟨_, rfl⟩
  have k1 : Kept w W1 [] := by rw [hW1]; exact (Kept.refl w []).alloc _
  obtain ⟨z, hz⟩ : ∃ z, z = w.heap.size := ⟨_, rfl⟩
  have g1 : Bw W1 z mx own sl := by rw [hW1, hz]; exact heap_alloc_new w _
  have G1 := Lib.hid g1; have K1 := Lib.hid k1
  have M := Lib.hid (m.keep k1); have A := Lib.hid (a.keep k1); have HS := Lib.hid (hsl.keep k1)
  obtain ⟨s, hs⟩ : ∃ s, stAt st own = s := ⟨_, rfl⟩
  have CS : Hid (∀ k, Calls Try.prog 37 #[.pointer (some ⟨q, 0, none⟩), .int .i64 own] (W1.drewN k) fun e w' => e = .returned (.int .u8 s) ∧ w' = W1.drewN k) := Lib.hid (fun k => by
    rw [← hs]; exact (rstate_any (M.out.keep ((Kept.refl _ []).drewN k)) own).mono fun _ _ h => ⟨h.1, h.2.symm⟩)
  have CF : Hid (∀ V, Kept W1 V [] → Calls Try.prog 63 #[.pointer (some ⟨h, 0, none⟩), .agg #[.int .i64 mx, sl, .int .i64 own], .int .i64 key] V fun e w' => e = .returned (.int .i64 (fIdx (sees st ⟨mx, opl, own⟩) key l)) ∧ Kept W1 w' []) := Lib.hid (fun V hV =>
    (rfind_any (M.out.keep hV) (A.out.keep hV) mx own sl opl (HS.out.keep hV) key).mono (fun _ _ h => ⟨h.1, hV.trans h.2 (by simp)⟩))
  have CT : Hid (∀ V x, Kept W1 V [] → Calls Try.prog 64 #[.pointer (some ⟨h, 0, none⟩), .agg #[.int .i64 mx, sl, .int .i64 own], .int .i64 x] V fun e w' => e = .returned (.bool (binds st ⟨mx, opl, own⟩ x)) ∧ Kept W1 w' []) := Lib.hid (fun V x hV =>
    (rtaken_any (M.out.keep hV) (A.out.keep hV) mx own sl opl x).mono (fun _ _ h => ⟨h.1, hV.trans h.2 (by simp)⟩))
  obtain ⟨sa, sc, rfl, _⟩ := hsl
  obtain ⟨z0, z1, z2⟩ := g1.cells
  have c0 := A.out.cell.1
  clear m a k1 g1
  by_cases h1 : s = 1
  · have ho : stAt st (⟨mx, opl, own⟩ : Vw).own = 1 := by rw [← h1]; exact hs
    subst h1
    rcases find_eq (P := sees st ⟨mx, opl, own⟩) (k := key) (l := l) with ⟨f1, f2⟩ | ⟨i, ⟨k, r⟩, f1, f2, f3, f4, f5⟩
    · have E : Hid (flDel st ⟨mx, opl, own⟩ key l = (4, l)) := Lib.hid (by rw [flDel, if_pos ho, f1])
      rw [f2] at CF
      clear ho hs f1 f2
      go_enter Try.func46, Try.ntmps46
      go_wp2_with fail
      rw [← hW1, ← hz]
      clear hW1 hz
      go_quiet ((go_at_call 37; exact Calls.quiet_of_same (CS.out _)))
      go_wp2_with fail
      refine (CF.out _ ((Kept.refl W1 []).drewN _)).mono ?_
      rintro e w2 ⟨rfl, k2⟩
      have K2 := Lib.hid k2
      clear k2
      go_wp2
      go_ret
      rw [E.out]
      exact ⟨rfl, A.out.keep K2.out, Fo.ofKept (K1.out.trans K2.out (by simp)) _⟩
    · simp only at f4 f5
      obtain ⟨b, hb⟩ : ∃ b, binds st ⟨mx, opl, own⟩ r.death = b := ⟨_, rfl⟩
      have il : i < l.length := (List.getElem?_eq_some_iff.1 f3).1
      obtain ⟨u, c, hlv, hlen, hsh⟩ := A.out.shape
      obtain ⟨g, hu, hnc, _, hcell⟩ := hsh (by omega)
      subst hu
      obtain ⟨_, _, _, c3⟩ := hcell i k r f3
      obtain ⟨n, hn⟩ : ∃ n, l.length = n := ⟨_, rfl⟩
      have HN := Lib.hid hn
      have c1 := A.out.cell.2
      rw [hlv, hn] at c1
      rw [hn] at hlv hlen hnc il
      have hgl := World.block_lt_of_cell? W1 _ c3
      have DS : Hid (∀ V, Kept W1 V [] → (((V.cell? ⟨z, 0, none⟩ = some (.int .i64 mx) ∧ V.cell? ⟨z, 1, none⟩ = some (.slice sa opl.length sc)) ∧ V.cell? ⟨z, 2, none⟩ = some (.int .i64 own)) ∧ V.cell? ⟨h, 1, none⟩ = some (.slice (some ⟨g, 0, none⟩) n c)) ∧ V.cell? ⟨g, i * 4 + 3, none⟩ = some (.int .i64 r.death)) := Lib.hid (fun V hV =>
        ⟨⟨⟨⟨hV.cell (p := ⟨z, 0, none⟩) (by simp) z0, hV.cell (p := ⟨z, 1, none⟩) (by simp) z1⟩, hV.cell (p := ⟨z, 2, none⟩) (by simp) z2⟩, hV.cell (p := ⟨h, 1, none⟩) (by simp) c1⟩, hV.cell (p := ⟨g, i * 4 + 3, none⟩) (by simp) c3⟩)
      have LV := Lib.hid hlv
      have CTT : Hid (∀ V, Kept W1 V [] → Calls Try.prog 64 #[.pointer (some ⟨h, 0, none⟩), .agg #[.int .i64 mx, .slice sa opl.length sc, .int .i64 own], .int .i64 r.death] V fun e w' => e = .returned (.bool b) ∧ Kept W1 w' []) := Lib.hid (fun V hV => by rw [← hb]; exact CT.out V r.death hV)
      have x1 : (i : Int) < (n : Int) := by omega
      have x0 : (0 : Int) ≤ (i : Int) := by omega
      obtain ⟨txt, rb, rd⟩ := r
      simp only at DS CTT hb
      rw [f2] at CF
      have ne1 : ¬ z = g := fun e => by
        have h9 := G1.out
        have := A.out.own (k := g) (by rw [LV.out]; rfl)
        obtain ⟨cur, this⟩ := this
        unfold Bw at h9
        rw [e, this] at h9
        simp at h9
      have ne2 : ¬ h = g := fun e => by
        have h9 := A.out.hh
        have := A.out.own (k := g) (by rw [LV.out]; rfl)
        obtain ⟨cur, this⟩ := this
        rw [e, this] at h9
        simp at h9
      have fz : ∀ V, Kept W1 V [] → V.frozen? ⟨g, i * 4 + 3, none⟩ = false := fun V hV => by
        obtain ⟨cur, this⟩ := (A.out.keep hV).own (k := g) (by rw [LV.out]; rfl)
        exact frozen_of_row _ _ _ _ _ this
      have FZ := Lib.hid fz; have NE := Lib.hid (And.intro ne1 ne2)
      clear CT hsh hcell c3 hnc fz ne1 ne2
      cases b
      · have E : Hid (flDel st ⟨mx, opl, own⟩ key l = (0, flDie l i own)) := Lib.hid (by rw [flDel, if_pos ho, f1]; simp only [f3]; rw [hb]; rfl)
        clear ho hs f1 f2 f3 f4 f5 hb hn hlv
        go_enter Try.func46, Try.ntmps46
        go_wp2_with fail
        rw [← hW1, ← hz]
        clear hW1 hz
        go_quiet ((go_at_call 37; exact Calls.quiet_of_same (CS.out _)))
        go_wp2_with fail
        refine (CF.out _ ((Kept.refl W1 []).drewN _)).mono ?_
        rintro e w2 ⟨rfl, k2⟩
        have K2 := Lib.hid k2
        clear k2 z0 z1 z2 c0 c1
        have k8 : Kept W1 w2.drew [] := K2.out.drew
        have yy := DS.out _ k8
        go_wp2_with fail
        go_region_held3 (fun V => (((V.cell? ⟨z, 0, none⟩ = some (.int .i64 mx) ∧ V.cell? ⟨z, 1, none⟩ = some (.slice sa opl.length sc)) ∧ V.cell? ⟨z, 2, none⟩ = some (.int .i64 own)) ∧ V.cell? ⟨h, 1, none⟩ = some (.slice (some ⟨g, 0, none⟩) n c)) ∧ V.cell? ⟨g, i * 4 + 3, none⟩ = some (.int .i64 rd)) (exact yy)
          (first
            | (go_at_call 64; refine (CTT.out _ ?_).mono ?_; exact k8; rintro e w8 ⟨rfl, k8⟩; have yy := DS.out _ k8))
        have K8 := Lib.hid k8
        have k9 : Kept W1 w8.drew [] := K8.out.drew
        have yd := DS.out _ k9
        have A8 := Lib.hid (A.out.keep k9)
        have ys : ((w8.drew.setCell ⟨g, i * 4 + 3, none⟩ (.int .i64 own)).cell? ⟨h, 1, none⟩ = some (.slice (some ⟨g, 0, none⟩) n c)) ∧ (w8.drew.setCell ⟨g, i * 4 + 3, none⟩ (.int .i64 own)).cell? ⟨z, 2, none⟩ = some (.int .i64 own) := ⟨set_far NE.out.2 yd.1.2, set_far NE.out.1 yd.1.1.2⟩
        have fr := FZ.out _ k9
        have y0 : w8.drew.cell? ⟨h, 1, none⟩ = some (.slice (some ⟨g, 0, none⟩) n c) ∧ w8.drew.cell? ⟨z, 2, none⟩ = some (.int .i64 own) := ⟨yd.1.2, yd.1.1.2⟩
        have y3 : w8.drew.cell? ⟨g, i * 4 + 3, none⟩ = some (.int .i64 rd) := yd.2
        clear k8 yy yd k9
        go_wp2_with fail
        go_region_held3 (fun V => V.cell? ⟨h, 1, none⟩ = some (.slice (some ⟨g, 0, none⟩) n c) ∧ V.cell? ⟨z, 2, none⟩ = some (.int .i64 own)) (first | exact y0 | exact ys) (fail)
        have D := Lib.hid (A8.out.die (i := i) LV.out (by have := HN.out; omega) own)
        have K9 := Lib.hid (K1.out.trans K8.out.drew (by simp))
        clear ys y0 y3 fr
        go_wp2
        go_ret
        rw [E.out]
        exact ⟨rfl, D.out.1, (Fo.ofKept K9.out _).trans D.out.2⟩
      · have E : Hid (flDel st ⟨mx, opl, own⟩ key l = (6, l)) := Lib.hid (by rw [flDel, if_pos ho, f1]; simp only [f3]; rw [hb]; rfl)
        clear ho hs f1 f2 f3 f4 f5 hb hn hlv
        go_enter Try.func46, Try.ntmps46
        go_wp2_with fail
        rw [← hW1, ← hz]
        clear hW1 hz
        go_quiet ((go_at_call 37; exact Calls.quiet_of_same (CS.out _)))
        go_wp2_with fail
        refine (CF.out _ ((Kept.refl W1 []).drewN _)).mono ?_
        rintro e w2 ⟨rfl, k2⟩
        have K2 := Lib.hid k2
        clear k2 z0 z1 z2 c0 c1
        have k8 : Kept W1 w2.drew [] := K2.out.drew
        have yy := DS.out _ k8
        go_wp2_with fail
        go_region_held3 (fun V => (((V.cell? ⟨z, 0, none⟩ = some (.int .i64 mx) ∧ V.cell? ⟨z, 1, none⟩ = some (.slice sa opl.length sc)) ∧ V.cell? ⟨z, 2, none⟩ = some (.int .i64 own)) ∧ V.cell? ⟨h, 1, none⟩ = some (.slice (some ⟨g, 0, none⟩) n c)) ∧ V.cell? ⟨g, i * 4 + 3, none⟩ = some (.int .i64 rd)) (exact yy)
          (first
            | (go_at_call 64; refine (CTT.out _ ?_).mono ?_; exact k8; rintro e w8 ⟨rfl, k8⟩; have yy := DS.out _ k8))
        have K8 := Lib.hid k8
        clear k8 yy
        go_wp2
        go_ret
        rw [E.out]
        exact ⟨rfl, A.out.keep K8.out, Fo.ofKept (K1.out.trans K8.out (by simp)) _⟩
  · have ho : ¬ stAt st (⟨mx, opl, own⟩ : Vw).own = 1 := fun e => h1 (by rw [← hs]; exact e)
    have E : Hid (flDel st ⟨mx, opl, own⟩ key l = (7, l)) := Lib.hid (by rw [flDel, if_neg ho])
    have x1 : ((s : Int) != 1) = true := by simp; omega
    clear ho hs h1
    go_enter Try.func46, Try.ntmps46
    go_wp2_with fail
    rw [← hW1, ← hz]
    clear hW1 hz
    go_quiet ((go_at_call 37; exact Calls.quiet_of_same (CS.out _)))
    go_wp2
    go_ret
    rw [E.out]
    exact ⟨rfl, A.out.keep ((Kept.refl W1 []).drewN _), Fo.ofKept (K1.out.drewN _) _⟩
end Go.Proofs.Ytdjhcdgehmpikaa
