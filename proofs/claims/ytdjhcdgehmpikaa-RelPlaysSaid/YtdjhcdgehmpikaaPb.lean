/-
  The document's heap in memory ('Rhe'): did, Sees, find, taken.
-/
import Derived.Test.YtdjhcdgehmpikaaPa
namespace Go.Proofs.Ytdjhcdgehmpikaa
set_option linter.unusedVariables false
open Go.RowKit Go.Maps

/-- Versions with their keys, as cells. -/
def fcl (l : Fl) : List Value := l.flatMap fun x => vcs x.1 x.2
theorem fcl_append (l m : Fl) : fcl (l ++ m) = fcl l ++ fcl m := by simp [fcl]
theorem fcl_length : ∀ l : Fl, (fcl l).length = l.length * 4
  | [] => rfl
  | x :: l => by
    have ih := fcl_length l
    simp only [fcl, List.flatMap_cons, List.length_append, List.length_cons] at ih ⊢
    rw [ih]; simp [vcs]; omega
theorem fcl_get : ∀ (l : Fl) (i j : Nat) (x : Int × Vr), l[i]? = some x → j < 4 → (fcl l)[i * 4 + j]? = (vcs x.1 x.2)[j]?
  | [], i, j, x, h, _ => by simp at h
  | y :: l, 0, j, x, h, hj => by
    simp only [List.getElem?_cons_zero, Option.some.injEq] at h
    subst h
    rw [Nat.zero_mul, Nat.zero_add, fcl, List.flatMap_cons, List.getElem?_append_left (by simp [vcs]; omega)]
  | y :: l, i + 1, j, x, h, hj => by
    have ih := fcl_get l i j x (by simpa using h) hj
    rw [fcl, List.flatMap_cons, List.getElem?_append_right (by simp [vcs]; omega)]
    rw [show (i + 1) * 4 + j - (vcs y.1 y.2).length = i * 4 + j by simp [vcs]; omega]
    exact ih

/-- The document's heap at block h over the manager at block q: lv has its versions l. -/
structure Rhe (w : World) (B q h : Nat) (lv : Value) (l : Fl) : Prop where
  hh : w.heap[h]? = some (.cells #[.pointer (some ⟨q, 0, none⟩), lv] 92 (0, 0))
  hv : w.ownsRow B 130 4 lv l.length (fcl l)
  bh : B ≤ h

def rfoot (h : Nat) (lv : Value) : Nat → Prop := fun k => k = h ∨ lv.ownBlock = some k

variable {w w' : World} {B q h : Nat} {v lv : Value} {st : List Nat} {l : Fl}

theorem Rhe.fo {O : Nat → Prop} (a : Rhe w B q h lv l) (hf : Fo O w w') (hd : ∀ k, rfoot h lv k → ¬ O k) : Rhe w' B q h lv l :=
  ⟨hf.heap (hd h (.inl rfl)) a.hh, ownsRow_fo a.hv hf (fun g hg => hd g (.inr hg)), a.bh⟩
theorem Rhe.keep (a : Rhe w B q h lv l) (hk : Kept w w' []) : Rhe w' B q h lv l := a.fo (Fo.ofKept hk (fun _ => False)) (fun _ _ h => h)
theorem Rhe.cell (a : Rhe w B q h lv l) : w.cell? ⟨h, 0, none⟩ = some (.pointer (some ⟨q, 0, none⟩)) ∧ w.cell? ⟨h, 1, none⟩ = some lv := by
  constructor
  · rw [cell_of_row w h 0 _ _ _ a.hh]; rfl
  · rw [cell_of_row w h 1 _ _ _ a.hh]; rfl
theorem Rhe.size (a : Rhe w B q h lv l) : B ≤ w.heap.size := by have := heap_lt a.hh; have := a.bh; omega
theorem Rhe.bound (a : Rhe w B q h lv l) : ∀ k, rfoot h lv k → B ≤ k ∧ k < w.heap.size := by
  rintro k (rfl | hk)
  · exact ⟨a.bh, heap_lt a.hh⟩
  · exact World.ownsRow.lt a.hv k hk

/-- The list in memory: its length, and its versions' cells. -/
theorem Rhe.shape (a : Rhe w B q h lv l) : ∃ u c, lv = .slice u l.length c ∧ l.length ≤ 9223372036854775807 ∧ (0 < l.length → ∃ g, u = some ⟨g, 0, none⟩ ∧ l.length ≤ c ∧ (∃ cur, w.heap[g]? = some (.cells cur 130 (0, 0))) ∧ ∀ (i : Nat) (k : Int) (r : Vr), l[i]? = some (k, r) →
    w.cell? ⟨g, i * 4, none⟩ = some (.int .i64 k) ∧ w.cell? ⟨g, i * 4 + 1, none⟩ = some (.string r.txt) ∧ w.cell? ⟨g, i * 4 + 2, none⟩ = some (.int .i64 r.birth) ∧ w.cell? ⟨g, i * 4 + 3, none⟩ = some (.int .i64 r.death)) := by
  obtain ⟨u, c, rfl⟩ := ownsRow_shape a.hv
  refine ⟨u, c, rfl, ?_, fun h0 => ?_⟩
  · rcases own_head a.hv with h | h <;> omega
  · rcases id a.hv.2 with ⟨_, h0'⟩ | ⟨g, cap, cur, hv, hbg, hg, hnc, hcm, hcs, htk⟩
    · omega
    · simp only [Value.slice.injEq] at hv
      obtain ⟨rfl, _, rfl⟩ := hv
      refine ⟨g, rfl, hnc, ⟨cur, hg⟩, fun i k r hr => ?_⟩
      have cell : ∀ j, j < 4 → ∀ x, (vcs k r)[j]? = some x → w.cell? ⟨g, i * 4 + j, none⟩ = some x := fun j hj x hx => by
        have := World.ownsRow.cells a.hv (g := g) rfl (i * 4 + j) x (by rw [fcl_get l i j (k, r) hr hj]; exact hx)
        simpa [Addr.add_lit] using this
      exact ⟨cell 0 (by decide) _ rfl, cell 1 (by decide) _ rfl, cell 2 (by decide) _ rfl, cell 3 (by decide) _ rfl⟩

set_option maxRecDepth 20000 in
theorem rdid_any (m : Rm w B q v st) (a : Rhe w B q h lv l) (mx own : Int) (sl : Value) (opl : List Int) (hsl : RdI w sl opl) (x : Int) :
    Calls Try.prog 81 #[.pointer (some ⟨h, 0, none⟩), .agg #[.int .i64 mx, sl, .int .i64 own], .int .i64 x] w fun e w' => e = .returned (.bool (did st ⟨mx, opl, own⟩ x)) ∧ Kept w w' [] := by
  have k1 : ∀ o, Kept w (w.alloc o) [] := fun o => (Kept.refl w []).alloc o
  have M := Lib.hid m
  have CS : Hid (∀ o, Calls Try.prog 37 #[.pointer (some ⟨q, 0, none⟩), .int .i64 x] (w.alloc o) fun e w' => e = .returned (.int .u8 (stAt st x)) ∧ w.alloc o = w') := Lib.hid (fun o => rstate_any (M.out.keep (k1 o)) x)
  have CR : Hid (∀ o, Calls Try.prog 73 #[.agg #[.int .i64 mx, sl], .int .i64 x] (w.alloc o) fun e w' => e = .returned (.bool (seesB mx opl x)) ∧ Kept w w' []) := Lib.hid (fun o => (rsees_any mx x sl opl _ (hsl.keep (k1 o))).mono (fun _ _ h => ⟨h.1, (k1 o).trans h.2 (by simp)⟩))
  have c0 := a.cell.1
  have hb := World.block_lt_of_cell? w _ c0
  obtain ⟨sa, sc, rfl, _⟩ := hsl
  have KK := Lib.hid k1
  clear m a k1 M
  by_cases h1 : x < 1
  · have e : did st ⟨mx, opl, own⟩ x = false := by
      have : stAt st x = 0 := stAt_out (.inl h1)
      simp [did, this]; omega
    rw [e]
    have x1 : decide (x < 1) = true := by simpa using h1
    clear e
    go_enter Try.func81, Try.ntmps81
    go_wp2
    go_ret
    exact ⟨rfl, KK.out _⟩
  · by_cases h2 : x = own
    · have e : did st ⟨mx, opl, own⟩ x = true := by simp [did, h2]; omega
      rw [e]
      subst h2
      clear e
      go_enter Try.func81, Try.ntmps81
      go_wp2
      go_ret
      exact ⟨rfl, KK.out _⟩
    · have e : did st ⟨mx, opl, own⟩ x = (stAt st x == 2 && seesB mx opl x) := by simp [did, h2]
      rw [e]
      obtain ⟨s, hs⟩ : ∃ s, stAt st x = s := ⟨_, rfl⟩
      obtain ⟨y, hy⟩ : ∃ y, seesB mx opl x = y := ⟨_, rfl⟩
      rw [hs] at CS ⊢
      rw [hy] at CR ⊢
      have x2 : (x == own) = false := by simpa using h2
      clear e hs hy h2
      by_cases h3 : s = 2
      · subst h3
        go_enter Try.func81, Try.ntmps81
        go_wp2_with fail
        refine (CS.out _).mono ?_
        rintro e w2 ⟨rfl, rfl⟩
        go_wp2_with fail
        refine (CR.out _).mono ?_
        rintro e w3 ⟨rfl, k3⟩
        have K3 := Lib.hid k3
        clear k3
        go_wp2
        go_ret
        exact ⟨retb (by simp), K3.out⟩
      · have x3 : ¬ (s : Int) = 2 := by omega
        have x4 : (s == 2) = false := by simpa using h3
        rw [x4]
        clear h3 x4
        go_enter Try.func81, Try.ntmps81
        go_wp2_with fail
        refine (CS.out _).mono ?_
        rintro e w2 ⟨rfl, rfl⟩
        go_wp2
        go_ret
        exact ⟨retb (by simp), KK.out _⟩

set_option maxRecDepth 20000 in
theorem rtaken_any (m : Rm w B q v st) (a : Rhe w B q h lv l) (mx own : Int) (sl : Value) (opl : List Int) (x : Int) :
    Calls Try.prog 64 #[.pointer (some ⟨h, 0, none⟩), .agg #[.int .i64 mx, sl, .int .i64 own], .int .i64 x] w fun e w' => e = .returned (.bool (binds st ⟨mx, opl, own⟩ x)) ∧ Kept w w' [] := by
  have k1 : ∀ o, Kept w (w.alloc o) [] := fun o => (Kept.refl w []).alloc o
  have CS : Hid (∀ o, Calls Try.prog 37 #[.pointer (some ⟨q, 0, none⟩), .int .i64 x] (w.alloc o) fun e w' => e = .returned (.int .u8 (stAt st x)) ∧ w.alloc o = w') := Lib.hid (fun o => rstate_any (m.keep (k1 o)) x)
  have c0 := a.cell.1
  have hb := World.block_lt_of_cell? w _ c0
  have KK := Lib.hid k1
  obtain ⟨s, hs⟩ : ∃ s, stAt st x = s := ⟨_, rfl⟩
  have e : binds st ⟨mx, opl, own⟩ x = (s == 2 || (decide (x ≠ own) && s == 1)) := by rw [binds, hs]
  rw [e]
  rw [hs] at CS
  clear m a k1 e hs
  by_cases h2 : s = 2
  · subst h2
    go_enter Try.func64, Try.ntmps64
    go_wp2_with fail
    refine (CS.out _).mono ?_
    rintro e w2 ⟨rfl, rfl⟩
    go_wp2
    go_ret
    exact ⟨retb (by simp), KK.out _⟩
  · have x2 : ¬ (s : Int) = 2 := by omega
    have y2 : (s == 2) = false := by simpa using h2
    rw [y2]
    by_cases h1 : s = 1
    · subst h1
      by_cases h3 : x = own
      · subst h3
        go_enter Try.func64, Try.ntmps64
        go_wp2_with fail
        refine (CS.out _).mono ?_
        rintro e w2 ⟨rfl, rfl⟩
        go_wp2
        go_ret
        exact ⟨retb (by simp), KK.out _⟩
      · have x3 : (x != own) = true := by simpa using h3
        have Y : Hid ((false || (decide (x ≠ own) && (1 : Nat) == 1)) = true) := Lib.hid (by simp [h3])
        rw [Y.out]
        go_enter Try.func64, Try.ntmps64
        go_wp2_with fail
        refine (CS.out _).mono ?_
        rintro e w2 ⟨rfl, rfl⟩
        go_wp2
        go_ret
        exact ⟨rfl, KK.out _⟩
    · have x1 : ¬ (s : Int) = 1 := by omega
      have Y : Hid ((false || (decide (x ≠ own) && s == 1)) = false) := Lib.hid (by simp [h1])
      rw [Y.out]
      clear h1 h2 y2
      go_enter Try.func64, Try.ntmps64
      go_wp2_with fail
      refine (CS.out _).mono ?_
      rintro e w2 ⟨rfl, rfl⟩
      go_wp2
      go_ret
      exact ⟨retb (by simp; omega), KK.out _⟩

/-- The cells that Sees loads. -/
def SeesS (V : World) (g h z o : Nat) (mx own : Int) (sl lv : Value) (rb rd : Int) : Prop :=
  ((((V.cell? ⟨z, 0, none⟩ = some (.int .i64 mx) ∧ V.cell? ⟨z, 1, none⟩ = some sl) ∧ V.cell? ⟨z, 2, none⟩ = some (.int .i64 own)) ∧ V.cell? ⟨h, 1, none⟩ = some lv) ∧ V.cell? ⟨g, o + 2, none⟩ = some (.int .i64 rb)) ∧ V.cell? ⟨g, o + 3, none⟩ = some (.int .i64 rd)

theorem SeesS.keep {g z o : Nat} {mx own : Int} {sl : Value} {rb rd : Int} (f : SeesS w g h z o mx own sl lv rb rd) (hk : Kept w w' []) : SeesS w' g h z o mx own sl lv rb rd := by
  obtain ⟨⟨⟨⟨⟨e0, e1⟩, e2⟩, e3⟩, e4⟩, e5⟩ := f
  exact ⟨⟨⟨⟨⟨hk.cell (p := ⟨z, 0, none⟩) (by simp) e0, hk.cell (p := ⟨z, 1, none⟩) (by simp) e1⟩, hk.cell (p := ⟨z, 2, none⟩) (by simp) e2⟩, hk.cell (p := ⟨h, 1, none⟩) (by simp) e3⟩, hk.cell (p := ⟨g, o + 2, none⟩) (by simp) e4⟩, hk.cell (p := ⟨g, o + 3, none⟩) (by simp) e5⟩

set_option maxHeartbeats 1000000 in
set_option maxRecDepth 100000 in
theorem rsees_h (m : Rm w B q v st) (a : Rhe w B q h lv l) (mx own : Int) (sl : Value) (opl : List Int) (hsl : RdI w sl opl) {i : Nat} {k : Int} {r : Vr} (hr : l[i]? = some (k, r)) :
    Calls Try.prog 65 #[.pointer (some ⟨h, 0, none⟩), .agg #[.int .i64 mx, sl, .int .i64 own], .int .i64 i] w fun e w' => e = .returned (.bool (sees st ⟨mx, opl, own⟩ r)) ∧ Kept w w' [] := by
  have hil : i < l.length := (List.getElem?_eq_some_iff.1 hr).1
  obtain ⟨u, c, rfl, hlen, hsh⟩ := a.shape
  obtain ⟨g, rfl, hnc, _, hcell⟩ := hsh (by omega)
  obtain ⟨_, _, c2, c3⟩ := hcell i k r hr
  obtain ⟨W1, hW1⟩ : ∃ W1, W1 = w.alloc (.cells #[.int .i64 mx, sl, .int .i64 own] 50) := ⟨_, rfl⟩
  have k1 : Kept w W1 [] := by rw [hW1]; exact (Kept.refl w []).alloc _
  have g1 : W1.heap[w.heap.size]? = some (.cells #[.int .i64 mx, sl, .int .i64 own] 50 (0, 0)) := by rw [hW1]; exact heap_alloc_new w _
  obtain ⟨z, hz⟩ : ∃ z, z = w.heap.size := ⟨_, rfl⟩
  rw [← hz] at g1
  obtain ⟨v0, v1, v2⟩ := three_at g1
  have f1 : SeesS W1 g h z (i * 4) mx own sl (.slice (some ⟨g, 0, none⟩) l.length c) r.birth r.death := ⟨⟨⟨⟨⟨v0, v1⟩, v2⟩, (a.keep k1).cell.2⟩, k1.cell (p := ⟨g, i * 4 + 2, none⟩) (by simp) c2⟩, k1.cell (p := ⟨g, i * 4 + 3, none⟩) (by simp) c3⟩
  have FF : Hid (∀ V, Kept W1 V [] → SeesS V g h z (i * 4) mx own sl (.slice (some ⟨g, 0, none⟩) l.length c) r.birth r.death) := Lib.hid (fun V hV => f1.keep hV)
  have CD : Hid (∀ V x, Kept W1 V [] → Calls Try.prog 81 #[.pointer (some ⟨h, 0, none⟩), .agg #[.int .i64 mx, sl, .int .i64 own], .int .i64 x] V fun e w' => e = .returned (.bool (did st ⟨mx, opl, own⟩ x)) ∧ Kept W1 w' []) := Lib.hid (fun V x hV =>
    (rdid_any (m.keep (k1.trans hV (by simp))) (a.keep (k1.trans hV (by simp))) mx own sl opl (hsl.keep (k1.trans hV (by simp))) x).mono (fun _ _ h => ⟨h.1, hV.trans h.2 (by simp)⟩))
  have K1 := Lib.hid k1
  obtain ⟨txt, rb, rd⟩ := r
  simp only at FF
  obtain ⟨y, hy⟩ : ∃ y, did st ⟨mx, opl, own⟩ rb = y := ⟨_, rfl⟩
  obtain ⟨x, hx⟩ : ∃ x, did st ⟨mx, opl, own⟩ rd = x := ⟨_, rfl⟩
  have e : sees st ⟨mx, opl, own⟩ ⟨txt, rb, rd⟩ = (y && !x) := by rw [sees, hy, hx]
  rw [e]
  have CB : Hid (∀ V, Kept W1 V [] → Calls Try.prog 81 #[.pointer (some ⟨h, 0, none⟩), .agg #[.int .i64 mx, sl, .int .i64 own], .int .i64 rb] V fun e w' => e = .returned (.bool y) ∧ Kept W1 w' []) := Lib.hid (fun V hV => by rw [← hy]; exact CD.out V rb hV)
  have CE : Hid (∀ V, Kept W1 V [] → Calls Try.prog 81 #[.pointer (some ⟨h, 0, none⟩), .agg #[.int .i64 mx, sl, .int .i64 own], .int .i64 rd] V fun e w' => e = .returned (.bool x) ∧ Kept W1 w' []) := Lib.hid (fun V hV => by rw [← hx]; exact CD.out V rd hV)
  obtain ⟨sa, sc, rfl, _⟩ := hsl
  have x1 : (i : Int) < (l.length : Int) := by omega
  have x0 : (0 : Int) ≤ (i : Int) := by omega
  obtain ⟨n, hn⟩ : ∃ n, l.length = n := ⟨_, rfl⟩
  rw [hn] at FF x1 hlen hnc hil
  clear m a hr hsh hcell c2 c3 k1 g1 v0 v1 v2 f1 CD e hy hx hn
  cases y
  · go_enter Try.func65, Try.ntmps65
    go_wp2_with fail
    rw [← hW1, ← hz]
    clear hW1 hz
    refine wp_region_held_drew (S := fun V => SeesS V g h z (i * 4) mx own (.slice sa opl.length sc) (.slice (some ⟨g, 0, none⟩) n c) rb rd) (by kernel_rfl) (FF.out _ ((Kept.refl W1 []).drew)) (fun hHeld => ?_)
    refine wpAnyH_take (i := 0) (oi := _) (v := .pointer (some ⟨h, 0, none⟩)) rfl (by kernel_rfl) (by kernel_rfl) (by kernel_rfl) (fun _ _ _ h => h) (Or.inl ⟨by rfl, fun V hV => by go_simp⟩) hHeld ?_
    change wpAnyH _ _ _ _ _ _ _ (Act.put _ (some 7) _) _
    simp only [Act.put, List.setIfInBounds_toArray, List.set_cons_zero, List.set_cons_succ]
    refine wpAnyH_take (i := 1) (oi := _) (v := .agg #[.int .i64 mx, .slice sa opl.length sc, .int .i64 own]) rfl (by kernel_rfl) (by kernel_rfl) (by kernel_rfl) (fun _ _ _ h => h) (Or.inl ⟨by rfl, fun V hV => by (obtain ⟨⟨⟨⟨⟨e0, e1⟩, e2⟩, e3⟩, e4⟩, e5⟩ := hV; go_simp)⟩) hHeld ?_
    change wpAnyH _ _ _ _ _ _ _ (Act.put _ (some 8) _) _
    simp only [Act.put, List.setIfInBounds_toArray, List.set_cons_zero, List.set_cons_succ]
    refine wpAnyH_take (i := 2) (oi := _) (v := .pointer (some ⟨h, 0, none⟩)) rfl (by kernel_rfl) (by kernel_rfl) (by kernel_rfl) (fun _ _ _ h => h) (Or.inl ⟨by rfl, fun V hV => by go_simp⟩) hHeld ?_
    change wpAnyH _ _ _ _ _ _ _ (Act.put _ (some 9) _) _
    simp only [Act.put, List.setIfInBounds_toArray, List.set_cons_zero, List.set_cons_succ]
    refine wpAnyH_take (i := 3) (oi := _) (v := .pointer (some ⟨h, 0, none⟩)) rfl (by kernel_rfl) (by kernel_rfl) (by kernel_rfl) (fun _ _ _ h => h) (Or.inl ⟨by rfl, fun V hV => by go_simp⟩) hHeld ?_
    change wpAnyH _ _ _ _ _ _ _ (Act.put _ (some 10) _) _
    simp only [Act.put, List.setIfInBounds_toArray, List.set_cons_zero, List.set_cons_succ]
    refine wpAnyH_take (i := 4) (oi := _) (v := .pointer (some ⟨h, 1, none⟩)) rfl (by kernel_rfl) (by kernel_rfl) (by kernel_rfl) (fun _ _ _ h => h) (Or.inl ⟨by rfl, fun V hV => by go_simp⟩) hHeld ?_
    change wpAnyH _ _ _ _ _ _ _ (Act.put _ (some 11) _) _
    simp only [Act.put, List.setIfInBounds_toArray, List.set_cons_zero, List.set_cons_succ]
    refine wpAnyH_take (i := 5) (oi := _) (v := .slice (some ⟨g, 0, none⟩) n c) rfl (by kernel_rfl) (by kernel_rfl) (by kernel_rfl) (fun _ _ _ h => h) (Or.inl ⟨by rfl, fun V hV => by (obtain ⟨⟨⟨⟨⟨e0, e1⟩, e2⟩, e3⟩, e4⟩, e5⟩ := hV; go_simp)⟩) hHeld ?_
    change wpAnyH _ _ _ _ _ _ _ (Act.put _ (some 12) _) _
    simp only [Act.put, List.setIfInBounds_toArray, List.set_cons_zero, List.set_cons_succ]
    refine wpAnyH_take (i := 6) (oi := _) (v := .int .i64 i) rfl (by kernel_rfl) (by kernel_rfl) (by kernel_rfl) (fun _ _ _ h => h) (Or.inl ⟨by rfl, fun V hV => by go_simp⟩) hHeld ?_
    change wpAnyH _ _ _ _ _ _ _ (Act.put _ (some 13) _) _
    simp only [Act.put, List.setIfInBounds_toArray, List.set_cons_zero, List.set_cons_succ]
    refine wpAnyH_take (i := 7) (oi := _) (v := .pointer (some ⟨g, i * 4, none⟩)) rfl (by kernel_rfl) (by kernel_rfl) (by kernel_rfl) (fun _ _ _ h => h) (Or.inl ⟨by rfl, fun V hV => by go_simp⟩) hHeld ?_
    change wpAnyH _ _ _ _ _ _ _ (Act.put _ (some 14) _) _
    simp only [Act.put, List.setIfInBounds_toArray, List.set_cons_zero, List.set_cons_succ]
    refine wpAnyH_take (i := 8) (oi := _) (v := .pointer (some ⟨g, i * 4 + 2, none⟩)) rfl (by kernel_rfl) (by kernel_rfl) (by kernel_rfl) (fun _ _ _ h => h) (Or.inl ⟨by rfl, fun V hV => by go_simp⟩) hHeld ?_
    change wpAnyH _ _ _ _ _ _ _ (Act.put _ (some 15) _) _
    simp only [Act.put, List.setIfInBounds_toArray, List.set_cons_zero, List.set_cons_succ]
    refine wpAnyH_take (i := 9) (oi := _) (v := .int .i64 rb) rfl (by kernel_rfl) (by kernel_rfl) (by kernel_rfl) (fun _ _ _ h => h) (Or.inl ⟨by rfl, fun V hV => by (obtain ⟨⟨⟨⟨⟨e0, e1⟩, e2⟩, e3⟩, e4⟩, e5⟩ := hV; go_simp)⟩) hHeld ?_
    change wpAnyH _ _ _ _ _ _ _ (Act.put _ (some 16) _) _
    simp only [Act.put, List.setIfInBounds_toArray, List.set_cons_zero, List.set_cons_succ]
    refine wpAnyH_ready (rs := [10]) (by kernel_rfl) (by simp) ?_
    refine AllReadyH.cons (o := _) rfl (fun K hK => ?_) AllReadyH.nil
    go_simp
    go_at_call 81
    refine (CB.out _ ?_).mono ?_
    exact (Kept.refl W1 []).drew
    rintro e w8 ⟨rfl, k8⟩
    have K8 := Lib.hid k8
    clear k8
    go_wp2_with fail
    refine hK.out _ _ (FF.out _ K8.out) (fun hHeld => ?_)
    clear hK K
    refine wpAnyH_take (i := 11) (oi := _) (v := .bool false) rfl (by kernel_rfl) (by kernel_rfl) (by kernel_rfl) (fun _ _ _ h => h) (Or.inl ⟨by rfl, fun V hV => by go_simp⟩) hHeld ?_
    change wpAnyH _ _ _ _ _ _ _ (Act.put _ (some 18) _) _
    simp only [Act.put, List.setIfInBounds_toArray, List.set_cons_zero, List.set_cons_succ]
    refine wpAnyH_take (i := 12) (oi := _) (v := undef) rfl (by kernel_rfl) (by kernel_rfl) (by kernel_rfl) (fun _ _ _ h => h) (Or.inr ⟨by rfl, rfl⟩) hHeld ?_
    change wpAnyH _ _ _ _ _ _ _ (Act.put _ (some 19) _) _
    simp only [Act.put, List.setIfInBounds_toArray, List.set_cons_zero, List.set_cons_succ]
    refine wpAnyH_take (i := 13) (oi := _) (v := undef) rfl (by kernel_rfl) (by kernel_rfl) (by kernel_rfl) (fun _ _ _ h => h) (Or.inr ⟨by rfl, rfl⟩) hHeld ?_
    change wpAnyH _ _ _ _ _ _ _ (Act.put _ (some 20) _) _
    simp only [Act.put, List.setIfInBounds_toArray, List.set_cons_zero, List.set_cons_succ]
    refine wpAnyH_take (i := 14) (oi := _) (v := undef) rfl (by kernel_rfl) (by kernel_rfl) (by kernel_rfl) (fun _ _ _ h => h) (Or.inr ⟨by rfl, rfl⟩) hHeld ?_
    change wpAnyH _ _ _ _ _ _ _ (Act.put _ (some 21) _) _
    simp only [Act.put, List.setIfInBounds_toArray, List.set_cons_zero, List.set_cons_succ]
    refine wpAnyH_take (i := 15) (oi := _) (v := undef) rfl (by kernel_rfl) (by kernel_rfl) (by kernel_rfl) (fun _ _ _ h => h) (Or.inr ⟨by rfl, rfl⟩) hHeld ?_
    change wpAnyH _ _ _ _ _ _ _ (Act.put _ (some 22) _) _
    simp only [Act.put, List.setIfInBounds_toArray, List.set_cons_zero, List.set_cons_succ]
    refine wpAnyH_take (i := 16) (oi := _) (v := undef) rfl (by kernel_rfl) (by kernel_rfl) (by kernel_rfl) (fun _ _ _ h => h) (Or.inr ⟨by rfl, rfl⟩) hHeld ?_
    change wpAnyH _ _ _ _ _ _ _ (Act.put _ (some 23) _) _
    simp only [Act.put, List.setIfInBounds_toArray, List.set_cons_zero, List.set_cons_succ]
    refine wpAnyH_take (i := 17) (oi := _) (v := undef) rfl (by kernel_rfl) (by kernel_rfl) (by kernel_rfl) (fun _ _ _ h => h) (Or.inr ⟨by rfl, rfl⟩) hHeld ?_
    change wpAnyH _ _ _ _ _ _ _ (Act.put _ (some 24) _) _
    simp only [Act.put, List.setIfInBounds_toArray, List.set_cons_zero, List.set_cons_succ]
    refine wpAnyH_take (i := 18) (oi := _) (v := undef) rfl (by kernel_rfl) (by kernel_rfl) (by kernel_rfl) (fun _ _ _ h => h) (Or.inr ⟨by rfl, rfl⟩) hHeld ?_
    change wpAnyH _ _ _ _ _ _ _ (Act.put _ (some 25) _) _
    simp only [Act.put, List.setIfInBounds_toArray, List.set_cons_zero, List.set_cons_succ]
    refine wpAnyH_take (i := 19) (oi := _) (v := undef) rfl (by kernel_rfl) (by kernel_rfl) (by kernel_rfl) (fun _ _ _ h => h) (Or.inr ⟨by rfl, rfl⟩) hHeld ?_
    change wpAnyH _ _ _ _ _ _ _ (Act.put _ (some 26) _) _
    simp only [Act.put, List.setIfInBounds_toArray, List.set_cons_zero, List.set_cons_succ]
    refine wpAnyH_take (i := 20) (oi := _) (v := undef) rfl (by kernel_rfl) (by kernel_rfl) (by kernel_rfl) (fun _ _ _ h => h) (Or.inr ⟨by rfl, rfl⟩) hHeld ?_
    change wpAnyH _ _ _ _ _ _ _ (Act.put _ (some 27) _) _
    simp only [Act.put, List.setIfInBounds_toArray, List.set_cons_zero, List.set_cons_succ]
    refine wpAnyH_take (i := 21) (oi := _) (v := undef) rfl (by kernel_rfl) (by kernel_rfl) (by kernel_rfl) (fun _ _ _ h => h) (Or.inr ⟨by rfl, rfl⟩) hHeld ?_
    change wpAnyH _ _ _ _ _ _ _ (Act.put _ (some 28) _) _
    simp only [Act.put, List.setIfInBounds_toArray, List.set_cons_zero, List.set_cons_succ]
    refine wpAnyH_take (i := 22) (oi := _) (v := undef) rfl (by kernel_rfl) (by kernel_rfl) (by kernel_rfl) (fun _ _ _ h => h) (Or.inr ⟨by rfl, rfl⟩) hHeld ?_
    change wpAnyH _ _ _ _ _ _ _ (Act.put _ (some 29) _) _
    simp only [Act.put, List.setIfInBounds_toArray, List.set_cons_zero, List.set_cons_succ]
    refine wpAnyH_take (i := 23) (oi := _) (v := undef) rfl (by kernel_rfl) (by kernel_rfl) (by kernel_rfl) (fun _ _ _ h => h) (Or.inr ⟨by rfl, rfl⟩) hHeld ?_
    change wpAnyH _ _ _ _ _ _ _ (Act.put _ (some 30) _) _
    simp only [Act.put, List.setIfInBounds_toArray, List.set_cons_zero, List.set_cons_succ]
    refine wpAnyH_take (i := 24) (oi := _) (v := .bool false) rfl (by kernel_rfl) (by kernel_rfl) (by kernel_rfl) (fun _ _ _ h => h) (Or.inl ⟨by rfl, fun V hV => by go_simp⟩) hHeld ?_
    change wpAnyH _ _ _ _ _ _ _ (Act.put _ (some 31) _) _
    simp only [Act.put, List.setIfInBounds_toArray, List.set_cons_zero, List.set_cons_succ]
    refine wpAnyH_take (i := 25) (oi := _) (v := .bool false) rfl (by kernel_rfl) (by kernel_rfl) (by kernel_rfl) (fun _ _ _ h => h) (Or.inl ⟨by rfl, fun V hV => by go_simp⟩) hHeld ?_
    change wpAnyH _ _ _ _ _ _ _ (Act.put _ (some 6) _) _
    simp only [Act.put, List.setIfInBounds_toArray, List.set_cons_zero, List.set_cons_succ]
    refine wpAnyH_done (by kernel_rfl) ?_ _
    go_wp2
    go_ret
    exact ⟨retb (by simp), K1.out.trans K8.out (by simp)⟩
  · go_enter Try.func65, Try.ntmps65
    go_wp2_with fail
    rw [← hW1, ← hz]
    clear hW1 hz
    refine wp_region_held_drew (S := fun V => SeesS V g h z (i * 4) mx own (.slice sa opl.length sc) (.slice (some ⟨g, 0, none⟩) n c) rb rd) (by kernel_rfl) (FF.out _ ((Kept.refl W1 []).drew)) (fun hHeld => ?_)
    refine wpAnyH_take (i := 0) (oi := _) (v := .pointer (some ⟨h, 0, none⟩)) rfl (by kernel_rfl) (by kernel_rfl) (by kernel_rfl) (fun _ _ _ h => h) (Or.inl ⟨by rfl, fun V hV => by go_simp⟩) hHeld ?_
    change wpAnyH _ _ _ _ _ _ _ (Act.put _ (some 7) _) _
    simp only [Act.put, List.setIfInBounds_toArray, List.set_cons_zero, List.set_cons_succ]
    refine wpAnyH_take (i := 1) (oi := _) (v := .agg #[.int .i64 mx, .slice sa opl.length sc, .int .i64 own]) rfl (by kernel_rfl) (by kernel_rfl) (by kernel_rfl) (fun _ _ _ h => h) (Or.inl ⟨by rfl, fun V hV => by (obtain ⟨⟨⟨⟨⟨e0, e1⟩, e2⟩, e3⟩, e4⟩, e5⟩ := hV; go_simp)⟩) hHeld ?_
    change wpAnyH _ _ _ _ _ _ _ (Act.put _ (some 8) _) _
    simp only [Act.put, List.setIfInBounds_toArray, List.set_cons_zero, List.set_cons_succ]
    refine wpAnyH_take (i := 2) (oi := _) (v := .pointer (some ⟨h, 0, none⟩)) rfl (by kernel_rfl) (by kernel_rfl) (by kernel_rfl) (fun _ _ _ h => h) (Or.inl ⟨by rfl, fun V hV => by go_simp⟩) hHeld ?_
    change wpAnyH _ _ _ _ _ _ _ (Act.put _ (some 9) _) _
    simp only [Act.put, List.setIfInBounds_toArray, List.set_cons_zero, List.set_cons_succ]
    refine wpAnyH_take (i := 3) (oi := _) (v := .pointer (some ⟨h, 0, none⟩)) rfl (by kernel_rfl) (by kernel_rfl) (by kernel_rfl) (fun _ _ _ h => h) (Or.inl ⟨by rfl, fun V hV => by go_simp⟩) hHeld ?_
    change wpAnyH _ _ _ _ _ _ _ (Act.put _ (some 10) _) _
    simp only [Act.put, List.setIfInBounds_toArray, List.set_cons_zero, List.set_cons_succ]
    refine wpAnyH_take (i := 4) (oi := _) (v := .pointer (some ⟨h, 1, none⟩)) rfl (by kernel_rfl) (by kernel_rfl) (by kernel_rfl) (fun _ _ _ h => h) (Or.inl ⟨by rfl, fun V hV => by go_simp⟩) hHeld ?_
    change wpAnyH _ _ _ _ _ _ _ (Act.put _ (some 11) _) _
    simp only [Act.put, List.setIfInBounds_toArray, List.set_cons_zero, List.set_cons_succ]
    refine wpAnyH_take (i := 5) (oi := _) (v := .slice (some ⟨g, 0, none⟩) n c) rfl (by kernel_rfl) (by kernel_rfl) (by kernel_rfl) (fun _ _ _ h => h) (Or.inl ⟨by rfl, fun V hV => by (obtain ⟨⟨⟨⟨⟨e0, e1⟩, e2⟩, e3⟩, e4⟩, e5⟩ := hV; go_simp)⟩) hHeld ?_
    change wpAnyH _ _ _ _ _ _ _ (Act.put _ (some 12) _) _
    simp only [Act.put, List.setIfInBounds_toArray, List.set_cons_zero, List.set_cons_succ]
    refine wpAnyH_take (i := 6) (oi := _) (v := .int .i64 i) rfl (by kernel_rfl) (by kernel_rfl) (by kernel_rfl) (fun _ _ _ h => h) (Or.inl ⟨by rfl, fun V hV => by go_simp⟩) hHeld ?_
    change wpAnyH _ _ _ _ _ _ _ (Act.put _ (some 13) _) _
    simp only [Act.put, List.setIfInBounds_toArray, List.set_cons_zero, List.set_cons_succ]
    refine wpAnyH_take (i := 7) (oi := _) (v := .pointer (some ⟨g, i * 4, none⟩)) rfl (by kernel_rfl) (by kernel_rfl) (by kernel_rfl) (fun _ _ _ h => h) (Or.inl ⟨by rfl, fun V hV => by go_simp⟩) hHeld ?_
    change wpAnyH _ _ _ _ _ _ _ (Act.put _ (some 14) _) _
    simp only [Act.put, List.setIfInBounds_toArray, List.set_cons_zero, List.set_cons_succ]
    refine wpAnyH_take (i := 8) (oi := _) (v := .pointer (some ⟨g, i * 4 + 2, none⟩)) rfl (by kernel_rfl) (by kernel_rfl) (by kernel_rfl) (fun _ _ _ h => h) (Or.inl ⟨by rfl, fun V hV => by go_simp⟩) hHeld ?_
    change wpAnyH _ _ _ _ _ _ _ (Act.put _ (some 15) _) _
    simp only [Act.put, List.setIfInBounds_toArray, List.set_cons_zero, List.set_cons_succ]
    refine wpAnyH_take (i := 9) (oi := _) (v := .int .i64 rb) rfl (by kernel_rfl) (by kernel_rfl) (by kernel_rfl) (fun _ _ _ h => h) (Or.inl ⟨by rfl, fun V hV => by (obtain ⟨⟨⟨⟨⟨e0, e1⟩, e2⟩, e3⟩, e4⟩, e5⟩ := hV; go_simp)⟩) hHeld ?_
    change wpAnyH _ _ _ _ _ _ _ (Act.put _ (some 16) _) _
    simp only [Act.put, List.setIfInBounds_toArray, List.set_cons_zero, List.set_cons_succ]
    refine wpAnyH_ready (rs := [10]) (by kernel_rfl) (by simp) ?_
    refine AllReadyH.cons (o := _) rfl (fun K hK => ?_) AllReadyH.nil
    go_simp
    go_at_call 81
    refine (CB.out _ ?_).mono ?_
    exact (Kept.refl W1 []).drew
    rintro e w8 ⟨rfl, k8⟩
    have K8 := Lib.hid k8
    clear k8
    go_wp2_with fail
    refine hK.out _ _ (FF.out _ K8.out) (fun hHeld => ?_)
    clear hK K
    refine wpAnyH_take (i := 11) (oi := _) (v := .bool true) rfl (by kernel_rfl) (by kernel_rfl) (by kernel_rfl) (fun _ _ _ h => h) (Or.inl ⟨by rfl, fun V hV => by go_simp⟩) hHeld ?_
    change wpAnyH _ _ _ _ _ _ _ (Act.put _ (some 18) _) _
    simp only [Act.put, List.setIfInBounds_toArray, List.set_cons_zero, List.set_cons_succ]
    refine wpAnyH_take (i := 12) (oi := _) (v := .pointer (some ⟨h, 0, none⟩)) rfl (by kernel_rfl) (by kernel_rfl) (by kernel_rfl) (fun _ _ _ h => h) (Or.inl ⟨by rfl, fun V hV => by go_simp⟩) hHeld ?_
    change wpAnyH _ _ _ _ _ _ _ (Act.put _ (some 19) _) _
    simp only [Act.put, List.setIfInBounds_toArray, List.set_cons_zero, List.set_cons_succ]
    refine wpAnyH_take (i := 13) (oi := _) (v := .agg #[.int .i64 mx, .slice sa opl.length sc, .int .i64 own]) rfl (by kernel_rfl) (by kernel_rfl) (by kernel_rfl) (fun _ _ _ h => h) (Or.inl ⟨by rfl, fun V hV => by (obtain ⟨⟨⟨⟨⟨e0, e1⟩, e2⟩, e3⟩, e4⟩, e5⟩ := hV; go_simp)⟩) hHeld ?_
    change wpAnyH _ _ _ _ _ _ _ (Act.put _ (some 20) _) _
    simp only [Act.put, List.setIfInBounds_toArray, List.set_cons_zero, List.set_cons_succ]
    refine wpAnyH_take (i := 14) (oi := _) (v := .pointer (some ⟨h, 0, none⟩)) rfl (by kernel_rfl) (by kernel_rfl) (by kernel_rfl) (fun _ _ _ h => h) (Or.inl ⟨by rfl, fun V hV => by go_simp⟩) hHeld ?_
    change wpAnyH _ _ _ _ _ _ _ (Act.put _ (some 21) _) _
    simp only [Act.put, List.setIfInBounds_toArray, List.set_cons_zero, List.set_cons_succ]
    refine wpAnyH_take (i := 15) (oi := _) (v := .pointer (some ⟨h, 0, none⟩)) rfl (by kernel_rfl) (by kernel_rfl) (by kernel_rfl) (fun _ _ _ h => h) (Or.inl ⟨by rfl, fun V hV => by go_simp⟩) hHeld ?_
    change wpAnyH _ _ _ _ _ _ _ (Act.put _ (some 22) _) _
    simp only [Act.put, List.setIfInBounds_toArray, List.set_cons_zero, List.set_cons_succ]
    refine wpAnyH_take (i := 16) (oi := _) (v := .pointer (some ⟨h, 1, none⟩)) rfl (by kernel_rfl) (by kernel_rfl) (by kernel_rfl) (fun _ _ _ h => h) (Or.inl ⟨by rfl, fun V hV => by go_simp⟩) hHeld ?_
    change wpAnyH _ _ _ _ _ _ _ (Act.put _ (some 23) _) _
    simp only [Act.put, List.setIfInBounds_toArray, List.set_cons_zero, List.set_cons_succ]
    refine wpAnyH_take (i := 17) (oi := _) (v := .slice (some ⟨g, 0, none⟩) n c) rfl (by kernel_rfl) (by kernel_rfl) (by kernel_rfl) (fun _ _ _ h => h) (Or.inl ⟨by rfl, fun V hV => by (obtain ⟨⟨⟨⟨⟨e0, e1⟩, e2⟩, e3⟩, e4⟩, e5⟩ := hV; go_simp)⟩) hHeld ?_
    change wpAnyH _ _ _ _ _ _ _ (Act.put _ (some 24) _) _
    simp only [Act.put, List.setIfInBounds_toArray, List.set_cons_zero, List.set_cons_succ]
    refine wpAnyH_take (i := 18) (oi := _) (v := .int .i64 i) rfl (by kernel_rfl) (by kernel_rfl) (by kernel_rfl) (fun _ _ _ h => h) (Or.inl ⟨by rfl, fun V hV => by go_simp⟩) hHeld ?_
    change wpAnyH _ _ _ _ _ _ _ (Act.put _ (some 25) _) _
    simp only [Act.put, List.setIfInBounds_toArray, List.set_cons_zero, List.set_cons_succ]
    refine wpAnyH_take (i := 19) (oi := _) (v := .pointer (some ⟨g, i * 4, none⟩)) rfl (by kernel_rfl) (by kernel_rfl) (by kernel_rfl) (fun _ _ _ h => h) (Or.inl ⟨by rfl, fun V hV => by go_simp⟩) hHeld ?_
    change wpAnyH _ _ _ _ _ _ _ (Act.put _ (some 26) _) _
    simp only [Act.put, List.setIfInBounds_toArray, List.set_cons_zero, List.set_cons_succ]
    refine wpAnyH_take (i := 20) (oi := _) (v := .pointer (some ⟨g, i * 4 + 3, none⟩)) rfl (by kernel_rfl) (by kernel_rfl) (by kernel_rfl) (fun _ _ _ h => h) (Or.inl ⟨by rfl, fun V hV => by go_simp⟩) hHeld ?_
    change wpAnyH _ _ _ _ _ _ _ (Act.put _ (some 27) _) _
    simp only [Act.put, List.setIfInBounds_toArray, List.set_cons_zero, List.set_cons_succ]
    refine wpAnyH_take (i := 21) (oi := _) (v := .int .i64 rd) rfl (by kernel_rfl) (by kernel_rfl) (by kernel_rfl) (fun _ _ _ h => h) (Or.inl ⟨by rfl, fun V hV => by (obtain ⟨⟨⟨⟨⟨e0, e1⟩, e2⟩, e3⟩, e4⟩, e5⟩ := hV; go_simp)⟩) hHeld ?_
    change wpAnyH _ _ _ _ _ _ _ (Act.put _ (some 28) _) _
    simp only [Act.put, List.setIfInBounds_toArray, List.set_cons_zero, List.set_cons_succ]
    refine wpAnyH_ready (rs := [22]) (by kernel_rfl) (by simp) ?_
    refine AllReadyH.cons (o := _) rfl (fun K hK => ?_) AllReadyH.nil
    go_simp
    go_at_call 81
    refine (CE.out _ ?_).mono ?_
    exact K8.out
    rintro e w9 ⟨rfl, k9⟩
    have K9 := Lib.hid k9
    clear k9
    go_wp2_with fail
    refine hK.out _ _ (FF.out _ K9.out) (fun hHeld => ?_)
    clear hK K
    refine wpAnyH_take (i := 23) (oi := _) (v := .bool (!x)) rfl (by kernel_rfl) (by kernel_rfl) (by kernel_rfl) (fun _ _ _ h => h) (Or.inl ⟨by rfl, fun V hV => by go_simp⟩) hHeld ?_
    change wpAnyH _ _ _ _ _ _ _ (Act.put _ (some 30) _) _
    simp only [Act.put, List.setIfInBounds_toArray, List.set_cons_zero, List.set_cons_succ]
    refine wpAnyH_take (i := 24) (oi := _) (v := .bool (!x)) rfl (by kernel_rfl) (by kernel_rfl) (by kernel_rfl) (fun _ _ _ h => h) (Or.inl ⟨by rfl, fun V hV => by go_simp⟩) hHeld ?_
    change wpAnyH _ _ _ _ _ _ _ (Act.put _ (some 31) _) _
    simp only [Act.put, List.setIfInBounds_toArray, List.set_cons_zero, List.set_cons_succ]
    refine wpAnyH_take (i := 25) (oi := _) (v := .bool (!x)) rfl (by kernel_rfl) (by kernel_rfl) (by kernel_rfl) (fun _ _ _ h => h) (Or.inl ⟨by rfl, fun V hV => by go_simp⟩) hHeld ?_
    change wpAnyH _ _ _ _ _ _ _ (Act.put _ (some 6) _) _
    simp only [Act.put, List.setIfInBounds_toArray, List.set_cons_zero, List.set_cons_succ]
    refine wpAnyH_done (by kernel_rfl) ?_ _
    go_wp2
    go_ret
    exact ⟨retb (by simp), K1.out.trans K9.out (by simp)⟩

/-- The place of one that is found. -/
def fIdx (P : Vr → Bool) (k : Int) (l : Fl) : Int := match flFind P k l with | some i => i | none => -1

theorem fl_hit {P : Vr → Bool} {k : Int} {l : Fl} {i : Nat} {x : Int × Vr} (hx : l[i]? = some x) (hk : x.1 = k) (hp : P x.2 = true) (hb : ∀ j y, j < i → l[j]? = some y → (y.1 == k && P y.2) = false) : flFind P k l = some i := by
  unfold flFind
  rw [List.findIdx?_eq_some_iff_getElem]
  have hi := (List.getElem?_eq_some_iff.1 hx)
  refine ⟨hi.1, by rw [hi.2]; simp [hk, hp], fun j hj => ?_⟩
  have hi1 := hi.1
  have := hb j (l[j]'(by omega)) hj (List.getElem?_eq_getElem (by omega))
  simp [this]

theorem fl_miss {P : Vr → Bool} {k : Int} {l : Fl} (hb : ∀ j y, j < l.length → l[j]? = some y → (y.1 == k && P y.2) = false) : flFind P k l = none := by
  unfold flFind
  rw [List.findIdx?_eq_none_iff]
  intro y hy
  obtain ⟨j, hj⟩ := List.getElem?_of_mem hy
  exact hb j y (List.getElem?_eq_some_iff.1 hj).1 hj

set_option maxHeartbeats 1000000 in
set_option maxRecDepth 100000 in
theorem rfind_any (m : Rm w B q v st) (a : Rhe w B q h lv l) (mx own : Int) (sl : Value) (opl : List Int) (hsl : RdI w sl opl) (key : Int) :
    Calls Try.prog 63 #[.pointer (some ⟨h, 0, none⟩), .agg #[.int .i64 mx, sl, .int .i64 own], .int .i64 key] w fun e w' => e = .returned (.int .i64 (fIdx (sees st ⟨mx, opl, own⟩) key l)) ∧ Kept w w' [] := by
  obtain ⟨u, c, rfl, hlen, hsh⟩ := a.shape
  obtain ⟨W1, hW1⟩ : ∃ W1, W1 = w.alloc (.cells #[.int .i64 mx, sl, .int .i64 own] 50) := ⟨_, rfl⟩
  have k1 : Kept w W1 [] := by rw [hW1]; exact (Kept.refl w []).alloc _
  have g1 : W1.heap[w.heap.size]? = some (.cells #[.int .i64 mx, sl, .int .i64 own] 50 (0, 0)) := by rw [hW1]; exact heap_alloc_new w _
  obtain ⟨z, hz⟩ : ∃ z, z = w.heap.size := ⟨_, rfl⟩
  rw [← hz] at g1
  have G1 := Lib.hid g1; have K1 := Lib.hid k1
  obtain ⟨n, hn⟩ : ∃ n, l.length = n := ⟨_, rfl⟩
  have HN := Lib.hid hn; have HSH := Lib.hid hsh; have A := Lib.hid a
  obtain ⟨P, hP⟩ : ∃ P, sees st ⟨mx, opl, own⟩ = P := ⟨_, rfl⟩
  have CS : Hid (∀ V (j : Nat) k r, Kept W1 V [] → l[j]? = some (k, r) → Calls Try.prog 65 #[.pointer (some ⟨h, 0, none⟩), .agg #[.int .i64 mx, sl, .int .i64 own], .int .i64 j] V fun e w' => e = .returned (.bool (P r)) ∧ Kept W1 w' []) := Lib.hid (fun V j k r hV hr => by
    rw [← hP]
    exact (rsees_h (m.keep (k1.trans hV (by simp))) (a.keep (k1.trans hV (by simp))) mx own sl opl (hsl.keep (k1.trans hV (by simp))) hr).mono (fun _ _ h => ⟨h.1, hV.trans h.2 (by simp)⟩))
  obtain ⟨sa, sc, rfl, _⟩ := hsl
  rw [hn] at hlen
  rw [hP]
  clear m a g1 k1 hsh
  go_enter Try.func63, Try.ntmps63
  go_wp2_with fail
  rw [← hW1, ← hz]
  clear hW1 hz hn hP
  go_loopw [7] (fun t wr => ∃ j : Nat, t = .int .i64 j ∧ j ≤ n ∧ (∀ i y, i < j → l[i]? = some y → (y.1 == key && P y.2) = false) ∧ Kept W1 wr []) (fun t _ => n - (intOf t).toNat)
  case atStart => exact ⟨0, rfl, Nat.zero_le _, fun i y h => by omega, Kept.refl W1 []⟩
  case round =>
    obtain ⟨j, rfl, hj, hb, hkw⟩ := hrel
    have HB := Lib.hid hb; have K := Lib.hid hkw
    have A2 := Lib.hid (A.out.keep (K1.out.trans hkw (by simp)))
    clear hb hkw
    have c1 := A2.out.cell.2
    rw [HN.out] at c1
    by_cases hlt : j < n
    · obtain ⟨⟨k, r⟩, hr⟩ : ∃ x, l[j]? = some x := ⟨_, List.getElem?_eq_getElem (by have := HN.out; omega)⟩
      obtain ⟨g, rfl, hnc, _, hcell⟩ := HSH.out (by have := HN.out; omega)
      obtain ⟨c2, _⟩ := hcell j k r hr
      have c3 := (K1.out.trans K.out (by simp)).cell (p := ⟨g, j * 4, none⟩) (by simp) c2
      have z := K.out.heap (by simp) G1.out
      obtain ⟨v0, v1, v2⟩ := three_at z
      have x1 : (j : Int) < (n : Int) := by omega
      have HR := Lib.hid hr
      have cs := CS.out wr j k r K.out hr
      clear hnc hcell c2 hr z
      by_cases hk : k = key
      · obtain ⟨y, hy⟩ : ∃ y, P r = y := ⟨_, rfl⟩
        rw [hy] at cs
        have HY := Lib.hid hy; have HK := Lib.hid hk
        have x2 : (k == key) = true := by simpa using hk
        have CC := Lib.hid cs
        clear hy hk cs
        cases y
        · go_wp2_with fail
          refine CC.out.mono ?_
          rintro e w5 ⟨rfl, k5⟩
          have K5 := Lib.hid k5
          clear k5 c1 c3 v0 v1 v2
          go_wp2
          go_roundw
          case rel => exact ⟨j + 1, by go_num, by omega, fun i y hi hy => by
            by_cases e : i = j
            · subst e
              have h9 := HR.out
              rw [hy] at h9
              cases h9
              simp [HY.out]
            · exact HB.out i y (by omega) hy, K5.out⟩
          case measure => simp [intOf]; omega
        · have E : Hid (fIdx P key l = j) := Lib.hid (by rw [fIdx, fl_hit HR.out HK.out HY.out HB.out])
          go_wp2_with fail
          refine CC.out.mono ?_
          rintro e w5 ⟨rfl, k5⟩
          have K5 := Lib.hid (K1.out.trans k5 (by simp))
          clear k5 c1 c3 v0 v1 v2
          go_wp2
          go_ret
          rw [E.out]
          exact ⟨rfl, K5.out⟩
      · have x2 : (k == key) = false := by simpa using hk
        have HK := Lib.hid hk
        clear hk cs
        go_wp2
        go_roundw
        case rel => exact ⟨j + 1, by go_num, by omega, fun i y hi hy => by
          by_cases e : i = j
          · subst e
            have h9 := HR.out
            rw [hy] at h9
            cases h9
            have h10 := HK.out
            simp [h10]
          · exact HB.out i y (by omega) hy, K.out⟩
        case measure => simp [intOf]; omega
    · have x1 : ¬ (j : Int) < (n : Int) := by omega
      have E : Hid (fIdx P key l = -1) := Lib.hid (by
        rw [fIdx, fl_miss]
        intro i y hi hy
        exact HB.out i y (by have := HN.out; omega) hy)
      go_wp2
      go_ret
      rw [E.out]
      exact ⟨rfl, K1.out.trans K.out (by simp)⟩
end Go.Proofs.Ytdjhcdgehmpikaa
