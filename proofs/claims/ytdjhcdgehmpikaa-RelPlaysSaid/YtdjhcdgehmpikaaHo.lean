/-
  A manager with its heap as one thing ('Sd'): all its calls; Get; rows of both alike.
-/
import Derived.Test.YtdjhcdgehmpikaaHn
import Derived.Deep.QuietTactic
import Derived.BigQuiet
namespace Go.Proofs.Ytdjhcdgehmpikaa
open Go.RowKit Go.Maps Go.Sort Go.Shelf

variable {w : World} {B p h : Nat} {O : Nat → Prop} {st : List Nat} {ks : List Int} {F : Int → List Vr}

/-- A snapshot's list of who is open. -/
def Vo (w : World) (sl : Value) (l : List Int) : Prop := w.ownsRow 0 2 1 sl l.length (l.map encZ)

theorem Vo.rd {sl : Value} {l : List Int} (a : Vo w sl l) : RdI w sl l := by
  rcases a.2 with ⟨rfl, h0⟩ | ⟨g, cap, cur, rfl, _, _, hnc, hcm, _, _⟩
  · obtain rfl : l = [] := List.eq_nil_of_length_eq_zero h0
    exact RdI.nil w
  · refine ⟨_, cap, rfl, hnc, hcm, by simp, fun _ => ⟨g, 0, rfl, fun i hi => ?_⟩⟩
    have := World.ownsRow.cells a (g := g) rfl i (.int .i64 (l.getD i 0)) (by rw [List.getElem?_map, List.getElem?_eq_getElem hi]; simp [List.getD, hi, encZ])
    simpa [Addr.add_lit] using this

theorem Vo.keep {w' : World} {sl : Value} {l : List Int} (a : Vo w sl l) (hk : Kept w w' []) : Vo w' sl l := ownsRow_fr a (Fr.ofKept hk 0 []) (by simp)

/-- The types of the blocks of both. -/
def tys : List TypeId := [84, 4, 116, 124]

theorem Sx.notO {b mb : Nat} {v : Value} {S : Int → Value} (a : Sx w B p h b mb v S st ks F) {g : Nat} {cs : Array Value} {t : TypeId} {fz : Nat × Nat} (hg : w.heap[g]? = some (.cells cs t fz)) (ht : t ∉ tys) : ¬ foot p b v h mb S g := by
  intro hk
  rcases hk with (rfl | rfl | h1) | rfl | rfl | ⟨q, h1⟩
  · rw [a.mg.hp] at hg
    simp only [Option.some.injEq, Obj.cells.injEq] at hg
    obtain ⟨_, rfl, _⟩ := hg
    exact ht (by simp [tys])
  · obtain ⟨es, c, hb, _⟩ := a.mg.hm
    rw [hb] at hg; cases hg
  · rcases a.mg.hv.2 with ⟨h2, _⟩ | ⟨g', cap, cur, h2, _, hh, _⟩
    · rw [h2] at h1; cases h1
    · rw [h2] at h1
      simp only [Value.ownBlock, Option.some.injEq] at h1
      subst h1
      rw [hh] at hg
      simp only [Option.some.injEq, Obj.cells.injEq] at hg
      obtain ⟨_, rfl, _⟩ := hg
      exact ht (by simp [tys])
  · rw [a.hp.hh] at hg
    simp only [Option.some.injEq, Obj.cells.injEq] at hg
    obtain ⟨_, rfl, _⟩ := hg
    exact ht (by simp [tys])
  · obtain ⟨es, c, hb, _⟩ := a.hp.hm
    rw [hb] at hg; cases hg
  · rcases (a.hp.rows q).2 with ⟨h2, _⟩ | ⟨g', cap, cur, h2, _, hh, _⟩
    · rw [h2] at h1; cases h1
    · rw [h2] at h1
      simp only [Value.ownBlock, Option.some.injEq] at h1
      subst h1
      rw [hh] at hg
      simp only [Option.some.injEq, Obj.cells.injEq] at hg
      obtain ⟨_, rfl, _⟩ := hg
      exact ht (by simp [tys])

/-- A manager's blocks are not the heap's. -/
theorem Sx.mdis {b mb : Nat} {v : Value} {S : Int → Value} (a : Sx w B p h b mb v S st ks F) : ¬ mfoot p b v h ∧ ¬ mfoot p b v mb ∧ ∀ q k, (S q).ownBlock = some k → ¬ mfoot p b v k := by
  obtain ⟨es, c, hb, _⟩ := a.mg.hm
  obtain ⟨es2, c2, hmb, _⟩ := a.hp.hm
  have vb : ∀ k, v.ownBlock = some k → ∃ cur, w.heap[k]? = some (.cells cur 4 (0, 0)) := by
    intro k hk
    rcases a.mg.hv.2 with ⟨h2, _⟩ | ⟨g', cap, cur, h2, _, hh, _⟩
    · rw [h2] at hk; cases hk
    · rw [h2] at hk
      simp only [Value.ownBlock, Option.some.injEq] at hk
      subst hk
      exact ⟨cur, hh⟩
  refine ⟨?_, ?_, ?_⟩
  · rintro (e | e | e)
    · have := a.mg.hp; rw [← e, a.hp.hh] at this; simp at this
    · rw [← e, a.hp.hh] at hb; cases hb
    · obtain ⟨cur, h2⟩ := vb _ e; rw [a.hp.hh] at h2; simp at h2
  · rintro (e | e | e)
    · have := a.mg.hp; rw [← e, hmb] at this; cases this
    · exact a.ne e.symm
    · obtain ⟨cur, h2⟩ := vb _ e; rw [hmb] at h2; cases h2
  · intro q k hq
    have hv : ∃ cur, w.heap[k]? = some (.cells cur 124 (0, 0)) := by
      rcases (a.hp.rows q).2 with ⟨h2, _⟩ | ⟨g', cap, cur, h2, _, hh, _⟩
      · rw [h2] at hq; cases hq
      · rw [h2] at hq
        simp only [Value.ownBlock, Option.some.injEq] at hq
        subst hq
        exact ⟨cur, hh⟩
    obtain ⟨cur, hv⟩ := hv
    rintro (e | e | e)
    · have := a.mg.hp; rw [← e, hv] at this; simp at this
    · rw [← e, hv] at hb; cases hb
    · obtain ⟨cur, h2⟩ := vb _ e; rw [hv] at h2; simp at h2

theorem Sd.notO (a : Sd w B p h O st ks F) {g : Nat} {cs : Array Value} {t : TypeId} {fz : Nat × Nat} (hg : w.heap[g]? = some (.cells cs t fz)) (ht : t ∉ tys) : ¬ O g := by
  obtain ⟨b, mb, v, S, a, rfl⟩ := a
  exact a.notO hg ht
theorem Sd.bound (a : Sd w B p h O st ks F) : ∀ k, O k → B ≤ k ∧ k < w.heap.size := by
  obtain ⟨b, mb, v, S, a, rfl⟩ := a
  exact a.footB
theorem Sd.size (a : Sd w B p h O st ks F) : B ≤ w.heap.size := by
  obtain ⟨b, mb, v, S, a, rfl⟩ := a
  exact a.size
theorem Sd.below {w' : World} (a : Sd w B p h O st ks F) (hf : Fo O w w') : Below B w w' := hf.below a.size (fun k hk => (a.bound k hk).1)
theorem Sd.heap {w' : World} (a : Sd w B p h O st ks F) (hf : Fo O w w') {g : Nat} {cs : Array Value} {t : TypeId} {fz : Nat × Nat} (hg : w.heap[g]? = some (.cells cs t fz)) (ht : t ∉ tys) : w'.heap[g]? = some (.cells cs t fz) := hf.heap (a.notO hg ht) hg
theorem Sd.row {w' : World} {base e sz n : Nat} {u : Value} {xs : List Value} (a : Sd w B p h O st ks F) (hf : Fo O w w') (hr : w.ownsRow base e sz u n xs) (he : e ∉ tys) : w'.ownsRow base e sz u n xs := by
  refine ⟨hr.1, ?_⟩
  rcases hr.2 with h2 | ⟨g, cap, cur, rfl, hbg, hg, r⟩
  · exact .inl h2
  · exact .inr ⟨g, cap, cur, rfl, hbg, a.heap hf hg he, r⟩
theorem Sd.vo {w' : World} (a : Sd w B p h O st ks F) (hf : Fo O w w') {sl : Value} {l : List Int} (hv : Vo w sl l) : Vo w' sl l := a.row hf hv (by decide)

theorem begin_sd (a : Sd w B p h O st ks F) (h1 : (opens st).length < 6) (h2 : st.length + 1 < 1048576) :
    Calls Try.prog 16 #[.pointer (some ⟨p, 0, none⟩)] w fun e w' => e = .returned (.tuple #[.int .i64 ((st.length : Int) + 1), .int .i64 0]) ∧ ∃ O', Sd w' B p h O' (st ++ [1]) ks F ∧ Stp O O' w w' := by
  obtain ⟨b, mb, v, S, a, rfl⟩ := a
  refine (mbegin_fo a.mg h1 h2).mono ?_
  rintro e w' ⟨rfl, v', m', f', l'⟩
  obtain ⟨d1, d2, d3⟩ := a.mdis
  refine ⟨rfl, foot p b v' h mb S, ⟨b, mb, v', S, ⟨m', a.hp.fo f' d1 d2 d3, a.ne⟩, rfl⟩, f'.mono (fun k hk => .inl hk), ?_⟩
  rintro k ((rfl | rfl | h1) | h1)
  · exact .inl (.inl (.inl rfl))
  · exact .inl (.inl (.inr (.inl rfl)))
  · rcases l' with h2 | ⟨g, h2, h3⟩
    · rw [h2] at h1; exact .inl (.inl (.inr (.inr h1)))
    · rw [h2] at h1; cases h1; exact .inr h3
  · exact .inl (.inr h1)

theorem commit_sd (a : Sd w B p h O st ks F) (x : Int) (hx : (Lit.int .i64 x).wf = true) (hb : stAt st x = 1) :
    Calls Try.prog 19 #[.pointer (some ⟨p, 0, none⟩), .int .i64 x] w fun e w' => e = .returned (.int .i64 0) ∧ Sd w' B p h O (st.set (x.toNat - 1) 2) ks F ∧ Stp O O w w' := by
  obtain ⟨b, mb, v, S, a, rfl⟩ := a
  refine (mcommit_fo a.mg x hx hb).mono ?_
  rintro e w' ⟨rfl, m', f'⟩
  obtain ⟨d1, d2, d3⟩ := a.mdis
  exact ⟨rfl, ⟨b, mb, v, S, ⟨m', a.hp.fo f' d1 d2 d3, a.ne⟩, rfl⟩, f'.mono (fun k hk => .inl hk), fun k hk => .inl hk⟩

theorem now_sd (a : Sd w B p h O st ks F) :
    Calls Try.prog 28 #[.pointer (some ⟨p, 0, none⟩)] w fun e w' => ∃ u c, e = .returned (.agg #[.int .i64 ((st.length : Int) + 1), .slice u (opens st).length c]) ∧ Vo w' (.slice u (opens st).length c) (opens st) ∧ Kept w w' [] := by
  obtain ⟨b, mb, v, S, a, rfl⟩ := a
  refine (mnow_any a.mg).mono ?_
  rintro e w' ⟨u, c, rfl, ho, hk⟩
  exact ⟨u, c, rfl, ownsRow_low ho (Nat.zero_le _), hk⟩

theorem insert_sd (a : Sd w B p h O st ks F) (mx own : Int) (u : Option Addr) (n c : Nat) (opl : List Int) (hv : Vo w (.slice u n c) opl) (ho : (Lit.int .i64 own).wf = true) (key : Int) (txt : ByteArray) (hk : (Lit.int .i64 key).wf = true) (hks : ks.length < 1000000) (hF : (F key).length < 1000000) :
    Calls Try.prog 56 #[.pointer (some ⟨h, 0, none⟩), .agg #[.int .i64 mx, .slice u n c, .int .i64 own], .agg #[.int .i64 key, .string txt]] w fun e w' => e = .returned (.int .i64 (insE st ⟨mx, opl, own⟩ (F key))) ∧
      ∃ O', Sd w' B p h O' st (putK (insE st ⟨mx, opl, own⟩ (F key)) key ks) (putF (insE st ⟨mx, opl, own⟩ (F key)) key ⟨txt, own, 0⟩ F) ∧ Stp O O' w w' := by
  obtain ⟨b, mb, v, S, a, rfl⟩ := a
  refine (insert_any a mx own _ opl hv.rd ho key txt hk hks hF).mono ?_
  rintro e w' ⟨rfl, S', a', f', t'⟩
  exact ⟨rfl, _, ⟨b, mb, v, S', a', rfl⟩, f', t'⟩

theorem update_sd (a : Sd w B p h O st ks F) (mx own : Int) (u : Option Addr) (n c : Nat) (opl : List Int) (hv : Vo w (.slice u n c) opl) (ho : (Lit.int .i64 own).wf = true) (key : Int) (txt : ByteArray) (hk : (Lit.int .i64 key).wf = true) (hks : ks.length < 1000000) (hF : (F key).length < 1000000) :
    Calls Try.prog 57 #[.pointer (some ⟨h, 0, none⟩), .agg #[.int .i64 mx, .slice u n c, .int .i64 own], .agg #[.int .i64 key, .string txt]] w fun e w' => e = .returned (.int .i64 (delL st ⟨mx, opl, own⟩ (F key)).1) ∧
      ∃ O', Sd w' B p h O' st (putK (delL st ⟨mx, opl, own⟩ (F key)).1 key ks) (putF (delL st ⟨mx, opl, own⟩ (F key)).1 key ⟨txt, own, 0⟩ (updF F key (delL st ⟨mx, opl, own⟩ (F key)).2)) ∧ Stp O O' w w' := by
  obtain ⟨b, mb, v, S, a, rfl⟩ := a
  refine (update_any a mx own _ opl hv.rd ho key txt hk hks hF).mono ?_
  rintro e w' ⟨rfl, S', a', f', t'⟩
  exact ⟨rfl, _, ⟨b, mb, v, S', a', rfl⟩, f', t'⟩

theorem delete_sd (a : Sd w B p h O st ks F) (mx own : Int) (u : Option Addr) (n c : Nat) (opl : List Int) (hv : Vo w (.slice u n c) opl) (ho : (Lit.int .i64 own).wf = true) (key : Int) (hk : (Lit.int .i64 key).wf = true) :
    Calls Try.prog 39 #[.pointer (some ⟨h, 0, none⟩), .agg #[.int .i64 mx, .slice u n c, .int .i64 own], .int .i64 key] w fun e w' => e = .returned (.int .i64 (delL st ⟨mx, opl, own⟩ (F key)).1) ∧
      ∃ O', Sd w' B p h O' st ks (updF F key (delL st ⟨mx, opl, own⟩ (F key)).2) ∧ Stp O O' w w' := by
  obtain ⟨b, mb, v, S, a, rfl⟩ := a
  refine (delete_any a mx own _ opl hv.rd ho key hk).mono ?_
  rintro e w' ⟨rfl, a', f'⟩
  exact ⟨rfl, _, ⟨b, mb, v, S, a', rfl⟩, f', fun k hk => .inl hk⟩

theorem truncate_sd (a : Sd w B p h O st ks F) (mx own : Int) (u : Option Addr) (n c : Nat) (opl : List Int) (hv : Vo w (.slice u n c) opl) (ho : (Lit.int .i64 own).wf = true) (N : Nat) (hN : ks.length ≤ N ∧ (∀ k, (F k).length ≤ N) ∧ N ≤ 900) :
    Calls Try.prog 40 #[.pointer (some ⟨h, 0, none⟩), .agg #[.int .i64 mx, .slice u n c, .int .i64 own]] w fun e w' => ∃ v', e = .returned (.tuple #[v', .int .i64 (truE st ⟨mx, opl, own⟩ ks F)]) ∧ w'.ownsRow w.heap.size 55 2 v' (truR st ⟨mx, opl, own⟩ ks F).length (rcl (truR st ⟨mx, opl, own⟩ ks F)) ∧
      ∃ O', Sd w' B p h O' st ks (truF st ⟨mx, opl, own⟩ ks F) ∧ Stp O O' w w' := by
  obtain ⟨b, mb, v, S, a, rfl⟩ := a
  refine (truncate_any a mx own _ opl hv.rd ho N hN).mono ?_
  rintro e w' ⟨v', rfl, ho', a', f'⟩
  exact ⟨v', rfl, ho', _, ⟨b, mb, v, S, a', rfl⟩, f', fun k hk => .inl hk⟩

theorem scan_sd (a : Sd w B p h O st ks F) (mx own : Int) (u : Option Addr) (n c : Nat) (opl : List Int) (hv : Vo w (.slice u n c) opl) (N : Nat) (hN : ks.length ≤ N ∧ (∀ k, (F k).length ≤ N) ∧ N ≤ 900) :
    Calls Try.prog 43 #[.pointer (some ⟨h, 0, none⟩), .agg #[.int .i64 mx, .slice u n c, .int .i64 own]] w fun e w' => ∃ v', e = .returned v' ∧ w'.ownsRow w.heap.size 55 2 v' (scanR (sees st ⟨mx, opl, own⟩) ks F).length (rcl (scanR (sees st ⟨mx, opl, own⟩) ks F)) ∧ Kept w w' [] := by
  obtain ⟨b, mb, v, S, a, rfl⟩ := a
  exact scan_any a mx own _ opl hv.rd N hN

/-- A manager and a heap, both new. -/
theorem hnew_sd {b : Nat} {v : Value} (m : Mg w B p b v st) :
    Calls Try.prog 32 #[.pointer (some ⟨p, 0, none⟩)] w fun e w' => ∃ h O, e = .returned (.pointer (some ⟨h, 0, none⟩)) ∧ Sd w' B p h O st [] (fun _ => []) ∧ Kept w w' [] ∧ (∀ k, O k → mfoot p b v k ∨ w.heap.size ≤ k) := by
  refine (hnew_any m).mono ?_
  rintro e w' ⟨h, mb, rfl, a, hk, l1, l2⟩
  refine ⟨h, _, rfl, ⟨b, mb, v, _, a, rfl⟩, hk, ?_⟩
  rintro k (h1 | rfl | rfl | ⟨q, h1⟩)
  · exact .inl h1
  · exact .inr l1
  · exact .inr l2
  · cases h1

/-- What Get tells. -/
def getT (st : List Nat) (V : Vw) (key : Int) (l : List Vr) : Value := match l.findIdx? (sees st V) with
  | some i => match l[i]? with
    | some r => .tuple #[.agg #[.int .i64 key, .string r.txt], .bool true]
    | none => .tuple #[.agg #[.int .i64 0, .string ⟨#[]⟩], .bool false]
  | none => .tuple #[.agg #[.int .i64 0, .string ⟨#[]⟩], .bool false]

theorem row_set {g : Nat} {x y : Value} {t : TypeId} (hg : w.heap[g]? = some (.cells #[x, y] t (0, 0))) (u v : Value) :
    ((w.setCell ⟨g, 0, none⟩ u).setCell ⟨g, 1, none⟩ v).cell? ⟨g, 0, none⟩ = some u ∧ ((w.setCell ⟨g, 0, none⟩ u).setCell ⟨g, 1, none⟩ v).cell? ⟨g, 1, none⟩ = some v := by
  have h1 := heap_setCell_at hg 0 u
  have h2 := heap_setCell_at h1 1 v
  exact ⟨by rw [cell_of_row _ g 0 _ _ _ h2]; simp, by rw [cell_of_row _ g 1 _ _ _ h2]; simp⟩

theorem rcl_cells {base g n c k : Nat} {R : List (Int × ByteArray)} {rk : Int} {rt : ByteArray} (ho : w.ownsRow base 55 2 (.slice (some ⟨g, 0, none⟩) n c) R.length (rcl R)) (hr : R[k]? = some (rk, rt)) :
    w.cell? ⟨g, k * 2, none⟩ = some (.int .i64 rk) ∧ w.cell? ⟨g, k * 2 + 1, none⟩ = some (.string rt) := by
  have get : ∀ (R : List (Int × ByteArray)) (k : Nat), R[k]? = some (rk, rt) → (rcl R)[k * 2]? = some (.int .i64 rk) ∧ (rcl R)[k * 2 + 1]? = some (.string rt) := by
    intro R
    induction R with
    | nil => intro k h; simp at h
    | cons a R ih =>
      intro k h
      cases k with
      | zero => simp at h; subst h; exact ⟨rfl, rfl⟩
      | succ k =>
        obtain ⟨i1, i2⟩ := ih k (by simpa using h)
        rw [show (k + 1) * 2 = k * 2 + 2 by omega, show rcl (a :: R) = .int .i64 a.1 :: .string a.2 :: rcl R from rfl]
        exact ⟨by simpa using i1, by simpa using i2⟩
  obtain ⟨i1, i2⟩ := get R k hr
  have c1 := World.ownsRow.cells ho (g := g) rfl (k * 2) _ i1
  have c2 := World.ownsRow.cells ho (g := g) rfl (k * 2 + 1) _ i2
  exact ⟨by simpa [Addr.add_lit] using c1, by simpa [Addr.add_lit] using c2⟩

set_option maxHeartbeats 1000000 in
theorem get_any {b mb : Nat} {v : Value} {S : Int → Value} (a : Sx w B p h b mb v S st ks F) (mx own : Int) (sl : Value) (opl : List Int) (hsl : RdI w sl opl) (key : Int) (hk : (Lit.int .i64 key).wf = true) :
    Calls Try.prog 42 #[.pointer (some ⟨h, 0, none⟩), vw mx sl own, .int .i64 key] w fun e w' => e = .returned (getT st ⟨mx, opl, own⟩ key (F key)) ∧ Kept w w' [] := by
  have A := Lib.hid a; have HS := Lib.hid hsl
  obtain ⟨sa, sc, rfl, _⟩ := hsl
  obtain ⟨W1, hW1⟩ : ∃ W1, W1 = w.alloc (.cells #[.int .i64 mx, .slice sa opl.length sc, .int .i64 own] 51) := ⟨_, rfl⟩
  obtain ⟨W2, hW2⟩ : ∃ W2, W2 = W1.alloc (.cells #[.int .i64 0, .string ⟨#[]⟩] 55) := ⟨_, rfl⟩
  have k1 : Kept w W1 [] := by rw [hW1]; exact (Kept.refl w []).alloc _
  have k12 : Kept W1 W2 [] := by rw [hW2]; exact (Kept.refl W1 []).alloc _
  have K2 := Lib.hid (k1.trans k12 (by simp))
  have hz : W1.heap.size = w.heap.size + 1 := by rw [hW1]; simp
  have g1 : W2.heap[w.heap.size]? = some (.cells #[.int .i64 mx, .slice sa opl.length sc, .int .i64 own] 51 (0, 0)) := k12.heap (by simp) (by rw [hW1]; exact heap_alloc_new w _)
  have g2 : W2.heap[w.heap.size + 1]? = some (.cells #[.int .i64 0, .string ⟨#[]⟩] 55 (0, 0)) := by rw [← hz, hW2]; exact heap_alloc_new W1 _
  have cm := Lib.hid (missing_any (A.out.keep K2.out))
  have cs := Lib.hid (seenFirst_any (A.out.keep K2.out) mx own (.slice sa opl.length sc) opl (HS.out.keep K2.out) key hk)
  have G2 := Lib.hid g2
  obtain ⟨z0, z1, z2⟩ := three_at g1
  unfold vw at cs ⊢
  clear a hk k1 k12 hz g1 g2
  cases hi : (F key).findIdx? (sees st ⟨mx, opl, own⟩) with
  | none =>
    have R : Hid (getT st ⟨mx, opl, own⟩ key (F key) = .tuple #[.agg #[.int .i64 0, .string ⟨#[]⟩], .bool false]) := Lib.hid (by simp only [getT, hi])
    rw [hi, pv_none] at cs
    clear hi
    go_enter Try.func42, Try.ntmps42
    go_wp2_with fail
    rw [← hW1, ← hW2]
    clear hW1 hW2
    refine cm.out.mono ?_
    rintro e w2 ⟨rfl, rfl⟩
    go_wp2_with fail
    refine cs.out.mono ?_
    rintro e w3 ⟨rfl, k3⟩
    have G3 := Lib.hid (k3.heap (by simp) G2.out)
    have K3 := Lib.hid (K2.out.trans k3 (by simp))
    clear k3 z0 z1 z2
    obtain ⟨e0, e1, e2, e3⟩ := res_cells G3.out
    go_wp2
    obtain ⟨d0, d1⟩ := row_set G3.out (.int .i64 0) (.string ⟨#[]⟩)
    exact bodyPost_ret (v := .tuple #[.agg #[.int .i64 0, .string ⟨#[]⟩], .bool false]) (by simp [results, Try.results42, go_sem, d0, d1]) rfl ⟨by rw [R.out], (K3.out.setCell (p := ⟨w.heap.size + 1, 0, none⟩) (.inr (by simp)) _).setCell (p := ⟨w.heap.size + 1, 1, none⟩) (.inr (by simp)) _⟩
  | some i =>
    have hlt := findIdx_lt hi
    obtain ⟨r, hr⟩ : ∃ r, (F key)[i]? = some r := ⟨_, List.getElem?_eq_getElem hlt⟩
    have R : Hid (getT st ⟨mx, opl, own⟩ key (F key) = .tuple #[.agg #[.int .i64 key, .string r.txt], .bool true]) := Lib.hid (by simp only [getT, hi, hr])
    obtain ⟨g, cap, cur, hs, _⟩ := A.out.row hlt
    have HSK := Lib.hid hs
    rw [hi, hs] at cs
    simp only [pv] at cs
    have HR := Lib.hid hr
    clear hi hlt hr hs
    go_enter Try.func42, Try.ntmps42
    go_wp2_with fail
    rw [← hW1, ← hW2]
    clear hW1 hW2
    refine cm.out.mono ?_
    rintro e w2 ⟨rfl, rfl⟩
    go_wp2_with fail
    refine cs.out.mono ?_
    rintro e w3 ⟨rfl, k3⟩
    have G3 := Lib.hid (k3.heap (by simp) G2.out)
    have K3 := Lib.hid (K2.out.trans k3 (by simp))
    clear k3 z0 z1 z2
    obtain ⟨e0, e1, e2, e3⟩ := res_cells G3.out
    obtain ⟨y0, y1, _, _⟩ := spot_cells (A.out.keep K3.out) HR.out
    rw [HSK.out] at y0 y1
    simp only [Value.ownBlock, Option.getD_some] at y0 y1
    obtain ⟨rt, rb, rd⟩ := r
    simp only at y0 y1 R
    go_wp2
    obtain ⟨d0, d1⟩ := row_set G3.out (.int .i64 key) (.string rt)
    exact bodyPost_ret (v := .tuple #[.agg #[.int .i64 key, .string rt], .bool true]) (by simp [results, Try.results42, go_sem, d0, d1]) rfl ⟨by rw [R.out], (K3.out.setCell (p := ⟨w.heap.size + 1, 0, none⟩) (.inr (by simp)) _).setCell (p := ⟨w.heap.size + 1, 1, none⟩) (.inr (by simp)) _⟩

theorem get_sd (a : Sd w B p h O st ks F) (mx own : Int) (u : Option Addr) (n c : Nat) (opl : List Int) (hv : Vo w (.slice u n c) opl) (key : Int) (hk : (Lit.int .i64 key).wf = true) :
    Calls Try.prog 42 #[.pointer (some ⟨h, 0, none⟩), .agg #[.int .i64 mx, .slice u n c, .int .i64 own], .int .i64 key] w fun e w' => e = .returned (getT st ⟨mx, opl, own⟩ key (F key)) ∧ Kept w w' [] := by
  obtain ⟨b, mb, v, S, a, rfl⟩ := a
  exact get_any a mx own _ opl hv.rd key hk

set_option maxHeartbeats 1000000 in
/-- Rows that are alike are told so. -/
theorem rrows_same {base base' : Nat} {a c : Value} {R : List (Int × ByteArray)} (ha : w.ownsRow base 55 2 a R.length (rcl R)) (hc : w.ownsRow base' 55 2 c R.length (rcl R)) :
    Calls Try.prog 23 #[a, c] w fun e w' => e = .returned (.bool true) ∧ Kept w w' [] := by
  rcases id ha.2 with ⟨rfl, h0⟩ | ⟨g, cap, cur, rfl, _, _, hnc, hcm, _, _⟩
  · obtain ⟨a2, c2, rfl⟩ := ownsRow_shape hc
    obtain rfl : R = [] := List.eq_nil_of_length_eq_zero h0
    clear ha hc
    go_enter Try.func23, Try.ntmps23
    go_wp2
    go_loop [5] (fun t => t = .int .i64 0) (fun _ => 0)
    case atStart => rfl
    case round =>
      subst hrel
      go_wp2
      go_ret
      exact ⟨rfl, Kept.refl w []⟩
  · rcases id hc.2 with ⟨rfl, h0⟩ | ⟨g2, cap2, cur2, rfl, _, _, hnc2, _, _, _⟩
    · obtain rfl : R = [] := List.eq_nil_of_length_eq_zero h0
      clear ha hc
      go_enter Try.func23, Try.ntmps23
      go_wp2
      go_loop [5] (fun t => t = .int .i64 0) (fun _ => 0)
      case atStart => rfl
      case round =>
        subst hrel
        go_wp2
        go_ret
        exact ⟨rfl, Kept.refl w []⟩
    · have HA := Lib.hid ha; have HCC := Lib.hid hc
      obtain ⟨n, hn⟩ : ∃ n, R.length = n := ⟨_, rfl⟩
      have HN := Lib.hid hn
      rw [hn] at hnc hnc2 ⊢
      have hn9 : n ≤ 9223372036854775807 := by unfold maxLen at hcm; omega
      clear ha hc hnc hnc2 hcm hn
      go_enter Try.func23, Try.ntmps23
      go_wp2
      go_loopw [5] (fun t wr => ∃ k : Nat, t = .int .i64 k ∧ k ≤ n ∧ Kept w wr []) (fun t _ => n - (intOf t).toNat)
      case atStart => exact ⟨0, rfl, Nat.zero_le _, Kept.refl w []⟩
      case round =>
        obtain ⟨k, rfl, hk, hkw⟩ := hrel
        have K := Lib.hid hkw
        clear hkw
        by_cases hlt : k < n
        · obtain ⟨r, hr⟩ : ∃ r, R[k]? = some r := ⟨_, List.getElem?_eq_getElem (by have := HN.out; omega)⟩
          obtain ⟨rk, rt⟩ := r
          obtain ⟨y0, y1⟩ := rcl_cells (ownsRow_fr HA.out (Fr.ofKept K.out 0 []) (by simp)) hr
          obtain ⟨z0, z1⟩ := rcl_cells (ownsRow_fr HCC.out (Fr.ofKept K.out 0 []) (by simp)) hr
          have x1 : (k : Int) < (n : Int) := by omega
          clear hr
          go_wp2
          go_quiet (fail)
          go_wp2
          go_roundw
          case rel => exact ⟨k + 1, by go_num, by omega, K.out.drewN _⟩
          case measure => simp [intOf]; omega
        · have x1 : ¬ (k : Int) < (n : Int) := by omega
          go_wp2
          go_ret
          exact ⟨rfl, K.out⟩

end Go.Proofs.Ytdjhcdgehmpikaa
