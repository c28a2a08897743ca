/-
  What a heap of versions in memory is ('Hp'), with its manager ('Sx', 'Sd'); missing, committed, seesOf, sees, binds, mayWrite.
-/
import Derived.Test.YtdjhcdgehmpikaaHc
namespace Go.Proofs.Ytdjhcdgehmpikaa
open Go.RowKit Go.Maps

/-- Versions as cells. -/
def vcs (k : Int) (r : Vr) : List Value := [.int .i64 k, .string r.txt, .int .i64 r.birth, .int .i64 r.death]
def vcl (k : Int) (l : List Vr) : List Value := l.flatMap (vcs k)
theorem vcl_length (k : Int) : ∀ l : List Vr, (vcl k l).length = l.length * 4
  | [] => rfl
  | r :: l => by simp only [vcl, List.flatMap_cons, List.length_append, List.length_cons]; have := vcl_length k l; simp only [vcl] at this; rw [this]; simp [vcs]; omega
theorem vcl_append (k : Int) (l m : List Vr) : vcl k (l ++ m) = vcl k l ++ vcl k m := by simp [vcl]
theorem vcl_get (k : Int) : ∀ (l : List Vr) (i j : Nat) (r : Vr), l[i]? = some r → j < 4 → (vcl k l)[i * 4 + j]? = (vcs k r)[j]?
  | [], i, j, r, h, _ => by simp at h
  | a :: l, 0, j, r, h, hj => by
    simp at h
    subst h
    rw [vcl, List.flatMap_cons, List.getElem?_append_left (by simp [vcs]; omega)]
    simp
  | a :: l, i + 1, j, r, h, hj => by
    have ih := vcl_get k l i j r (by simpa using h) hj
    rw [vcl, List.flatMap_cons, List.getElem?_append_right (by simp [vcs]; omega)]
    rw [show (i + 1) * 4 + j - (vcs k a).length = i * 4 + j by simp [vcs]; omega]
    exact ih

/-- Each number that a version has may be. -/
def VrOk (r : Vr) : Prop := (Lit.int .i64 r.birth).wf = true ∧ (Lit.int .i64 r.death).wf = true

/-- A heap at block h: its map is block mb; S has each key's slice; ks: the keys; F: each key's versions. -/
structure Hp (w : World) (B p h mb : Nat) (S : Int → Value) (ks : List Int) (F : Int → List Vr) : Prop where
  hh : w.heap[h]? = some (.cells #[.pointer (some ⟨p, 0, none⟩), .map (some mb)] 116 (0, 0))
  hm : Mpv w mb ks.length ks S
  srt : ks.Pairwise (· < ·)
  wf : ∀ k ∈ ks, (Lit.int .i64 k).wf = true
  rows : ∀ k, w.ownsRow B 124 4 (S k) (F k).length (vcl k (F k))
  nk : ∀ k, k ∉ ks → S k = .slice none 0 0
  apart : ∀ k q, k ≠ q → (S k).ownBlock = none ∨ (S k).ownBlock ≠ (S q).ownBlock
  ok : ∀ k, ∀ r ∈ F k, VrOk r
  bh : B ≤ h
  bm : B ≤ mb

/-- The blocks of both. -/
def foot (p b : Nat) (v : Value) (h mb : Nat) (S : Int → Value) : Nat → Prop := fun k => mfoot p b v k ∨ k = h ∨ k = mb ∨ ∃ q, (S q).ownBlock = some k

structure Sx (w : World) (B p h b mb : Nat) (v : Value) (S : Int → Value) (st : List Nat) (ks : List Int) (F : Int → List Vr) : Prop where
  mg : Mg w B p b v st
  hp : Hp w B p h mb S ks F
  ne : b ≠ mb

/-- A manager and a heap, whatever lies where; O: their blocks. -/
def Sd (w : World) (B p h : Nat) (O : Nat → Prop) (st : List Nat) (ks : List Int) (F : Int → List Vr) : Prop :=
  ∃ b mb v S, Sx w B p h b mb v S st ks F ∧ O = foot p b v h mb S

theorem Hp.fo {w w' : World} {B p h mb : Nat} {S : Int → Value} {ks : List Int} {F : Int → List Vr} {O : Nat → Prop} (a : Hp w B p h mb S ks F) (hf : Fo O w w') (h1 : ¬ O h) (h2 : ¬ O mb) (h3 : ∀ q k, (S q).ownBlock = some k → ¬ O k) : Hp w' B p h mb S ks F :=
  { a with hh := hf.heap h1 a.hh, hm := ownsMap_fo a.hm hf h2, rows := fun k => ownsRow_fo (a.rows k) hf (fun g hg => h3 k g hg) }

theorem Sx.fo {w w' : World} {B p h b mb : Nat} {v : Value} {S : Int → Value} {st : List Nat} {ks : List Int} {F : Int → List Vr} {O : Nat → Prop} (a : Sx w B p h b mb v S st ks F) (hf : Fo O w w') (hd : ∀ k, foot p b v h mb S k → ¬ O k) : Sx w' B p h b mb v S st ks F :=
  ⟨a.mg.fo hf (fun k hk => hd k (.inl hk)), a.hp.fo hf (hd h (.inr (.inl rfl))) (hd mb (.inr (.inr (.inl rfl)))) (fun q k hk => hd k (.inr (.inr (.inr ⟨q, hk⟩)))), a.ne⟩

theorem Sx.keep {w w' : World} {B p h b mb : Nat} {v : Value} {S : Int → Value} {st : List Nat} {ks : List Int} {F : Int → List Vr} (a : Sx w B p h b mb v S st ks F) (hk : Kept w w' []) : Sx w' B p h b mb v S st ks F :=
  a.fo (Fo.ofKept hk (fun _ => False)) (fun _ _ h => h)

theorem Sd.fo {w w' : World} {B p h : Nat} {O O' : Nat → Prop} {st : List Nat} {ks : List Int} {F : Int → List Vr} (a : Sd w B p h O st ks F) (hf : Fo O' w w') (hd : ∀ k, O k → ¬ O' k) : Sd w' B p h O st ks F := by
  obtain ⟨b, mb, v, S, a, rfl⟩ := a
  exact ⟨b, mb, v, S, a.fo hf hd, rfl⟩
theorem Sd.keep {w w' : World} {B p h : Nat} {O : Nat → Prop} {st : List Nat} {ks : List Int} {F : Int → List Vr} (a : Sd w B p h O st ks F) (hk : Kept w w' []) : Sd w' B p h O st ks F :=
  a.fo (Fo.ofKept hk (fun _ => False)) (fun _ _ h => h)

theorem Hp.cell {w : World} {B p h mb : Nat} {S : Int → Value} {ks : List Int} {F : Int → List Vr} (a : Hp w B p h mb S ks F) : w.cell? ⟨h, 0, none⟩ = some (.pointer (some ⟨p, 0, none⟩)) ∧ w.cell? ⟨h, 1, none⟩ = some (.map (some mb)) := by
  constructor
  · rw [cell_of_row w h 0 _ _ _ a.hh]; rfl
  · rw [cell_of_row w h 1 _ _ _ a.hh]; rfl

/-- A view's value. -/
def vw (mx : Int) (sl : Value) (own : Int) : Value := .agg #[.int .i64 mx, sl, .int .i64 own]

variable {w : World} {B p h b mb : Nat} {v : Value} {S : Int → Value} {st : List Nat} {ks : List Int} {F : Int → List Vr}

theorem missing_any (a : Sx w B p h b mb v S st ks F) : Calls Try.prog 55 #[.pointer (some ⟨h, 0, none⟩)] w fun e w' => e = .returned (.bool false) ∧ w = w' := by
  obtain ⟨c0, c1⟩ := a.hp.cell
  clear a
  go_enter Try.func55, Try.ntmps55
  go_wp2
  go_ret
  exact ⟨rfl, rfl⟩

theorem committed_any (a : Sx w B p h b mb v S st ks F) (x : Int) (hx : (Lit.int .i64 x).wf = true) : Calls Try.prog 75 #[.pointer (some ⟨h, 0, none⟩), .int .i64 x] w fun e w' => e = .returned (.bool (stAt st x == 2)) ∧ w = w' := by
  obtain ⟨c0, c1⟩ := a.hp.cell
  have hs := mstate_any a.mg x hx
  obtain ⟨n, hn⟩ : ∃ n, stAt st x = n := ⟨_, rfl⟩
  rw [hn] at hs ⊢
  clear a hx hn
  by_cases e : n = 2
  · subst e
    go_enter Try.func75, Try.ntmps75
    go_wp2_with (go_at_call 67; refine hs.mono ?_; rintro e w' ⟨rfl, rfl⟩)
    go_ret
    exact ⟨rfl, rfl⟩
  · have e1 : (n == 2) = false := by simpa using e
    have e2 : ¬ (n : Int) = 2 := by omega
    rw [e1]
    clear e1 e
    go_enter Try.func75, Try.ntmps75
    go_wp2_with (go_at_call 67; refine hs.mono ?_; rintro e w' ⟨rfl, rfl⟩)
    go_ret
    exact ⟨retb (by first | rfl | simpa using e2 | (simp; omega)), rfl⟩

theorem seesOf_any (a : Sx w B p h b mb v S st ks F) (mx own : Int) (sl : Value) (opl : List Int) (hsl : RdI w sl opl) (x : Int) (hx : (Lit.int .i64 x).wf = true) :
    Calls Try.prog 68 #[.pointer (some ⟨h, 0, none⟩), vw mx sl own, .int .i64 x] w fun e w' => e = .returned (.bool (did st ⟨mx, opl, own⟩ x)) ∧ Kept w w' [] := by
  have A := Lib.hid a; have HX := Lib.hid hx; have HS := Lib.hid hsl
  obtain ⟨sa, sc, rfl, _⟩ := hsl
  obtain ⟨c, hc⟩ : ∃ c, (stAt st x == 2) = c := ⟨_, rfl⟩
  have HC := Lib.hid hc
  unfold vw
  have K1 := Lib.hid ((Kept.refl w []).alloc (.cells #[.int .i64 mx, .slice sa opl.length sc, .int .i64 own] 51))
  have cc : Calls Try.prog 75 #[.pointer (some ⟨h, 0, none⟩), .int .i64 x] (w.alloc (.cells #[.int .i64 mx, .slice sa opl.length sc, .int .i64 own] 51)) fun e w' => e = .returned (.bool c) ∧ (w.alloc (.cells #[.int .i64 mx, .slice sa opl.length sc, .int .i64 own] 51)) = w' := by
    have := committed_any (A.out.keep K1.out) x HX.out
    rwa [hc] at this
  have cs := sees_any mx x _ opl _ (HS.out.keep K1.out)
  obtain ⟨s, hs⟩ : ∃ s, seesB mx opl x = s := ⟨_, rfl⟩
  rw [hs] at cs
  have HSB := Lib.hid hs
  clear a hx hc hs
  by_cases h1 : 0 < x
  · by_cases h2 : x = own
    · subst h2
      have R : Hid (did st ⟨mx, opl, x⟩ x = true) := Lib.hid (by simp [did, h1])
      clear cc cs
      go_enter Try.func68, Try.ntmps68
      go_wp2
      go_ret
      exact ⟨retb R.out.symm, K1.out⟩
    · have R : Hid (did st ⟨mx, opl, own⟩ x = (c && s)) := Lib.hid (by simp only [did, h2, decide_false, Bool.and_false, Bool.false_or, HC.out, HSB.out])
      have h3 : (x == own) = false := by simpa using h2
      cases c
      · go_enter Try.func68, Try.ntmps68
        go_wp2_with (go_at_call 75; refine cc.mono ?_; rintro e w' ⟨rfl, rfl⟩)
        go_ret
        exact ⟨retb R.out.symm, K1.out⟩
      · go_enter Try.func68, Try.ntmps68
        go_wp2_with (first
          | (go_at_call 75; refine cc.mono ?_; rintro e w' ⟨rfl, rfl⟩)
          | (go_at_call 82; refine cs.mono ?_; rintro e w' ⟨rfl, k2⟩))
        go_ret
        exact ⟨retb R.out.symm, K1.out.trans k2 (by simp)⟩
  · have R : Hid (did st ⟨mx, opl, own⟩ x = (c && s)) := Lib.hid (by simp only [did, h1, decide_false, Bool.false_and, Bool.false_or, HC.out, HSB.out])
    cases c
    · go_enter Try.func68, Try.ntmps68
      go_wp2_with (go_at_call 75; refine cc.mono ?_; rintro e w' ⟨rfl, rfl⟩)
      go_ret
      exact ⟨retb R.out.symm, K1.out⟩
    · go_enter Try.func68, Try.ntmps68
      go_wp2_with (first
        | (go_at_call 75; refine cc.mono ?_; rintro e w' ⟨rfl, rfl⟩)
        | (go_at_call 82; refine cs.mono ?_; rintro e w' ⟨rfl, k2⟩))
      go_ret
      exact ⟨retb R.out.symm, K1.out.trans k2 (by simp)⟩

theorem binds_any (a : Sx w B p h b mb v S st ks F) (mx own : Int) (sl : Value) (opl : List Int) (hsl : RdI w sl opl) (x : Int) (hx : (Lit.int .i64 x).wf = true) :
    Calls Try.prog 60 #[.pointer (some ⟨h, 0, none⟩), vw mx sl own, .int .i64 x] w fun e w' => e = .returned (.bool (binds st ⟨mx, opl, own⟩ x)) ∧ Kept w w' [] := by
  have A := Lib.hid a; have HX := Lib.hid hx
  obtain ⟨sa, sc, rfl, _⟩ := hsl
  obtain ⟨c, hc⟩ : ∃ c, (stAt st x == 2) = c := ⟨_, rfl⟩
  have HC := Lib.hid hc
  unfold vw
  have K1 := Lib.hid ((Kept.refl w []).alloc (.cells #[.int .i64 mx, .slice sa opl.length sc, .int .i64 own] 51))
  have cc : Calls Try.prog 75 #[.pointer (some ⟨h, 0, none⟩), .int .i64 x] (w.alloc (.cells #[.int .i64 mx, .slice sa opl.length sc, .int .i64 own] 51)) fun e w' => e = .returned (.bool c) ∧ (w.alloc (.cells #[.int .i64 mx, .slice sa opl.length sc, .int .i64 own] 51)) = w' := by
    have := committed_any (A.out.keep K1.out) x HX.out
    rwa [hc] at this
  have cs := mstate_any (A.out.keep K1.out).mg x HX.out
  obtain ⟨n, hn⟩ : ∃ n, stAt st x = n := ⟨_, rfl⟩
  rw [hn] at cs
  have HN := Lib.hid hn
  obtain ⟨c0, c1⟩ := (A.out.keep K1.out).hp.cell
  clear a hx hc hn
  cases c
  · by_cases h2 : x = own
    · subst h2
      have R : Hid (binds st ⟨mx, opl, x⟩ x = false) := Lib.hid (by simp only [binds, HC.out]; simp)
      clear cs
      go_enter Try.func60, Try.ntmps60
      go_wp2_with (go_at_call 75; refine cc.mono ?_; rintro e w' ⟨rfl, rfl⟩)
      go_ret
      exact ⟨retb R.out.symm, K1.out⟩
    · have h3 : (x != own) = true := by simpa using h2
      by_cases h4 : n = 1
      · subst h4
        have R : Hid (binds st ⟨mx, opl, own⟩ x = true) := Lib.hid (by unfold binds; rw [HC.out, HN.out]; simp [h2])
        go_enter Try.func60, Try.ntmps60
        go_wp2_with (first
          | (go_at_call 75; refine cc.mono ?_; rintro e w' ⟨rfl, rfl⟩)
          | (go_at_call 67; refine cs.mono ?_; rintro e w' ⟨rfl, rfl⟩))
        go_ret
        exact ⟨retb R.out.symm, K1.out⟩
      · have h5 : (n == 1) = false := by simpa using h4
        have R : Hid (binds st ⟨mx, opl, own⟩ x = false) := Lib.hid (by unfold binds; rw [HC.out, HN.out, h5]; simp)
        have h6 : ¬ (n : Int) = 1 := by omega
        clear h4 h5
        go_enter Try.func60, Try.ntmps60
        go_wp2_with (first
          | (go_at_call 75; refine cc.mono ?_; rintro e w' ⟨rfl, rfl⟩)
          | (go_at_call 67; refine cs.mono ?_; rintro e w' ⟨rfl, rfl⟩))
        go_ret
        exact ⟨retb (by rw [R.out]; first | rfl | simpa using h6 | (simp; omega)), K1.out⟩
  · have R : Hid (binds st ⟨mx, opl, own⟩ x = true) := Lib.hid (by simp only [binds, HC.out]; simp)
    clear cs
    go_enter Try.func60, Try.ntmps60
    go_wp2_with (go_at_call 75; refine cc.mono ?_; rintro e w' ⟨rfl, rfl⟩)
    go_ret
    exact ⟨retb R.out.symm, K1.out⟩

theorem sees_heap (a : Sx w B p h b mb v S st ks F) (mx own : Int) (sl : Value) (opl : List Int) (hsl : RdI w sl opl) (k : Int) (r : Vr) (hr : VrOk r) :
    Calls Try.prog 79 #[.pointer (some ⟨h, 0, none⟩), vw mx sl own, .agg (vcs k r).toArray] w fun e w' => e = .returned (.bool (sees st ⟨mx, opl, own⟩ r)) ∧ Kept w w' [] := by
  have A := Lib.hid a; have HS := Lib.hid hsl
  obtain ⟨sa, sc, rfl, _⟩ := hsl
  obtain ⟨hr1, hr2⟩ := hr
  have c1 : ∀ V, Kept w V [] → Calls Try.prog 68 #[.pointer (some ⟨h, 0, none⟩), .agg #[.int .i64 mx, .slice sa opl.length sc, .int .i64 own], .int .i64 r.birth] V fun e w' => e = .returned (.bool (did st ⟨mx, opl, own⟩ r.birth)) ∧ Kept V w' [] :=
    fun V hV => seesOf_any (A.out.keep hV) mx own _ opl (HS.out.keep hV) r.birth hr1
  have c2 : ∀ V, Kept w V [] → Calls Try.prog 68 #[.pointer (some ⟨h, 0, none⟩), .agg #[.int .i64 mx, .slice sa opl.length sc, .int .i64 own], .int .i64 r.death] V fun e w' => e = .returned (.bool (did st ⟨mx, opl, own⟩ r.death)) ∧ Kept V w' [] :=
    fun V hV => seesOf_any (A.out.keep hV) mx own _ opl (HS.out.keep hV) r.death hr2
  obtain ⟨txt, rb, rd⟩ := r
  simp only at c1 c2
  obtain ⟨x, hx⟩ : ∃ x, did st ⟨mx, opl, own⟩ rb = x := ⟨_, rfl⟩
  obtain ⟨y, hy⟩ : ∃ y, did st ⟨mx, opl, own⟩ rd = y := ⟨_, rfl⟩
  rw [hx] at c1; rw [hy] at c2
  have R : Hid (sees st ⟨mx, opl, own⟩ ⟨txt, rb, rd⟩ = (x && !y)) := Lib.hid (by simp only [sees, hx, hy])
  have C1 := Lib.hid c1; have C2 := Lib.hid c2
  unfold vw vcs
  have K1 := Lib.hid (((Kept.refl w []).alloc (.cells #[.int .i64 mx, .slice sa opl.length sc, .int .i64 own] 51)).alloc (.cells #[.int .i64 k, .string txt, .int .i64 rb, .int .i64 rd] 124))
  clear a hr1 hr2 c1 c2 hx hy
  cases x
  · go_enter Try.func79, Try.ntmps79
    go_wp2_with (go_at_call 68; refine (C1.out _ K1.out).mono ?_; rintro e w' ⟨rfl, k2⟩)
    go_ret
    exact ⟨retb R.out.symm, K1.out.trans k2 (by simp)⟩
  · go_enter Try.func79, Try.ntmps79
    go_wp2_with fail
    refine (C1.out _ K1.out).mono ?_
    rintro e w1 ⟨rfl, k2⟩
    have K2 := Lib.hid (K1.out.trans k2 (by simp))
    have hb1 := k2.heap (by simp) ((Below.heap_alloc _ (.cells #[.int .i64 k, .string txt, .int .i64 rb, .int .i64 rd] 124) _ (by simp)).trans (heap_alloc_new w (.cells #[.int .i64 mx, .slice sa opl.length sc, .int .i64 own] 51)))
    have hb2 := k2.heap (by simp) (heap_alloc_new (w.alloc (.cells #[.int .i64 mx, .slice sa opl.length sc, .int .i64 own] 51)) (.cells #[.int .i64 k, .string txt, .int .i64 rb, .int .i64 rd] 124))
    simp only [World.alloc, Array.size_push] at hb1 hb2
    have e0 : w1.cell? ⟨w.heap.size, 0, none⟩ = some (.int .i64 mx) := by rw [cell_of_row w1 _ 0 _ _ _ hb1]; rfl
    have e1 : w1.cell? ⟨w.heap.size, 1, none⟩ = some (.slice sa opl.length sc) := by rw [cell_of_row w1 _ 1 _ _ _ hb1]; rfl
    have e2 : w1.cell? ⟨w.heap.size, 2, none⟩ = some (.int .i64 own) := by rw [cell_of_row w1 _ 2 _ _ _ hb1]; rfl
    have e3 : w1.cell? ⟨w.heap.size + 1, 3, none⟩ = some (.int .i64 rd) := by rw [cell_of_row w1 _ 3 _ _ _ hb2]; rfl
    clear k2 hb1 hb2
    go_wp2_with fail
    refine (C2.out _ K2.out).mono ?_
    rintro e w2 ⟨rfl, k3⟩
    have K3 := Lib.hid (K2.out.trans k3 (by simp))
    clear k3
    go_wp2
    go_ret
    exact ⟨retb R.out.symm, K3.out⟩

end Go.Proofs.Ytdjhcdgehmpikaa
