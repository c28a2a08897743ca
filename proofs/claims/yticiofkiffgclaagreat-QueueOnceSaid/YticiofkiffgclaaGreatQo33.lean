/-
  Zqc in one text.
-/
import Derived.Test.YticiofkiffgclaaGreatQo32
namespace Go.Proofs.YticiofkiffgclaaGreat
set_option linter.unusedVariables false
open Go.RowKit

variable {w w' : World} {B : Nat} {a : Hk} {st : List Nat} {q : Qs} {O : Nat → Prop}

theorem Mg.low {C p b : Nat} {v : Value} (h : Mg w C p b v st) (hb : B ≤ C) : Mg w B p b v st :=
  { h with hv := ownsRow_low h.hv hb, bp := Nat.le_trans hb h.bp, bb := Nat.le_trans hb h.bb }
def KPost (w : World) (B : Nat) (a : Hk) (st : List Nat) (O : Nat → Prop) (q' : Qs) (w' : World) : Prop := ∃ O', KS w' B a st q' O' ∧ Stp O O' w w'
theorem KPost.of {d d' : Kv} {b : Nat} {u : Value} {l : Nat → List Ev} {c : Nat} {xs xs' : List Tk} {cs : List Cu} {rs : List It} (k : Kq w B a d l c xs cs rs) (g : Mg w B a.p b u st) (r : Kq w' B a d' q.l q.c xs' q.cs q.rs ∧ Stp (kfoot a d) (kfoot a d') w w') (e1 : xs'.map Tk.pl = q.ps) (e2 : d'.nx = .int .i64 q.nx) : KPost w B a st (kfoot a d) q w' :=
  ⟨kfoot a d', ⟨b, u, d', xs', r.1, g.fo r.2.1 (k.noT (by decide)) k.noM, e1, e2, rfl⟩, r.2⟩
theorem KPost.same (s : KS w B a st q O) (k : Kept w w' []) : KPost w B a st O q w' := ⟨O, s.keep k, Stp.ofK k⟩
set_option maxHeartbeats 1000000 in
theorem knew_any {C p b : Nat} {u : Value} (g : Mg w C p b u st) (hC : B ≤ C) (hB : B ≤ w.heap.size) : Calls Tryz.prog 14 #[.pointer (some ⟨p, 0, none⟩)] w fun e w' => ∃ a O, e = .returned (.pointer (some ⟨a.h, 0, none⟩)) ∧ a.p = p ∧ KS w' B a st Qs.new O ∧ Kept w w' [] ∧ ∀ k, O k → w.heap.size ≤ k := by
  have G := Lib.hid g; clear g
  go_enter Tryz.func14, Tryz.ntmps14
  go_wp2_with fail
  refine (new_any w).mono ?_
  rintro e w1 ⟨hs, rfl, s1, k1⟩
  have S1 := Lib.hid s1; have K1 := Lib.hid k1; clear s1 k1
  go_wp2_with fail
  refine (tknew_any w1).mono ?_
  rintro e w2 ⟨rfl, s2, k2⟩
  have S2 := Lib.hid s2; have K2 := Lib.hid k2; clear s2 k2
  go_wp2_with fail
  refine (cnew_any w2).mono ?_
  rintro e w3 ⟨rfl, s3, k3⟩
  have S3 := Lib.hid s3; have K3 := Lib.hid k3; clear s3 k3
  go_wp2_with fail
  refine (tnew_any w3).mono ?_
  rintro e w4 ⟨rfl, s4, k4⟩
  have S4 := Lib.hid s4; have K4 := Lib.hid k4; clear s4 k4
  go_wp2
  go_ret
  have z1 := K1.out.size; have z2 := K2.out.size; have z3 := K3.out.size; have z4 := K4.out.size
  have k34 := K3.out.trans K4.out (by simp)
  have k24 := K2.out.trans k34 (by simp)
  have k14 := K1.out.trans k24 (by simp)
  have b1 := S1.out.bh
  refine ⟨⟨w4.heap.size, p, hs, w1.heap.size, w2.heap.size, w3.heap.size⟩, _, rfl, rfl, ⟨b, u, ⟨noV, .slice none 0 0, .slice none 0 0, .slice none 0 0, .int .i64 1⟩, [], ⟨heap_alloc_new w4 _, by show B ≤ w4.heap.size; omega, ⟨(k24.alloc _).heap (by simp) S1.out.hh, by show B ≤ hs; omega, by decide, fun i _ => OwnE.nil _ _ _⟩, dst_no, ⟨(k34.alloc _).heap (by simp) S2.out.hh, by show B ≤ w1.heap.size; omega, by decide, OwnT.nil _ _ _, by simp⟩, ⟨(K4.out.alloc _).heap (by simp) S3.out.hh, by show B ≤ w2.heap.size; omega, by decide, OwnK.nil _ _ _⟩, ⟨((Kept.refl w4 []).alloc _).heap (by simp) S4.out.hh, by show B ≤ w3.heap.size; omega, by decide, OwnK.nil _ _ _⟩⟩, (G.out.keep (k14.alloc _)).low hC, rfl, rfl, rfl⟩, k14.alloc _, ?_⟩
  rintro k (hk | (hk | ⟨i, _, hk⟩) | (hk | hk) | (hk | hk) | (hk | hk))
  · have : k = w4.heap.size := hk
    omega
  · have : k = hs := hk
    omega
  · simp [noV, Value.ownBlock] at hk
  · have : k = w1.heap.size := hk
    omega
  · simp [Value.ownBlock] at hk
  · have : k = w2.heap.size := hk
    omega
  · simp [Value.ownBlock] at hk
  · have : k = w3.heap.size := hk
    omega
  · simp [Value.ownBlock] at hk

theorem SzQ.tabs {k : Nat} (z : SzQ k q) (hk : k ≤ 1000) : ∀ i, i < 3 → (q.l i).length < 1000000 := fun i hi => by have := z.table hi; omega

set_option maxHeartbeats 1000000 in
theorem kfrg_any (s : KS w B a st q O) {k : Nat} (z : SzQ k q) (hk : k ≤ 1000) (x : Int) : Calls Tryz.prog 23 #[.pointer (some ⟨a.h, 0, none⟩), .int .i64 x] w fun e w' => e = .returned (.int .i64 (frgN q x)) ∧ KPost w B a st O (frgQ q x) w' := by
  have SP := Lib.hid (kspools_any s)
  obtain ⟨b, u, d, xs, k, g, e1, e2, rfl⟩ := s.ex
  have FG := Lib.hid (forget_any k.sp k.ds (z.tabs hk) x)
  have K := Lib.hid k; have G := Lib.hid g; have E1 := Lib.hid e1; have E2 := Lib.hid e2
  clear s z hk k g e1 e2
  go_enter Tryz.func23, Tryz.ntmps23
  go_wp2_with fail
  refine SP.out.mono ?_
  rintro e w1 ⟨rfl, hw⟩
  have hw2 := hw.symm; clear hw; subst hw2
  go_wp2_with fail
  refine FG.out.mono ?_
  rintro e w2 ⟨rfl, V', h1, h2, h3⟩
  have P := Lib.hid (KPost.of (q := frgQ q x) K.out G.out (K.out.ofSpools h1 h2 h3) E1.out E2.out)
  clear h1 h2 h3
  go_wp2
  go_ret
  exact ⟨rfl, P.out⟩

set_option maxHeartbeats 1000000 in
theorem krgs_any (s : KS w B a st q O) {k : Nat} (z : SzQ k q) (hk : k ≤ 1000) (n : ByteArray) : Calls Tryz.prog 16 #[.pointer (some ⟨a.h, 0, none⟩), .string n] w fun e w' => e = .returned (.int .i64 (rgsE q n)) ∧ KPost w B a st O (rgsQ q n) w' := by
  obtain ⟨⟨c0, c1, c2, c3, c4⟩, -⟩ := s.cells
  have S := Lib.hid s
  obtain ⟨b, u, d, xs, k, g, e1, e2, rfl⟩ := s.ex
  have LA := Lib.hid (tklast_any k.tk (by have := z.ok.okp.size; rw [← e1, List.length_map] at this; omega))
  rw [e1] at LA
  have K := Lib.hid k; have G := Lib.hid g; have E1 := Lib.hid e1; have E2 := Lib.hid e2; have OK := Lib.hid z.ok.okc
  clear s z hk g e1 e2
  by_cases h0 : lastN q.ps = 0
  · have r1 : rgsE q n = 9 := if_pos h0
    have r2 : rgsQ q n = q := if_pos h0
    rw [r1, r2]
    rw [h0] at LA
    clear h0 r1 r2 k
    go_enter Tryz.func16, Tryz.ntmps16
    go_wp2_with fail
    refine LA.out.mono ?_
    rintro e w1 ⟨rfl, k1⟩
    go_wp2
    go_ret
    exact ⟨rfl, KPost.same S.out k1⟩
  · obtain ⟨L, hL⟩ : ∃ L, L = lastN q.ps := ⟨_, rfl⟩
    have r1 : rgsE q n = regE q.cs n L := by rw [hL]; exact if_neg h0
    have r2 : rgsQ q n = { q with cs := regL q.cs n L } := by rw [hL]; exact if_neg h0
    rw [r1, r2]
    rw [← hL] at LA h0
    have h1 : (L == 0) = false := by rw [beq_eq_false_iff_ne]; exact h0
    clear h0 r1 r2 hL k
    go_enter Tryz.func16, Tryz.ntmps16
    go_wp2_with fail
    refine LA.out.mono ?_
    rintro e w1 ⟨rfl, k1⟩
    have K1 := Lib.hid k1
    have c3 := k1.cell (by simp) c3
    have CR := Lib.hid (creg_any (K.out.keep k1).cu OK.out n L)
    clear k1 c0 c1 c2 c4
    go_wp2_with fail
    refine CR.out.mono ?_
    rintro e w2 ⟨rfl, V', h1, h3⟩
    have P := Lib.hid (KPost.of (q := { q with cs := regL q.cs n L }) (K.out.keep K1.out) (G.out.keep K1.out) ((K.out.keep K1.out).ofCursors h1 h3) E1.out E2.out)
    clear h1 h3 c3
    go_wp2
    go_ret
    obtain ⟨O', p1, p2⟩ := P.out
    exact ⟨rfl, O', p1, p2.afterK K1.out⟩

theorem trim_last (ps : List Pt) (h : lastN ps ≤ 9223372036854775807) : trimS ps 9223372036854775807 = trimS ps (lastN ps) := by
  unfold trimS trimP
  have e : min 9223372036854775807 (lastN ps) = min (lastN ps) (lastN ps) := by omega
  rw [e]

set_option maxHeartbeats 1000000 in
theorem ktrm_any (s : KS w B a st q O) {k : Nat} (z : SzQ k q) (hk : k ≤ 1000) : Calls Tryz.prog 28 #[.pointer (some ⟨a.h, 0, none⟩)] w fun e w' => e = .returned (.int .i64 (trmN q)) ∧ KPost w B a st O (trmQ q) w' := by
  have S := Lib.hid s
  obtain ⟨b, u, d, xs, k, g, e1, e2, rfl⟩ := s.ex
  have hs : xs.length ≤ 1000 := by have := z.ok.okp.size; rw [← e1, List.length_map] at this; omega
  have hs2 : (q.ps.length : Int) = xs.length := by rw [← e1, List.length_map]
  have LE := Lib.hid (clea_any k.cu (by have := z.ok.okc.few; omega))
  have LL := Lib.hid (show lastN q.ps ≤ 9223372036854775807 by have := z.last; omega)
  have K := Lib.hid k; have G := Lib.hid g; have E1 := Lib.hid e1; have E2 := Lib.hid e2; have HS := Lib.hid hs; have HS2 := Lib.hid hs2
  clear s z hk g e1 e2 hs hs2
  by_cases h0 : q.cs.length = 0
  · have hd : decide (0 < q.cs.length) = false := by rw [decide_eq_false_iff_not]; omega
    rw [hd] at LE
    have r1 : lowQ q = 9223372036854775807 := if_pos h0
    have r2 : trmQ q = { q with ps := trimS q.ps (lastN q.ps) } := by unfold trmQ; rw [r1, trim_last _ LL.out]
    have r3 : trmN q = (xs.length : Int) - (trimS q.ps (lastN q.ps)).length := by unfold trmN; rw [r1, trim_last _ LL.out, HS2.out]
    rw [r2, r3]
    obtain ⟨L, hL⟩ : ∃ L, L = lastN q.ps := ⟨_, rfl⟩
    obtain ⟨m, hm⟩ : ∃ m, m = leaN q.cs := ⟨_, rfl⟩
    have HL := Lib.hid hL
    rw [← hL]
    rw [← hm] at LE
    clear h0 hd r1 r2 r3 k hL hm
    go_enter Tryz.func28, Tryz.ntmps28
    go_wp2_with fail
    refine (kcursors_any S.out).mono ?_
    rintro e w1 ⟨rfl, hw⟩
    have hw2 := hw.symm; clear hw; subst hw2
    go_wp2_with fail
    refine LE.out.mono ?_
    rintro e w2 ⟨rfl, k2⟩
    have K2 := Lib.hid k2; clear k2
    go_wp2_with fail
    refine (kticks_any (S.out.keep K2.out)).mono ?_
    rintro e w1 ⟨rfl, hw⟩
    have hw2 := hw.symm; clear hw; subst hw2
    go_wp2_with fail
    refine (tklast_any (K.out.keep K2.out).tk HS.out).mono ?_
    rintro e w3 ⟨rfl, k3⟩
    rw [E1.out, ← HL.out]
    have K3 := Lib.hid (K2.out.trans k3 (by simp)); clear k3
    go_wp2_with fail
    refine (kticks_any (S.out.keep K3.out)).mono ?_
    rintro e w1 ⟨rfl, hw⟩
    have hw2 := hw.symm; clear hw; subst hw2
    go_wp2_with fail
    refine (tktrim_any (K.out.keep K3.out).tk HS.out L).mono ?_
    rintro e w4 ⟨rfl, V', xs', h1, h2, h3⟩
    rw [E1.out] at h2
    rw [E1.out]
    have P := Lib.hid (KPost.of (q := { q with ps := trimS q.ps L }) (K.out.keep K3.out) (G.out.keep K3.out) ((K.out.keep K3.out).ofTicks h1 h3) h2 E2.out)
    clear h1 h2 h3
    go_wp2
    go_ret
    obtain ⟨O', p1, p2⟩ := P.out
    exact ⟨rfl, O', p1, p2.afterK K3.out⟩
  · have hd : decide (0 < q.cs.length) = true := by rw [decide_eq_true_iff]; omega
    rw [hd] at LE
    have r1 : lowQ q = leaN q.cs := if_neg h0
    have r2 : trmQ q = { q with ps := trimS q.ps (leaN q.cs) } := by unfold trmQ; rw [r1]
    have r3 : trmN q = (xs.length : Int) - (trimS q.ps (leaN q.cs)).length := by unfold trmN; rw [r1, HS2.out]
    rw [r2, r3]
    obtain ⟨m, hm⟩ : ∃ m, m = leaN q.cs := ⟨_, rfl⟩
    rw [← hm] at LE ⊢
    clear h0 hd r1 r2 r3 k hm
    go_enter Tryz.func28, Tryz.ntmps28
    go_wp2_with fail
    refine (kcursors_any S.out).mono ?_
    rintro e w1 ⟨rfl, hw⟩
    have hw2 := hw.symm; clear hw; subst hw2
    go_wp2_with fail
    refine LE.out.mono ?_
    rintro e w2 ⟨rfl, k2⟩
    have K2 := Lib.hid k2; clear k2
    go_wp2_with fail
    refine (kticks_any (S.out.keep K2.out)).mono ?_
    rintro e w1 ⟨rfl, hw⟩
    have hw2 := hw.symm; clear hw; subst hw2
    go_wp2_with fail
    refine (tktrim_any (K.out.keep K2.out).tk HS.out m).mono ?_
    rintro e w4 ⟨rfl, V', xs', h1, h2, h3⟩
    rw [E1.out] at h2
    rw [E1.out]
    have P := Lib.hid (KPost.of (q := { q with ps := trimS q.ps m }) (K.out.keep K2.out) (G.out.keep K2.out) ((K.out.keep K2.out).ofTicks h1 h3) h2 E2.out)
    clear h1 h2 h3
    go_wp2
    go_ret
    obtain ⟨O', p1, p2⟩ := P.out
    exact ⟨rfl, O', p1, p2.afterK K2.out⟩

set_option maxHeartbeats 1000000 in
theorem ksnap_any (s : KS w B a st q O) {k : Nat} (z : SzQ k q) (n : Int) : Calls Tryz.prog 96 #[.pointer (some ⟨a.h, 0, none⟩), .int .i64 n] w fun e w' => ∃ va vc, e = .returned (.agg #[.int .i64 (tckP q n).M, .slice va (tckP q n).l.length vc]) ∧ RdT w' (.slice va (tckP q n).l.length vc) (tckP q n).l ∧ Kept w w' [] := by
  obtain ⟨W1, hW1⟩ : ∃ W1, W1 = w.alloc (.cells #[.int .i64 0, .slice none 0 0] 36) := ⟨_, rfl⟩
  have k1 : Kept w W1 [] := by rw [hW1]; exact (Kept.refl w []).alloc _
  have g1 : W1.heap[w.heap.size]? = some (.cells #[.int .i64 0, .slice none 0 0] 36 (0, 0)) := by rw [hW1]; exact heap_alloc_new w _
  obtain ⟨⟨c0, c1, c2, c3, c4⟩, -⟩ := (s.keep k1).cells
  obtain ⟨b, u, d, xs, k, g, e1, e2, rfl⟩ := s.ex
  have GE := Lib.hid (tkget_any (k.keep k1).tk (by rw [e1]; exact z.ok.okp) n)
  rw [e1] at GE
  have HT : RowKit.Hid (tckP q n = (getS q.ps n).getD ⟨0, 0, [], 0⟩) := Lib.hid rfl
  have K1 := Lib.hid k1; have HW1 := Lib.hid hW1; have G1 := Lib.hid g1
  have S1 := Lib.hid (show W1.heap.size = w.heap.size + 1 by rw [hW1]; simp)
  clear k1 g1 hW1 s z k g e1 e2
  go_enter Tryz.func96, Tryz.ntmps96
  go_upto_region 1 with fail
  rw [← HW1.out]
  go_wp2_with fail
  refine GE.out.mono ?_
  rintro e w2 ⟨y, rfl, hpl, hry, hfy, k2⟩
  obtain ⟨y0, y1, y2, y3, y4, y5⟩ := y
  simp only [Tk.cs, Tk.op] at *
  have K2 := Lib.hid (K1.out.trans k2 (by simp)); have HP := Lib.hid hpl; have HRY := Lib.hid hry; have HFY := Lib.hid hfy
  have zz := Lib.hid (show w.heap.size + 1 ≤ w2.heap.size by have := k2.size; rw [S1.out] at this; exact this)
  obtain ⟨W3, hW3⟩ : ∃ W3, W3 = w2.alloc (.cells #[.int .i64 y0, .int .i64 y1, .slice y2 y4.length y3, .int .i64 y5] 38) := ⟨_, rfl⟩
  have k3 : Kept w2 W3 [] := by rw [hW3]; exact (Kept.refl w2 []).alloc _
  have g2 := (k2.trans k3 (by simp)).heap (by simp) G1.out
  have g3 : W3.heap[w2.heap.size]? = some (.cells #[.int .i64 y0, .int .i64 y1, .slice y2 y4.length y3, .int .i64 y5] 38 (0, 0)) := by rw [hW3]; exact heap_alloc_new w2 _
  have K3 := Lib.hid k3; have HW3 := Lib.hid hW3; have G2 := Lib.hid g2; have G3 := Lib.hid g3
  clear k2 hpl hry hfy c0 c1 c2 c3 c4 k3 g2 g3 hW3
  go_upto_region 2 with fail
  rw [← HW3.out]
  obtain ⟨d0, d1⟩ := two_cells G2.out
  obtain ⟨x0, x1, x2, x3⟩ := tk_cells G3.out
  obtain ⟨f0, f1⟩ : W3.frozen? ⟨w.heap.size, 0, none⟩ = false ∧ W3.frozen? ⟨w.heap.size, 1, none⟩ = false := ⟨frozen_of_row _ _ _ _ _ G2.out, frozen_of_row _ _ _ _ _ G2.out⟩
  go_wp2
  refine bodyPost_ret (v := .agg #[.int .i64 y1, .slice y2 y4.length y3]) (by simp [results, Tryz.results96, go_sem, *]) rfl ?_
  have e1 : (tckP q n).M = y1 := by rw [HT.out, ← HP.out]; rfl
  have e2 : (tckP q n).l = y4 := by rw [HT.out, ← HP.out]; rfl
  rw [e1, e2]
  have kf : Kept w ((W3.setCell ⟨w.heap.size, 0, none⟩ (.int .i64 y1)).setCell ⟨w.heap.size, 1, none⟩ (.slice y2 y4.length y3)) [] := ((K2.out.trans K3.out (by simp)).setCell (p := ⟨w.heap.size, 0, none⟩) (.inr (Nat.le_refl _)) _).setCell (p := ⟨w.heap.size, 1, none⟩) (.inr (Nat.le_refl _)) _
  have f7 : Fo (fun k => k = w.heap.size) w2 ((W3.setCell ⟨w.heap.size, 0, none⟩ (.int .i64 y1)).setCell ⟨w.heap.size, 1, none⟩ (.slice y2 y4.length y3)) := ((Fo.ofKept K3.out (fun k => k = w.heap.size)).setCell (p := ⟨w.heap.size, 0, none⟩) (.inl rfl) _).setCell (p := ⟨w.heap.size, 1, none⟩) (.inl rfl) _
  have n7 : NoI w2 (fun k => k = w.heap.size) := by
    rintro k rfl cs fz hg
    have := K3.out.heap (by simp) hg
    exact absurd (tag_one G2.out this) (by decide)
  exact ⟨y2, y3, rfl, HRY.out.fo f7 n7, kf⟩

end Go.Proofs.YticiofkiffgclaaGreat
