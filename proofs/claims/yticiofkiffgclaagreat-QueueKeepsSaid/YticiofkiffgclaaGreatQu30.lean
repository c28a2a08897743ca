/-
  Zqc, Zqd in one text.
-/
import Derived.Test.YticiofkiffgclaaGreatQu0
import Derived.Test.YticiofkiffgclaaGreatQu29
set_option linter.unusedVariables false
set_option maxHeartbeats 16000000
set_option maxRecDepth 100000
namespace Go.Proofs.YticiofkiffgclaaGreat
open Go.RowKit
variable {w w' : World} {B : Nat} {a : Hk} {st : List Nat} {q : Qs} {O : Nat -> Prop}
theorem Mg.low {C p b : Nat} {v : Value} (h : Mg w C p b v st) (hb : B <= C) : Mg w B p b v st :=
 { h with hv := ownsRow_low h.hv hb, bp := Nat.le_trans hb h.bp, bb := Nat.le_trans hb h.bb }
def KPost (w : World) (B : Nat) (a : Hk) (st : List Nat) (O : Nat -> Prop) (q' : Qs) (w' : World) : Prop := ∃ O', KS w' B a st q' O' /\ Stp O O' w w'
theorem KPost.of {d d' : Kv} {b : Nat} {u : Value} {l : Nat -> List Ev} {c : Nat} {xs xs' : List Tk} {cs : List Cu} {rs : List It} (k : Kq w B a d l c xs cs rs) (g : Mg w B a.p b u st) (r : Kq w' B a d' q.l q.c xs' q.cs q.rs /\ Stp (xqR a d) (xqR a d') w w') (e1 : xs'.map Tk.pl = q.ps) (e2 : d'.nx = .int .i64 q.nx) : KPost w B a st (xqR a d) q w' :=
 ⟨xqR a d', ⟨b, u, d', xs', r.1, g.fo r.2.1 (k.noT (by decide)) k.noM, e1, e2, rfl⟩, r.2⟩
theorem KPost.same (s : KS w B a st q O) (k : Kept w w' []) : KPost w B a st O q w' := ⟨O, s.keep k, Stp.ofK k⟩
theorem knew_any {C p b : Nat} {u : Value} (g : Mg w C p b u st) (hC : B <= C) (hB : B <= w.heap.size) : Calls Tryz.prog 14 #[.pointer (some ⟨p, 0, none⟩)] w fun e w' => ∃ a O, e = .returned (.pointer (some ⟨a.h, 0, none⟩)) /\ a.p = p /\ KS w' B a st Qs.new O /\ Kept w w' [] /\ ∀ k, O k -> w.heap.size <= k := by
 have G := iH g; clear g
 go_enter Tryz.func14, Tryz.ntmps14
 go_wp2_with fail
 refine (new_any w).mono ?_
 rintro e w1 ⟨hs, rfl, s1, k1⟩
 have S1 := iH s1; have K1 := iH k1; clear s1 k1
 go_wp2_with fail
 refine (tknew_any w1).mono ?_
 rintro e w2 ⟨rfl, s2, k2⟩
 have S2 := iH s2; have K2 := iH k2; clear s2 k2
 go_wp2_with fail
 refine (cnew_any w2).mono ?_
 rintro e w3 ⟨rfl, s3, k3⟩
 have S3 := iH s3; have K3 := iH k3; clear s3 k3
 go_wp2_with fail
 refine (tnew_any w3).mono ?_
 rintro e w4 ⟨rfl, s4, k4⟩
 have S4 := iH s4; have K4 := iH k4; clear s4 k4
 go_wp2
 go_ret
 have z1 := K1.out.size; have z2 := K2.out.size; have z3 := K3.out.size; have z4 := K4.out.size
 have k34 := K3.out.trans K4.out (by simp)
 have k24 := K2.out.trans k34 (by simp)
 have k14 := K1.out.trans k24 (by simp)
 have b1 := S1.out.bh
 refine ⟨⟨w4.heap.size, p, hs, w1.heap.size, w2.heap.size, w3.heap.size⟩, _, rfl, rfl, ⟨b, u, ⟨noV, .slice none 0 0, .slice none 0 0, .slice none 0 0, .int .i64 1⟩, [], ⟨heap_alloc_new w4 _, by show B <= w4.heap.size; omega, ⟨(k24.alloc _).heap (by simp) S1.out.hh, by show B <= hs; omega, by decide, fun i _ => OwnE.nil _ _ _⟩, dst_no, ⟨(k34.alloc _).heap (by simp) S2.out.hh, by show B <= w1.heap.size; omega, by decide, OwnT.nil _ _ _, by simp⟩, ⟨(K4.out.alloc _).heap (by simp) S3.out.hh, by show B <= w2.heap.size; omega, by decide, OwnK.nil _ _ _⟩, ⟨((Kept.refl w4 []).alloc _).heap (by simp) S4.out.hh, by show B <= w3.heap.size; omega, by decide, OwnK.nil _ _ _⟩⟩, (G.out.keep (k14.alloc _)).low hC, rfl, rfl, rfl⟩, k14.alloc _, ?_⟩
 rintro k (hk | (hk | ⟨i, _, hk⟩) | (hk | hk) | (hk | hk) | (hk | hk))
 ·have : k = w4.heap.size := hk
  omega
 ·have : k = hs := hk
  omega
 ·simp [noV, Value.ownBlock] at hk
 ·have : k = w1.heap.size := hk
  omega
 ·simp [Value.ownBlock] at hk
 ·have : k = w2.heap.size := hk
  omega
 ·simp [Value.ownBlock] at hk
 ·have : k = w3.heap.size := hk
  omega
 simp [Value.ownBlock] at hk
theorem SzQ.tabs {k : Nat} (z : SzQ k q) (hk : k <= 1000) : ∀ i, i < 3 -> (q.l i).length < 1000000 := fun i hi => by have := z.table hi; omega
theorem kfrg_any (s : KS w B a st q O) {k : Nat} (z : SzQ k q) (hk : k <= 1000) (x : Int) : Calls Tryz.prog 23 #[.pointer (some ⟨a.h, 0, none⟩), .int .i64 x] w fun e w' => e = .returned (.int .i64 (frgN q x)) /\ KPost w B a st O (frgQ q x) w' := by
 have SP := iH (yqM s)
 obtain ⟨b, u, d, xs, k, g, e1, e2, rfl⟩ := s.ex
 have FG := iH (forget_any k.sp k.ds (z.tabs hk) x)
 have K := iH k; have G := iH g; have E1 := iH e1; have E2 := iH e2
 clear s z hk k g e1 e2
 go_enter Tryz.func23, Tryz.ntmps23
 go_wp2_with fail
 refine SP.out.mono ?_
 rintro e w1 ⟨rfl, hw⟩
 have hw2 := hw.symm; clear hw; subst hw2
 go_wp2_with fail
 refine FG.out.mono ?_
 rintro e w2 ⟨rfl, V', h1, h2, h3⟩
 have P := iH (KPost.of (q := frgQ q x) K.out G.out (K.out.ofSpools h1 h2 h3) E1.out E2.out)
 clear h1 h2 h3
 go_wp2
 go_ret
 exact ⟨rfl, P.out⟩
theorem kfns_any (s : KS w B a st q O) {k : Nat} (z : SzQ k q) (n : ByteArray) : Calls Tryz.prog 31 #[.pointer (some ⟨a.h, 0, none⟩), .string n] w fun e w' => e = .returned (.tuple #[.int .i64 (finN q.cs n), .int .i64 (finE q.cs n)]) /\ KPost w B a st O (fnsQ q n) w' := by
 have SP := iH (xqP s)
 obtain ⟨b, u, d, xs, k, g, e1, e2, rfl⟩ := s.ex
 have FG := iH (cfin_any k.cu z.ok.okc n)
 have K := iH k; have G := iH g; have E1 := iH e1; have E2 := iH e2
 clear s z k g e1 e2
 go_enter Tryz.func31, Tryz.ntmps31
 go_wp2_with fail
 refine SP.out.mono ?_
 rintro e w1 ⟨rfl, hw⟩
 have hw2 := hw.symm; clear hw; subst hw2
 go_wp2_with fail
 refine FG.out.mono ?_
 rintro e w2 ⟨rfl, V', h1, h3⟩
 have P := iH (KPost.of (q := fnsQ q n) K.out G.out (K.out.ofCursors h1 h3) E1.out E2.out)
 clear h1 h3
 go_wp2
 (try simp only [Exit.inBlock, Exit.then])
 refine bodyPost_ret (v := .tuple #[.int .i64 (finN q.cs n), .int .i64 (finE q.cs n)]) (by simp [results, Tryz.results31, go_sem]) rfl ?_
 exact ⟨rfl, P.out⟩
theorem krgs_any (s : KS w B a st q O) {k : Nat} (z : SzQ k q) (hk : k <= 1000) (n : ByteArray) : Calls Tryz.prog 16 #[.pointer (some ⟨a.h, 0, none⟩), .string n] w fun e w' => e = .returned (.int .i64 (rgsE q n)) /\ KPost w B a st O (rgsQ q n) w' := by
 obtain ⟨⟨c0, c1, c2, c3, c4⟩, -⟩ := s.cells
 have S := iH s
 obtain ⟨b, u, d, xs, k, g, e1, e2, rfl⟩ := s.ex
 have LA := iH (xq2 k.tk (by have := z.ok.okp.size; rw [<- e1, List.length_map] at this; omega))
 rw [e1] at LA
 have K := iH k; have G := iH g; have E1 := iH e1; have E2 := iH e2; have OK := iH z.ok.okc
 clear s z hk g e1 e2
 by_cases h0 : xqk q.ps = 0
 ·have r1 : rgsE q n = 9 := if_pos h0
  have r2 : rgsQ q n = q := if_pos h0
  rw [r1, r2]
  rw [h0] at LA
  clear h0 r1 r2 k
  go_enter Tryz.func16, Tryz.ntmps16
  go_wp2_with fail
  refine LA.out.mono ?_
  rintro e w1 ⟨rfl, k1⟩
  go_wp2
  go_ret
  exact ⟨rfl, KPost.same S.out k1⟩
 obtain ⟨L, hL⟩ : ∃ L, L = xqk q.ps := ⟨_, rfl⟩
 have r1 : rgsE q n = regE q.cs n L := by rw [hL]; exact if_neg h0
 have r2 : rgsQ q n = { q with cs := regL q.cs n L } := by rw [hL]; exact if_neg h0
 rw [r1, r2]
 rw [<- hL] at LA h0
 have h1 : (L == 0) = false := by rw [beq_eq_false_iff_ne]; exact h0
 clear h0 r1 r2 hL k
 go_enter Tryz.func16, Tryz.ntmps16
 go_wp2_with fail
 refine LA.out.mono ?_
 rintro e w1 ⟨rfl, k1⟩
 have K1 := iH k1
 have c3 := k1.cell (by simp) c3
 have CR := iH (creg_any (K.out.keep k1).cu OK.out n L)
 clear k1 c0 c1 c2 c4
 go_wp2_with fail
 refine CR.out.mono ?_
 rintro e w2 ⟨rfl, V', h1, h3⟩
 have P := iH (KPost.of (q := { q with cs := regL q.cs n L }) (K.out.keep K1.out) (G.out.keep K1.out) ((K.out.keep K1.out).ofCursors h1 h3) E1.out E2.out)
 clear h1 h3 c3
 go_wp2
 go_ret
 obtain ⟨O', p1, p2⟩ := P.out
 exact ⟨rfl, O', p1, p2.afterK K1.out⟩
theorem kurg_any (s : KS w B a st q O) {k : Nat} (z : SzQ k q) (n : ByteArray) : Calls Tryz.prog 43 #[.pointer (some ⟨a.h, 0, none⟩), .string n] w fun e w' => e = .returned (.int .i64 (unrE q.cs n)) /\ KPost w B a st O (urgQ q n) w' := by
 have SP := iH (xqP s)
 obtain ⟨b, u, d, xs, k, g, e1, e2, rfl⟩ := s.ex
 have UN := iH (cunr_any k.cu z.ok.okc n)
 have K := iH k; have G := iH g; have E1 := iH e1; have E2 := iH e2; have OI := iH z.oki
 clear s z k g e1 e2
 by_cases h0 : unrE q.cs n = 0
 ·have r2 : urgQ q n = { q with cs := unrL q.cs n, rs := drpI q.rs n } := by unfold urgQ; rw [if_pos h0]
  rw [r2, h0]
  rw [h0] at UN
  clear h0 r2
  go_enter Tryz.func43, Tryz.ntmps43
  go_wp2_with fail
  refine SP.out.mono ?_
  rintro e w1 ⟨rfl, hw⟩
  have hw2 := hw.symm; clear hw; subst hw2
  go_wp2_with fail
  refine UN.out.mono ?_
  rintro e w2 ⟨rfl, V', h1, h3⟩
  obtain ⟨k2, t2⟩ := K.out.ofCursors h1 h3
  have K2 := iH k2; have T2 := iH t2
  obtain ⟨c4, -⟩ := k2.cell (i := 4) rfl
  have DR := iH (tdrop_any k2.rt OI.out n)
  clear h1 h3 t2 k2
  go_wp2_with fail
  refine DR.out.mono ?_
  rintro e w3 ⟨rfl, VR', h1, h3⟩
  obtain ⟨k3, t3⟩ := K2.out.ofRetries h1 h3
  have Q := iH (KPost.of (q := { q with cs := unrL q.cs n, rs := drpI q.rs n }) K.out G.out ⟨k3, T2.out.trans t3⟩ E1.out E2.out)
  clear k3 t3
  clear h1 h3 c4
  go_wp2
  go_ret
  exact ⟨rfl, Q.out⟩
 have r2 : urgQ q n = { q with cs := unrL q.cs n } := by unfold urgQ; rw [if_neg h0]
 rw [r2]
 obtain ⟨L, hL⟩ : ∃ L, L = unrE q.cs n := ⟨_, rfl⟩
 rw [<- hL] at UN h0 ⊢
 have h1 : (L == 0) = false := by rw [beq_eq_false_iff_ne]; exact h0
 clear h0 r2 hL
 go_enter Tryz.func43, Tryz.ntmps43
 go_wp2_with fail
 refine SP.out.mono ?_
 rintro e w1 ⟨rfl, hw⟩
 have hw2 := hw.symm; clear hw; subst hw2
 go_wp2_with fail
 refine UN.out.mono ?_
 rintro e w2 ⟨rfl, V', h1, h3⟩
 have P := iH (KPost.of (q := { q with cs := unrL q.cs n }) K.out G.out (K.out.ofCursors h1 h3) E1.out E2.out)
 clear h1 h3
 go_wp2
 go_ret
 exact ⟨rfl, P.out⟩
theorem trim_last (ps : List Pt) (h : xqk ps <= 9223372036854775807) : xqM ps 9223372036854775807 = xqM ps (xqk ps) := by
 unfold xqM trimP
 have e : min 9223372036854775807 (xqk ps) = min (xqk ps) (xqk ps) := by omega
 rw [e]
theorem ktrm_any (s : KS w B a st q O) {k : Nat} (z : SzQ k q) (hk : k <= 1000) : Calls Tryz.prog 28 #[.pointer (some ⟨a.h, 0, none⟩)] w fun e w' => e = .returned (.int .i64 (trmN q)) /\ KPost w B a st O (trmQ q) w' := by
 have S := iH s
 obtain ⟨b, u, d, xs, k, g, e1, e2, rfl⟩ := s.ex
 have hs : xs.length <= 1000 := by have := z.ok.okp.size; rw [<- e1, List.length_map] at this; omega
 have hs2 : (q.ps.length : Int) = xs.length := by rw [<- e1, List.length_map]
 have LE := iH (clea_any k.cu (by have := z.ok.okc.few; omega))
 have LL := iH (show xqk q.ps <= 9223372036854775807 by have := z.last; omega)
 have K := iH k; have G := iH g; have E1 := iH e1; have E2 := iH e2; have HS := iH hs; have HS2 := iH hs2
 clear s z hk g e1 e2 hs hs2
 by_cases h0 : q.cs.length = 0
 ·have hd : decide (0 < q.cs.length) = false := by rw [decide_eq_false_iff_not]; omega
  rw [hd] at LE
  have r1 : lowQ q = 9223372036854775807 := if_pos h0
  have r2 : trmQ q = { q with ps := xqM q.ps (xqk q.ps) } := by unfold trmQ; rw [r1, trim_last _ LL.out]
  have r3 : trmN q = (xs.length : Int) - (xqM q.ps (xqk q.ps)).length := by unfold trmN; rw [r1, trim_last _ LL.out, HS2.out]
  rw [r2, r3]
  obtain ⟨L, hL⟩ : ∃ L, L = xqk q.ps := ⟨_, rfl⟩
  obtain ⟨m, hm⟩ : ∃ m, m = leaN q.cs := ⟨_, rfl⟩
  have HL := iH hL
  rw [<- hL]
  rw [<- hm] at LE
  clear h0 hd r1 r2 r3 k hL hm
  go_enter Tryz.func28, Tryz.ntmps28
  go_wp2_with fail
  refine (xqP S.out).mono ?_
  rintro e w1 ⟨rfl, hw⟩
  have hw2 := hw.symm; clear hw; subst hw2
  go_wp2_with fail
  refine LE.out.mono ?_
  rintro e w2 ⟨rfl, k2⟩
  have K2 := iH k2; clear k2
  go_wp2_with fail
  refine (yqn (S.out.keep K2.out)).mono ?_
  rintro e w1 ⟨rfl, hw⟩
  have hw2 := hw.symm; clear hw; subst hw2
  go_wp2_with fail
  refine (xq2 (K.out.keep K2.out).tk HS.out).mono ?_
  rintro e w3 ⟨rfl, k3⟩
  rw [E1.out, <- HL.out]
  have K3 := iH (K2.out.trans k3 (by simp)); clear k3
  go_wp2_with fail
  refine (yqn (S.out.keep K3.out)).mono ?_
  rintro e w1 ⟨rfl, hw⟩
  have hw2 := hw.symm; clear hw; subst hw2
  go_wp2_with fail
  refine (tktrim_any (K.out.keep K3.out).tk HS.out L).mono ?_
  rintro e w4 ⟨rfl, V', xs', h1, h2, h3⟩
  rw [E1.out] at h2
  rw [E1.out]
  have P := iH (KPost.of (q := { q with ps := xqM q.ps L }) (K.out.keep K3.out) (G.out.keep K3.out) ((K.out.keep K3.out).ofTicks h1 h3) h2 E2.out)
  clear h1 h2 h3
  go_wp2
  go_ret
  obtain ⟨O', p1, p2⟩ := P.out
  exact ⟨rfl, O', p1, p2.afterK K3.out⟩
 have hd : decide (0 < q.cs.length) = true := by rw [decide_eq_true_iff]; omega
 rw [hd] at LE
 have r1 : lowQ q = leaN q.cs := if_neg h0
 have r2 : trmQ q = { q with ps := xqM q.ps (leaN q.cs) } := by unfold trmQ; rw [r1]
 have r3 : trmN q = (xs.length : Int) - (xqM q.ps (leaN q.cs)).length := by unfold trmN; rw [r1, HS2.out]
 rw [r2, r3]
 obtain ⟨m, hm⟩ : ∃ m, m = leaN q.cs := ⟨_, rfl⟩
 rw [<- hm] at LE ⊢
 clear h0 hd r1 r2 r3 k hm
 go_enter Tryz.func28, Tryz.ntmps28
 go_wp2_with fail
 refine (xqP S.out).mono ?_
 rintro e w1 ⟨rfl, hw⟩
 have hw2 := hw.symm; clear hw; subst hw2
 go_wp2_with fail
 refine LE.out.mono ?_
 rintro e w2 ⟨rfl, k2⟩
 have K2 := iH k2; clear k2
 go_wp2_with fail
 refine (yqn (S.out.keep K2.out)).mono ?_
 rintro e w1 ⟨rfl, hw⟩
 have hw2 := hw.symm; clear hw; subst hw2
 go_wp2_with fail
 refine (tktrim_any (K.out.keep K2.out).tk HS.out m).mono ?_
 rintro e w4 ⟨rfl, V', xs', h1, h2, h3⟩
 rw [E1.out] at h2
 rw [E1.out]
 have P := iH (KPost.of (q := { q with ps := xqM q.ps m }) (K.out.keep K2.out) (G.out.keep K2.out) ((K.out.keep K2.out).ofTicks h1 h3) h2 E2.out)
 clear h1 h2 h3
 go_wp2
 go_ret
 obtain ⟨O', p1, p2⟩ := P.out
 exact ⟨rfl, O', p1, p2.afterK K2.out⟩
theorem ksnap_any (s : KS w B a st q O) {k : Nat} (z : SzQ k q) (n : Int) : Calls Tryz.prog 96 #[.pointer (some ⟨a.h, 0, none⟩), .int .i64 n] w fun e w' => ∃ va vc, e = .returned (.agg #[.int .i64 (tckP q n).M, .slice va (tckP q n).l.length vc]) /\ RdT w' (.slice va (tckP q n).l.length vc) (tckP q n).l /\ Kept w w' [] := by
 obtain ⟨W1, hW1⟩ : ∃ W1, W1 = w.alloc (.cells #[.int .i64 0, .slice none 0 0] 36) := ⟨_, rfl⟩
 have k1 : Kept w W1 [] := by rw [hW1]; exact (Kept.refl w []).alloc _
 have g1 : W1.heap[w.heap.size]? = some (.cells #[.int .i64 0, .slice none 0 0] 36 (0, 0)) := by rw [hW1]; exact heap_alloc_new w _
 obtain ⟨⟨c0, c1, c2, c3, c4⟩, -⟩ := (s.keep k1).cells
 obtain ⟨b, u, d, xs, k, g, e1, e2, rfl⟩ := s.ex
 have GE := iH (tkget_any (k.keep k1).tk (by rw [e1]; exact z.ok.okp) n)
 rw [e1] at GE
 have HT : RowKit.Hid (tckP q n = (getS q.ps n).getD ⟨0, 0, [], 0⟩) := iH rfl
 have K1 := iH k1; have HW1 := iH hW1; have G1 := iH g1
 have S1 := iH (show W1.heap.size = w.heap.size + 1 by rw [hW1]; simp)
 clear k1 g1 hW1 s z k g e1 e2
 go_enter Tryz.func96, Tryz.ntmps96
 go_upto_region 1 with fail
 rw [<- HW1.out]
 go_wp2_with fail
 refine GE.out.mono ?_
 rintro e w2 ⟨y, rfl, hpl, hry, hfy, k2⟩
 obtain ⟨y0, y1, y2, y3, y4, y5⟩ := y
 simp only [Tk.cs, Tk.op] at *
 have K2 := iH (K1.out.trans k2 (by simp)); have HP := iH hpl; have HRY := iH hry; have HFY := iH hfy
 have zz := iH (show w.heap.size + 1 <= w2.heap.size by have := k2.size; rw [S1.out] at this; exact this)
 obtain ⟨W3, hW3⟩ : ∃ W3, W3 = w2.alloc (.cells #[.int .i64 y0, .int .i64 y1, .slice y2 y4.length y3, .int .i64 y5] 38) := ⟨_, rfl⟩
 have k3 : Kept w2 W3 [] := by rw [hW3]; exact (Kept.refl w2 []).alloc _
 have g2 := (k2.trans k3 (by simp)).heap (by simp) G1.out
 have g3 : W3.heap[w2.heap.size]? = some (.cells #[.int .i64 y0, .int .i64 y1, .slice y2 y4.length y3, .int .i64 y5] 38 (0, 0)) := by rw [hW3]; exact heap_alloc_new w2 _
 have K3 := iH k3; have HW3 := iH hW3; have G2 := iH g2; have G3 := iH g3
 clear k2 hpl hry hfy c0 c1 c2 c3 c4 k3 g2 g3 hW3
 go_upto_region 2 with fail
 rw [<- HW3.out]
 obtain ⟨d0, d1⟩ := xqq G2.out
 obtain ⟨x0, x1, x2, x3⟩ := xqc G3.out
 obtain ⟨f0, f1⟩ : W3.frozen? ⟨w.heap.size, 0, none⟩ = false /\ W3.frozen? ⟨w.heap.size, 1, none⟩ = false := ⟨frozen_of_row _ _ _ _ _ G2.out, frozen_of_row _ _ _ _ _ G2.out⟩
 go_wp2
 refine bodyPost_ret (v := .agg #[.int .i64 y1, .slice y2 y4.length y3]) (by simp [results, Tryz.results96, go_sem, *]) rfl ?_
 have e1 : (tckP q n).M = y1 := by rw [HT.out, <- HP.out]; rfl
 have e2 : (tckP q n).l = y4 := by rw [HT.out, <- HP.out]; rfl
 rw [e1, e2]
 have kf : Kept w ((W3.setCell ⟨w.heap.size, 0, none⟩ (.int .i64 y1)).setCell ⟨w.heap.size, 1, none⟩ (.slice y2 y4.length y3)) [] := ((K2.out.trans K3.out (by simp)).setCell (p := ⟨w.heap.size, 0, none⟩) (.inr (Nat.le_refl _)) _).setCell (p := ⟨w.heap.size, 1, none⟩) (.inr (Nat.le_refl _)) _
 have f7 : Fo (fun k => k = w.heap.size) w2 ((W3.setCell ⟨w.heap.size, 0, none⟩ (.int .i64 y1)).setCell ⟨w.heap.size, 1, none⟩ (.slice y2 y4.length y3)) := ((Fo.ofKept K3.out (fun k => k = w.heap.size)).setCell (p := ⟨w.heap.size, 0, none⟩) (.inl rfl) _).setCell (p := ⟨w.heap.size, 1, none⟩) (.inl rfl) _
 have n7 : NoI w2 (fun k => k = w.heap.size) := by
  rintro k rfl cs fz hg
  have := K3.out.heap (by simp) hg
  exact absurd (xqA G2.out this) (by decide)
 exact ⟨y2, y3, rfl, HRY.out.fo f7 n7, kf⟩
variable {w w' : World} {B : Nat} {a : Hk} {st : List Nat} {q : Qs} {O : Nat -> Prop}
theorem Fo.far {O P : Nat -> Prop} {a b c : World} (h : Fo O a b) (k : Fo P b c) (hP : ∀ k, P k -> a.heap.size <= k) : Fo O a c :=
 ⟨k.os.trans h.os, k.tape.trans h.tape, k.output.trans h.output, Nat.le_trans h.size k.size, fun i hi hn => (k.block i (Nat.lt_of_lt_of_le hi h.size) (fun ho => by have := hP i ho; omega)).trans (h.block i hi hn)⟩
theorem one_noM {z : Nat} {c : Array Value} {T : TypeId} {f : Nat × Nat} (g : w.heap[z]? = some (.cells c T f)) : NoM w (fun k => k = z) := by
 rintro k rfl es x h
 rw [g] at h; cases h
theorem one_noT {z : Nat} {c : Array Value} {T : TypeId} {f : Nat × Nat} (g : w.heap[z]? = some (.cells c T f)) {ts : List TypeId} (hT : T ∉ ts) : NoT w (fun k => k = z) ts := by
 rintro k rfl c2 t2 f2 h
 rw [<- xqA g h]; exact hT
theorem xqK {z : Nat} {c : Array Value} {T : TypeId} {f : Nat × Nat} (g : w.heap[z]? = some (.cells c T f)) (hT : T ≠ 2) : NoI w (fun k => k = z) := by
 rintro k rfl c2 f2 h
 exact hT (xqA g h)
theorem KPost.boxed {W1 w2 : World} {st0 : List Nat} {q0 : Qs} (s0 : KS w B a st0 q0 O) (k1 : Kept w W1 []) (p : KPost W1 B a st O q w') {z : Nat} {c : Array Value} {T : TypeId} {fz : Nat × Nat} (g : w'.heap[z]? = some (.cells c T fz)) (hT : T ∉ mts) (hI : T ≠ 2) (h1 : w.heap.size <= z) (h2 : z < W1.heap.size) (f : Fo (fun k => k = z) w' w2) : KPost w B a st O q w2 := by
 obtain ⟨O', s', t'⟩ := p
 refine ⟨O', s'.fo f (fun k hk e => ?_) (xqK g hI) (one_noT g hT) (one_noM g), ((Stp.afterK k1 t').1).far f (fun k e => by omega), (Stp.afterK k1 t').2⟩
 subst e
 rcases t'.2 k hk with h | h
 ·have := (s0.lt k h).2; omega
 omega
theorem xqY {a : Hk} {d : Kv} (h : w.heap[a.h]? = some (.cells (kR a d) quT (0, 0))) : w.cell? ⟨a.h, 0, none⟩ = some (.pointer (some ⟨a.p, 0, none⟩)) /\ w.cell? ⟨a.h, 1, none⟩ = some (.pointer (some ⟨a.hs, 0, none⟩)) /\ w.cell? ⟨a.h, 2, none⟩ = some (.pointer (some ⟨a.ht, 0, none⟩)) /\ w.cell? ⟨a.h, 3, none⟩ = some (.pointer (some ⟨a.hc, 0, none⟩)) /\ w.cell? ⟨a.h, 4, none⟩ = some (.pointer (some ⟨a.hr, 0, none⟩)) := by
 have e : (kR a d) = (kR a d).toList.toArray := rfl
 rw [e] at h
 refine ⟨?_, ?_, ?_, ?_, ?_⟩ <;> (rw [cell_of_row _ _ _ _ _ _ h]; rfl)
abbrev zE8 : Obj := .cells #[.int .i64 0, .int .i64 0, .string ⟨#[]⟩, .int .i64 0, .int .i64 0, .int .u8 0, .int .i64 0, .string ⟨#[]⟩] 50
theorem kwri_any (s : KS w B a st q O) {k : Nat} (z : SzQ k q) (hk : k <= 1000) (x tb kd key : Int) (t : ByteArray) : Calls Tryz.prog 20 #[.pointer (some ⟨a.h, 0, none⟩), .int .i64 x, .int .i64 tb, .int .u8 kd, .agg #[.int .i64 key, .string t]] w fun e w' => e = .returned (.agg (wriV q x tb kd key t).cs) /\ KPost w B a st O (wriQ q x tb kd key t) w' := by
 obtain ⟨zb, hzb⟩ : ∃ zb, zb = w.heap.size := ⟨_, rfl⟩
 obtain ⟨W0, hW0⟩ : ∃ W0, W0 = w.alloc (.cells #[.int .i64 key, .string t] 48) := ⟨_, rfl⟩
 obtain ⟨W1, hW1⟩ : ∃ W1, W1 = W0.alloc zE8 := ⟨_, rfl⟩
 have k0 : Kept w W0 [] := by rw [hW0]; exact (Kept.refl w []).alloc _
 have k1' : Kept W0 W1 [] := by rw [hW1]; exact (Kept.refl W0 []).alloc _
 have k1 : Kept w W1 [] := k0.trans k1' (by simp)
 have zW0 : W0.heap.size = zb + 1 := by rw [hW0, hzb]; simp
 have zW1 : W1.heap.size = zb + 2 := by rw [hW1]; simp [zW0]
 have g0 : W1.heap[zb]? = some (.cells #[.int .i64 key, .string t] 48 (0, 0)) := k1'.heap (by simp) (by rw [hW0, hzb]; exact heap_alloc_new w _)
 have g1 : W1.heap[zb + 1]? = some (.cells #[.int .i64 0, .int .i64 0, .string ⟨#[]⟩, .int .i64 0, .int .i64 0, .int .u8 0, .int .i64 0, .string ⟨#[]⟩] 50 (0, 0)) := by rw [hW1, <- zW0]; exact heap_alloc_new W0 _
 obtain ⟨nx, hnx⟩ : ∃ nx, nx = q.nx := ⟨_, rfl⟩
 have CF : RowKit.Hid (∀ Z, Kept W1 Z [] -> Z.cell? ⟨a.h, 5, none⟩ = some (.int .i64 nx)) := iH (fun Z hZ => by rw [hnx]; exact (s.keep (k1.trans hZ (by simp))).cells.2.1)
 have RW : RowKit.Hid (∀ Z, Kept W1 Z [] -> Z.cell? ⟨zb, 0, none⟩ = some (.int .i64 key) /\ Z.cell? ⟨zb, 1, none⟩ = some (.string t)) := iH (fun Z hZ => xqq (hZ.heap (by simp) g0))
 have S := iH s; have S1 := iH (s.keep k1); have K1 := iH k1; have G0 := iH g0; have G1 := iH g1; have HW0 := iH hW0; have HW1 := iH hW1; have HZB := iH hzb; have ZW1 := iH zW1; have HNX := iH hnx
 have BN : RowKit.Hid (1 <= nx /\ nx <= 1001) := iH (by have := z.nx; rw [hnx]; omega)
 have TB := iH (z.tabs hk q.c z.ok.c3)
 have EV : RowKit.Hid ((wriV q x tb kd key t).cs = #[.int .i64 nx, .int .i64 x, .string ⟨#[]⟩, .int .i64 0, .int .i64 tb, .int .u8 kd, .int .i64 key, .string t]) := iH (by rw [hnx]; rfl)
 clear s k0 k1' k1 zW0 zW1 g0 g1 hW0 hW1 hnx z hk
 go_enter Tryz.func20, Tryz.ntmps20
 go_upto_region 3 with fail
 rw [<- HW0.out, <- HW1.out, <- HZB.out]
 clear hzb
 refine wp_region_held_drew (S := fun Z => Kept W1 Z []) (by kernel_rfl) (Kept.refl W1 []).drew (fun hJ => ?_)
 refine wx 0 15 (.pointer (some ⟨a.h, 0, none⟩)) rfl hJ ?_
 refine wx 1 16 (.pointer (some ⟨a.h, 0, none⟩)) rfl hJ ?_
 refine wx 2 17 (.pointer (some ⟨a.h, 5, none⟩)) rfl hJ ?_
 refine wx 3 18 (.int .i64 nx) rfl hJ ?_ (hy := fun V hV => by (have q0 := CF.out V hV; clear hV; go_simp))
 refine wx 4 19 (.int .i64 x) rfl hJ ?_
 refine wx 5 20 (.int .i64 tb) rfl hJ ?_
 refine wx 6 21 (.int .u8 kd) rfl hJ ?_
 refine wx 7 22 (.agg #[.int .i64 key, .string t]) rfl hJ ?_ (hy := fun V hV => by (obtain ⟨q0, q1⟩ := RW.out V hV; clear hV; go_simp))
 refine wx 8 23 (.agg #[.int .i64 nx, .int .i64 x, .string ⟨#[]⟩, .int .i64 0, .int .i64 tb, .int .u8 kd, .int .i64 key, .string t]) rfl hJ ?_
 refine wr1 9 rfl (fun K hK => ?_)
 go_simp
 refine hK.out _ _ (((Kept.refl W1 []).drew).alloc zE8) (fun hJ => ?_)
 clear hK K
 obtain ⟨wA, hwA⟩ : ∃ wA, wA = (W1.alloc zE8).drew := ⟨_, rfl⟩
 obtain ⟨z2, hz2⟩ : ∃ z2, z2 = W1.heap.size := ⟨_, rfl⟩
 have kA : Kept W1 wA [] := by rw [hwA]; exact ((Kept.refl W1 []).alloc zE8).drew
 have gA : wA.heap[z2]? = some (.cells #[.int .i64 0, .int .i64 0, .string ⟨#[]⟩, .int .i64 0, .int .i64 0, .int .u8 0, .int .i64 0, .string ⟨#[]⟩] 50 (0, 0)) := by rw [hwA, hz2]; exact heap_alloc_new W1 zE8
 rw [<- hwA, <- hz2]
 have KA := iH kA; have GA := iH gA; have HZ2 := iH hz2
 obtain ⟨x0, x1, x2, x3, x4, x5, x6, x7⟩ := xqm gA
 obtain ⟨f0, f1, f2, f3, f4, f5, f6, f7⟩ := yqr gA
 clear hwA hz2 kA gA
 refine wr1 10 rfl (fun K hK => ?_)
 go_simp
 refine hK.out _ (xqo wA z2 0 [.int .i64 nx, .int .i64 x, .string ⟨#[]⟩, .int .i64 0, .int .i64 tb, .int .u8 kd, .int .i64 key, .string t]) (xqr KA.out (by rw [HZ2.out]; exact Nat.le_refl _) _) (fun hJ => ?_)
 clear hK K
 refine wd ?_
 clear hJ
 obtain ⟨w3, hw3⟩ : ∃ w3, w3 = xqo wA z2 0 [.int .i64 nx, .int .i64 x, .string ⟨#[]⟩, .int .i64 0, .int .i64 tb, .int .u8 kd, .int .i64 key, .string t] := ⟨_, rfl⟩
 have k3 : Kept W1 w3 [] := by rw [hw3]; exact xqr KA.out (by rw [HZ2.out]; exact Nat.le_refl _) _
 have g3 : w3.heap[z2]? = some (.cells #[.int .i64 nx, .int .i64 x, .string ⟨#[]⟩, .int .i64 0, .int .i64 tb, .int .u8 kd, .int .i64 key, .string t] 50 (0, 0)) := by rw [hw3]; exact xqH GA.out rfl
 have HW3 := iH hw3
 rw [<- hw3]
 obtain ⟨c5, fz5⟩ := (S1.out.keep k3).cells.2
 rw [<- HNX.out] at c5
 have K3 := iH k3; have G3 := iH g3
 clear hw3 k3 g3 x0 x1 x2 x3 x4 x5 x6 x7 f0 f1 f2 f3 f4 f5 f6 f7
 go_upto_region 5 with fail
 obtain ⟨b, u, d, xs, kq, g, e1, e2, rfl⟩ := (S1.out.keep K3.out).ex
 obtain ⟨nx2, hnx2⟩ : ∃ n, n = wrap64 (nx + 1) := ⟨_, rfl⟩
 rw [<- hnx2]
 obtain ⟨w4, hw4⟩ : ∃ w4, w4 = w3.setCell ⟨a.h, 5, none⟩ (.int .i64 nx2) := ⟨_, rfl⟩
 rw [<- hw4]
 obtain ⟨k4, t4⟩ := kq.setNext (.int .i64 nx2)
 rw [<- hw4] at k4 t4
 have kd4 : Kept w4 w4.drew [] := (Kept.refl w4 []).drew
 have h4 : w4.heap[a.h]? = some (.cells (kR a { d with nx := .int .i64 nx2 }) quT (0, 0)) := k4.hh
 have z4 : w4.heap[z2]? = some (.cells #[.int .i64 nx, .int .i64 x, .string ⟨#[]⟩, .int .i64 0, .int .i64 tb, .int .u8 kd, .int .i64 key, .string t] 50 (0, 0)) := by
  rw [hw4]
  exact ((Fo.refl (fun k => k = a.h) w3).setCell (p := ⟨a.h, 5, none⟩) (.inl rfl) _).heap (fun e => by have := (S.out.lt a.h (.inl rfl)).2; have := HZ2.out; have := ZW1.out; have := HZB.out; omega) G3.out
 have NF : RowKit.Hid (¬ xqy a.hs d.V z2) := iH (fun hk => by have := (S.out.lt z2 (.inr (.inl hk))).2; have := HZ2.out; have := ZW1.out; have := HZB.out; omega)
 have S4 := iH (And.intro (kd4.heap (by simp) h4) (kd4.heap (by simp) z4))
 have CA := iH (add_any (k4.keep kd4).sp (k4.keep kd4).ds TB.out ⟨nx, x, ⟨#[]⟩, 0, tb, kd, key, t⟩)
 simp only [Ev.cs] at CA
 have K4 := iH k4; have T4 := iH t4; have KQ := iH kq; have MG := iH g; have E1 := iH e1; have KD := iH kd4; have HN2 := iH hnx2
 clear kq g e1 e2 hnx2 hw4 k4 t4 kd4 h4 z4 c5 fz5
 refine wp_region_held_drew (S := fun Z => Z.heap[a.h]? = some (.cells (kR a { d with nx := .int .i64 nx2 }) quT (0, 0)) /\ Z.heap[z2]? = some (.cells #[.int .i64 nx, .int .i64 x, .string ⟨#[]⟩, .int .i64 0, .int .i64 tb, .int .u8 kd, .int .i64 key, .string t] 50 (0, 0))) (by kernel_rfl) S4.out (fun hJ => ?_)
 refine wx 0 31 (.pointer (some ⟨a.h, 0, none⟩)) rfl hJ ?_
 refine wx 1 32 (.pointer (some ⟨a.h, 0, none⟩)) rfl hJ ?_
 refine wx 2 33 (.pointer (some ⟨a.h, 1, none⟩)) rfl hJ ?_
 refine wx 3 34 (.pointer (some ⟨a.hs, 0, none⟩)) rfl hJ ?_ (hy := fun V hV => by (obtain ⟨q0, q1, q2, q3, q4⟩ := xqY hV.1; clear hV; go_simp))
 refine wx 4 35 (.agg #[.int .i64 nx, .int .i64 x, .string ⟨#[]⟩, .int .i64 0, .int .i64 tb, .int .u8 kd, .int .i64 key, .string t]) rfl hJ ?_ (hy := fun V hV => by (obtain ⟨q0, q1, q2, q3, q4, q5, q6, q7⟩ := xqm hV.2; clear hV; go_simp))
 refine wr1 5 rfl (fun K hK => ?_)
 go_simp
 go_at_call 80
 refine (CA.out).mono ?_
 rintro r w5 ⟨rfl, r5⟩
 have R5 := iH r5
 have S5 : RowKit.Hid (w5.heap[a.h]? = some (.cells (kR a { d with nx := .int .i64 nx2 }) quT (0, 0)) /\ w5.heap[z2]? = some (.cells #[.int .i64 nx, .int .i64 x, .string ⟨#[]⟩, .int .i64 0, .int .i64 tb, .int .u8 kd, .int .i64 key, .string t] 50 (0, 0))) := iH (by obtain ⟨V9, h1, h2, h3⟩ := r5; exact ⟨((K4.out.keep KD.out).ofSpools h1 h2 h3).1.hh, h3.1.heap NF.out S4.out.2⟩)
 clear r5
 go_wp2_with fail
 refine hK.out _ _ S5.out (fun hJ => ?_)
 clear hK K
 refine wd ?_
 clear hJ
 obtain ⟨V', h1, h2, h3⟩ := R5.out
 obtain ⟨k5, t5⟩ := (K4.out.keep KD.out).ofSpools h1 h2 h3
 have PP := iH (KPost.of (q := { q with l := upd q.l q.c (q.l q.c ++ [⟨nx, x, ⟨#[]⟩, 0, tb, kd, key, t⟩]), nx := nx2 }) KQ.out MG.out ⟨k5, T4.out.trans (t5.afterK KD.out)⟩ E1.out rfl)
 have g5 := S5.out.2
 have g51 := t5.1.heap (fun hk => by have := (S.out.lt (zb + 1) hk).2; have := HZB.out; omega) ((KD.out.heap (by simp) (T4.out.1.heap (fun hk => by have := (S.out.lt (zb + 1) hk).2; have := HZB.out; omega) (K3.out.heap (by simp) G1.out))))
 have G51 := iH g51
 obtain ⟨x0, x1, x2, x3, x4, x5, x6, x7⟩ := xqm g5
 obtain ⟨y0, y1, y2, y3, y4, y5, y6, y7⟩ := xqm g51
 obtain ⟨f0, f1, f2, f3, f4, f5, f6, f7⟩ := yqr g51
 have NE : z2 ≠ zb + 1 := by have := HZ2.out; have := ZW1.out; omega
 clear h1 h2 h3 k5 t5 g5 g51 R5
 go_wp2
 refine bodyPost_ret (v := .agg #[.int .i64 nx, .int .i64 x, .string ⟨#[]⟩, .int .i64 0, .int .i64 tb, .int .u8 kd, .int .i64 key, .string t]) (by simp [results, Tryz.results20, go_sem, *]) rfl ?_
 have ff : Fo (fun k => k = zb + 1) w5 (xqo w5 (zb + 1) 0 [.int .i64 nx, .int .i64 x, .string ⟨#[]⟩, .int .i64 0, .int .i64 tb, .int .u8 kd, .int .i64 key, .string t]) := xqu (O := fun k => k = zb + 1) _ w5 0 (Fo.refl _ w5) (.inl rfl)
 have PQ := KPost.boxed S.out K1.out (by obtain ⟨O', p1, p2⟩ := PP.out; exact ⟨O', p1, p2.afterK K3.out⟩) G51.out (by decide) (by decide) (by rw [HZB.out]; omega) (by have := ZW1.out; omega) ff
 have hnx := HNX.out
 have hn2 := HN2.out
 subst hnx
 subst hn2
 exact ⟨rfl, PQ⟩
end Go.Proofs.YticiofkiffgclaaGreat
