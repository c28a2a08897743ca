/-
 Sph, Spi, Sqa, Sqb in one text.
-/
import Derived.Test.YticiofkiffgclaaGreatQu0
import Derived.Test.YticiofkiffgclaaGreatQu18
import Derived.Test.YticiofkiffgclaaGreatQu2
import Derived.Test.YticiofkiffgclaaGreatQu9
import Derived.Laws.StructEq
import Derived.BigQuiet
import Derived.Deep.DeepCutAuto
set_option linter.unusedVariables false
set_option maxHeartbeats 16000000
set_option maxRecDepth 100000
namespace Go.Proofs.YticiofkiffgclaaGreat
open Go.RowKit
variable {w w' : World} {B h c k : Nat} {x : Int} {V : Nat -> Value} {l : Nat -> List Ev}
def forL (x : Int) (l : Nat -> List Ev) : Nat -> List Ev := fun i => (l i).filter fun r => !ofX x r
def flK (x : Int) (l : Nat -> List Ev) (k : Nat) : Nat -> List Ev := fun i => if i < k then forL x l i else l i
theorem Sp.congr {T : TypeId} {m : Nat -> List Ev} (a : Sp T w B h V l c) (e : ∀ i, i < 3 -> l i = m i) : Sp T w B h V m c := ⟨a.hh, a.bh, a.c3, fun i hi => by rw [<- e i hi]; exact a.own i hi⟩
theorem lenN_le (x : Int) (l : Nat -> List Ev) : lenN (forL x l) <= lenN l := by
 unfold lenN forL
 have := List.length_filter_le (fun r => !ofX x r) (l 0)
 have := List.length_filter_le (fun r => !ofX x r) (l 1)
 have := List.length_filter_le (fun r => !ofX x r) (l 2)
 omega
theorem forget_step (a : Sp spT w B h V (flK x l k) c) (d : Dst V) (hk : k < 3) (hl : (l k).length < 1000000) {xb : Nat} (hx : w.heap[xb]? = some (.cells #[.int .i64 x] 2 (0, 0))) :
 Calls Tryz.prog 139 #[V k, .func (.func 138) #[] #[.pointer (some ⟨xb, 0, none⟩)]] w.drew fun e w2 => ∃ u m n, e = .returned (.slice u m n) /\ w2.cell? ⟨h, k, none⟩ = some (V k) /\ w2.frozen? ⟨h, k, none⟩ = false /\
  Sp spT (w2.setCell ⟨h, k, none⟩ (.slice u m n)) B h (upd V k (.slice u m n)) (flK x l (k + 1)) c /\ Dst (upd V k (.slice u m n)) /\ Stp (xqy h V) (xqy h (upd V k (.slice u m n))) w (w2.setCell ⟨h, k, none⟩ (.slice u m n)) /\
  (w2.setCell ⟨h, k, none⟩ (.slice u m n)).heap[xb]? = some (.cells #[.int .i64 x] 2 (0, 0)) := by
 have kd : Kept w w.drew [] := (Kept.refl w []).drew
 have ad := a.keep kd
 have hxd := kd.heap (by simp) hx
 have o := ad.own k hk
 have ek : flK x l k k = l k := by unfold flK; rw [if_neg (by omega)]
 rw [ek] at o
 have nx : (V k).ownBlock ≠ some xb := o.apart hxd (by decide)
 refine (edeleteFunc_any o hl 138 #[.pointer (some ⟨xb, 0, none⟩)] (ofX x) (enters_of Tryz.func138 (by kernel_rfl) rfl) (fun r V1 f => ?_)).mono ?_
 ·have g := f.heap nx hxd
  exact ofX_any r x xb V1 (by rw [cell_of_row _ _ 0 _ _ _ g]; rfl) (xqh g)
 ·rintro e w2 ⟨v2, rfl, o2, s2, f2⟩
  obtain ⟨u, n, rfl⟩ := o2.shape
  obtain ⟨⟨r1, r2⟩, r3, r4, r5, r6⟩ := ad.lay (by decide) d hk f2 o2 (fun k hk => .inl (s2 k hk))
  refine ⟨u, _, n, rfl, r1, r2, r3.congr (fun i hi => ?_), r4, Stp.trans (Stp.ofKept kd) r5, ?_⟩
  ·by_cases e : i = k
   ·subst e
    rw [xqL]
    unfold flK forL
    rw [if_pos (by omega)]
   rw [yqb _ _ e]
   unfold flK
   by_cases h : i < k
   ·rw [if_pos h, if_pos (by omega)]
   rw [if_neg h, if_neg (by omega)]
  have g2 := f2.heap nx hxd
  have ne : xb ≠ h := by rintro rfl; rw [a.hh] at hx; simp at hx
  exact (Fo.setCell (O := fun k => k = h) (Fo.refl _ w2) (p := ⟨h, k, none⟩) (.inl rfl) _).heap ne g2
theorem forget_any (a : Sp spT w B h V l c) (d : Dst V) (hl : ∀ i, i < 3 -> (l i).length < 1000000) (x : Int) :
 Calls Tryz.prog 82 #[.pointer (some ⟨h, 0, none⟩), .int .i64 x] w fun e w' => e = .returned (.int .i64 (lenN l - lenN (forL x l) : Nat)) /\ ∃ V', Sp spT w' B h V' (forL x l) c /\ Dst V' /\ Stp (xqy h V) (xqy h V') w w' := by
 obtain ⟨xb, hxb⟩ : ∃ z, z = w.heap.size := ⟨_, rfl⟩
 obtain ⟨W1, hW1⟩ : ∃ W1, W1 = w.alloc (.cells #[.int .i64 x] 2) := ⟨_, rfl⟩
 have k1 : Kept w W1 [] := by rw [hW1]; exact (Kept.refl w []).alloc _
 have g1 : W1.heap[xb]? = some (.cells #[.int .i64 x] 2 (0, 0)) := by rw [hW1, hxb]; exact heap_alloc_new w _
 have a1 := a.keep k1
 have CL := iH (len_any a1 (fun i hi => by have := hl i hi; omega))
 have c0 := (a1.cell 0 (by omega)).1
 have c1 := (a1.cell 1 (by omega)).1
 have c2 := (a1.cell 2 (by omega)).1
 obtain ⟨u0, n0, e0⟩ := a1.shape 0 (by omega)
 obtain ⟨u1, n1, e1⟩ := a1.shape 1 (by omega)
 obtain ⟨u2, n2, e2⟩ := a1.shape 2 (by omega)
 rw [e0] at c0
 rw [e1] at c1
 rw [e2] at c2
 have A1 := iH (show Sp spT W1 B h V (flK x l 0) c from a1.congr (fun i _ => by unfold flK; rw [if_neg (by omega)]))
 have D := iH d; have G1 := iH g1; have K1 := iH k1; have HW1 := iH hW1; have HXB := iH hxb
 have HL := iH hl; have E := iH (And.intro e0 (And.intro e1 e2))
 have HB : RowKit.Hid (lenN l < 3000000) := iH (by have := hl 0 (by omega); have := hl 1 (by omega); have := hl 2 (by omega); unfold lenN; omega)
 obtain ⟨N, hN⟩ : ∃ N, N = lenN l := ⟨_, rfl⟩
 rw [<- hN] at CL HB
 obtain ⟨m0, hm0⟩ : ∃ m, m = (l 0).length := ⟨_, rfl⟩
 obtain ⟨m1, hm1⟩ : ∃ m, m = (l 1).length := ⟨_, rfl⟩
 obtain ⟨m2, hm2⟩ : ∃ m, m = (l 2).length := ⟨_, rfl⟩
 rw [<- hm0] at c0 E
 rw [<- hm1] at c1 E
 rw [<- hm2] at c2 E
 have HN := iH hN
 have HM := iH (And.intro hm0 (And.intro hm1 hm2))
 have hNb : N < 3000000 := HB.out
 clear a a1 d hl k1 g1 e0 e1 e2 hN hm0 hm1 hm2
 have i0 : ∀ w, (Instr.index 73 (.agg #[.slice u0 m0 n0, .slice u1 m1 n1, .slice u2 m2 n2]) (.int .i64 0)).run Tryz.prog w = .ok (.slice u0 m0 n0) w := fun _ => by kernel_rfl
 have i1 : ∀ w, (Instr.index 73 (.agg #[.slice u0 m0 n0, .slice u1 m1 n1, .slice u2 m2 n2]) (.int .i64 1)).run Tryz.prog w = .ok (.slice u1 m1 n1) w := fun _ => by kernel_rfl
 have i2 : ∀ w, (Instr.index 73 (.agg #[.slice u0 m0 n0, .slice u1 m1 n1, .slice u2 m2 n2]) (.int .i64 2)).run Tryz.prog w = .ok (.slice u2 m2 n2) w := fun _ => by kernel_rfl
 by_cases h0 : N = 0
 ·subst h0
  have R : RowKit.Hid (lenN l - lenN (forL x l) = 0) := iH (by have := HN.out; omega)
  rw [R.out]
  go_enter Tryz.func82, Tryz.ntmps82
  go_wp2_with fail
  rw [<- HW1.out, <- HXB.out]
  clear hW1 hxb
  refine CL.out.mono ?_
  rintro e w' ⟨rfl, rfl⟩
  go_wp2
  go_ret
  refine ⟨rfl, V, A1.out.congr (fun i hi => ?_), D.out, Stp.ofKept K1.out⟩
  have : ∀ j, j < 3 -> l j = [] := fun j hj => by
   have := HN.out
   unfold lenN at this
   refine List.eq_nil_of_length_eq_zero ?_
   obtain rfl | rfl | rfl : j = 0 ∨ j = 1 ∨ j = 2 := by omega
   all_goals omega
  unfold flK forL
  rw [if_neg (by omega), this i hi]
  rfl
 ·have hN0 : ((N : Int) == 0) = false := beq_eq_false_iff_ne.2 (by omega)
  go_enter Tryz.func82, Tryz.ntmps82
  go_wp2_with fail
  rw [<- HW1.out, <- HXB.out]
  clear hW1 hxb
  refine CL.out.mono ?_
  rintro e w' ⟨rfl, rfl⟩
  go_wp2
  go_loopg [18, 7, 8] 3 (fun kx s18 _ _ wr => ∃ (k : Nat) (Vk : Nat -> Value), s18 = .int .i64 k /\ 3 - k <= kx /\ k <= 3 /\ RowKit.Hid (Sp spT wr B h Vk (flK x l k) c /\ Dst Vk /\ Stp (xqy h V) (xqy h Vk) w' wr /\ wr.heap[xb]? = some (.cells #[.int .i64 x] 2 (0, 0)) /\ ∀ j, k <= j -> Vk j = V j))
  case atStart => exact ⟨0, V, rfl, by omega, by omega, A1.out, D.out, Stp.refl _ _, G1.out, fun _ _ => rfl⟩
  case round =>
  clear c0 c1 c2
  obtain ⟨k, Vk, rfl, hkx, hk3, HS⟩ := hrel
  have hk4 : k = 0 ∨ k = 1 ∨ k = 2 ∨ k = 3 := by omega
  rcases hk4 with rfl | rfl | rfl | rfl
  ·obtain ⟨p1, p2, p3, p4, p5⟩ := HS.out
   have hc := forget_step p1 p2 (by omega) (HL.out 0 (by omega)) p4
   rw [p5 0 (Nat.le_refl _), E.out.1] at hc
   have HC := iH hc; have P3 := iH p3; have P5 := iH p5
   clear p1 p2 p3 p4 p5 hc HS
   go_wp2_with fail
   refine wp_region_held_drew (S := fun _ => True) (by kernel_rfl) trivial (fun hJ => ?_)
   refine wx 0 22 (.pointer (some ⟨h, 0, none⟩)) rfl hJ ?_
   refine wx 1 23 (.int .i64 0) rfl hJ ?_
   refine wx 2 24 (.slice u0 m0 n0) rfl hJ ?_
   refine wx 3 25 (.func (.func 138) #[] #[.pointer (some ⟨xb, 0, none⟩)]) rfl hJ ?_
   refine wx 5 27 (.pointer (some ⟨h, 0, none⟩)) rfl hJ ?_
   refine wx 6 28 (.pointer (some ⟨h, 0, none⟩)) rfl hJ ?_
   refine wr1 4 rfl (fun K hK => ?_)
   go_simp
   go_at_call 139
   refine HC.out.mono ?_
   rintro e w2 ⟨u9, m9, n9, rfl, q1, q2, q3, q4, q5, q6⟩
   have Q := iH (And.intro q3 (And.intro q4 (And.intro q5 q6)))
   clear q3 q4 q5 q6
   go_wp2_with fail
   refine hK.out _ _ trivial (fun hJ => ?_)
   clear hK K
   refine wpAnyH_take (i := 7) (oi := _) (v := .pointer (some ⟨h, 0, none⟩)) rfl (by kernel_rfl) (by kernel_rfl) (by kernel_rfl) (fun _ _ _ h => h) (Or.inl ⟨by rfl, fun V hV => by go_simp⟩) hJ ?_
   refine wr1 8 rfl (fun K hK => ?_)
   go_simp
   refine hK.out _ _ trivial (fun hJ => ?_)
   clear hK K
   refine wd ?_
   clear q1 q2
   go_wp2
   go_roundg 2
   case measure => omega
   case rel =>
   obtain ⟨q3, q4, q5, q6⟩ := Q.out
   exact ⟨0 + 1, _, by go_num, by omega, by omega, q3, q4, P3.out.trans q5, q6, fun j hj => by rw [yqb _ _ (by omega)]; exact P5.out j (by omega)⟩
  ·obtain ⟨p1, p2, p3, p4, p5⟩ := HS.out
   have hc := forget_step p1 p2 (by omega) (HL.out 1 (by omega)) p4
   rw [p5 1 (Nat.le_refl _), E.out.2.1] at hc
   have HC := iH hc; have P3 := iH p3; have P5 := iH p5
   clear p1 p2 p3 p4 p5 hc HS
   go_wp2_with fail
   refine wp_region_held_drew (S := fun _ => True) (by kernel_rfl) trivial (fun hJ => ?_)
   refine wx 0 22 (.pointer (some ⟨h, 0, none⟩)) rfl hJ ?_
   refine wx 1 23 (.int .i64 1) rfl hJ ?_
   refine wx 2 24 (.slice u1 m1 n1) rfl hJ ?_
   refine wx 3 25 (.func (.func 138) #[] #[.pointer (some ⟨xb, 0, none⟩)]) rfl hJ ?_
   refine wx 5 27 (.pointer (some ⟨h, 0, none⟩)) rfl hJ ?_
   refine wx 6 28 (.pointer (some ⟨h, 0, none⟩)) rfl hJ ?_
   refine wr1 4 rfl (fun K hK => ?_)
   go_simp
   go_at_call 139
   refine HC.out.mono ?_
   rintro e w2 ⟨u9, m9, n9, rfl, q1, q2, q3, q4, q5, q6⟩
   have Q := iH (And.intro q3 (And.intro q4 (And.intro q5 q6)))
   clear q3 q4 q5 q6
   go_wp2_with fail
   refine hK.out _ _ trivial (fun hJ => ?_)
   clear hK K
   refine wpAnyH_take (i := 7) (oi := _) (v := .pointer (some ⟨h, 1, none⟩)) rfl (by kernel_rfl) (by kernel_rfl) (by kernel_rfl) (fun _ _ _ h => h) (Or.inl ⟨by rfl, fun V hV => by go_simp⟩) hJ ?_
   refine wr1 8 rfl (fun K hK => ?_)
   go_simp
   refine hK.out _ _ trivial (fun hJ => ?_)
   clear hK K
   refine wd ?_
   clear q1 q2
   go_wp2
   go_roundg 1
   case measure => omega
   case rel =>
   obtain ⟨q3, q4, q5, q6⟩ := Q.out
   exact ⟨1 + 1, _, by go_num, by omega, by omega, q3, q4, P3.out.trans q5, q6, fun j hj => by rw [yqb _ _ (by omega)]; exact P5.out j (by omega)⟩
  ·obtain ⟨p1, p2, p3, p4, p5⟩ := HS.out
   have hc := forget_step p1 p2 (by omega) (HL.out 2 (by omega)) p4
   rw [p5 2 (Nat.le_refl _), E.out.2.2] at hc
   have HC := iH hc; have P3 := iH p3; have P5 := iH p5
   clear p1 p2 p3 p4 p5 hc HS
   go_wp2_with fail
   refine wp_region_held_drew (S := fun _ => True) (by kernel_rfl) trivial (fun hJ => ?_)
   refine wx 0 22 (.pointer (some ⟨h, 0, none⟩)) rfl hJ ?_
   refine wx 1 23 (.int .i64 2) rfl hJ ?_
   refine wx 2 24 (.slice u2 m2 n2) rfl hJ ?_
   refine wx 3 25 (.func (.func 138) #[] #[.pointer (some ⟨xb, 0, none⟩)]) rfl hJ ?_
   refine wx 5 27 (.pointer (some ⟨h, 0, none⟩)) rfl hJ ?_
   refine wx 6 28 (.pointer (some ⟨h, 0, none⟩)) rfl hJ ?_
   refine wr1 4 rfl (fun K hK => ?_)
   go_simp
   go_at_call 139
   refine HC.out.mono ?_
   rintro e w2 ⟨u9, m9, n9, rfl, q1, q2, q3, q4, q5, q6⟩
   have Q := iH (And.intro q3 (And.intro q4 (And.intro q5 q6)))
   clear q3 q4 q5 q6
   go_wp2_with fail
   refine hK.out _ _ trivial (fun hJ => ?_)
   clear hK K
   refine wpAnyH_take (i := 7) (oi := _) (v := .pointer (some ⟨h, 2, none⟩)) rfl (by kernel_rfl) (by kernel_rfl) (by kernel_rfl) (fun _ _ _ h => h) (Or.inl ⟨by rfl, fun V hV => by go_simp⟩) hJ ?_
   refine wr1 8 rfl (fun K hK => ?_)
   go_simp
   refine hK.out _ _ trivial (fun hJ => ?_)
   clear hK K
   refine wd ?_
   clear q1 q2
   go_wp2
   go_roundg 0
   case measure => omega
   case rel =>
   obtain ⟨q3, q4, q5, q6⟩ := Q.out
   exact ⟨2 + 1, _, by go_num, by omega, by omega, q3, q4, P3.out.trans q5, q6, fun j hj => by rw [yqb _ _ (by omega)]; exact P5.out j (by omega)⟩
  obtain ⟨p1, p2, p3, p4, p5⟩ := HS.out
  have p1' := p1.congr (m := forL x l) (fun i hi => by unfold flK; rw [if_pos hi])
  have CL2 := iH (len_any p1' (fun i hi => by have := HL.out i hi; have := List.length_filter_le (fun r => !ofX x r) (l i); unfold forL; omega))
  have P := iH (And.intro p1' (And.intro p2 p3))
  have hle := lenN_le x l
  obtain ⟨M, hM⟩ : ∃ M, M = lenN (forL x l) := ⟨_, rfl⟩
  rw [<- hM] at CL2 hle
  rw [<- HN.out] at hle
  have HMM := iH hM
  clear p1 p2 p3 p4 p5 p1' HS hM
  go_wp2_with fail
  refine CL2.out.mono ?_
  rintro e w2 ⟨rfl, rfl⟩
  go_wp2
  go_ret
  obtain ⟨p1, p2, p3⟩ := P.out
  refine ⟨?_, _, p1, p2, (Stp.ofKept K1.out).trans p3⟩
  rw [<- HN.out, <- HMM.out]
  go_num
def noV : Nat -> Value := fun _ => .slice none 0 0
theorem dst_no : Dst noV := by intro i j k _ _ _ h; simp [noV, Value.ownBlock] at h
def eI (n : Int) : Ev := ⟨n, 0, ⟨#[]⟩, 0, 0, 0, 0, ⟨#[]⟩⟩
structure So (T : TypeId) (F : Nat -> Option Value) (w : World) (B h oo : Nat) (V : Nat -> Value) (l : Nat -> List Ev) (c : Nat) : Prop where
 hr : ∃ R : List Value, w.heap[h]? = some (.cells R.toArray T (0, 0)) /\ (∀ i, i < 3 -> R[oo + i]? = some (V i)) /\ R[oo + 3]? = some (.int .i64 c) /\ ∀ j, j < oo ∨ oo + 4 <= j -> R[j]? = F j
 bh : B <= h
 hT : T ≠ 50
 c3 : c < 3
 own : ∀ i, i < 3 -> OwnE w B 50 (V i) (l i)
variable {T : TypeId} {F : Nat -> Option Value} {w w' : World} {B h oo c : Nat} {V : Nat -> Value} {l : Nat -> List Ev}
theorem So.tagH (a : So T F w B h oo V l c) : ∃ cs, w.heap[h]? = some (.cells cs T (0, 0)) := by
 obtain ⟨R, h1, _⟩ := a.hr
 exact ⟨_, h1⟩
theorem So.lth (a : So T F w B h oo V l c) : h < w.heap.size := by
 obtain ⟨cs, h1⟩ := a.tagH
 exact xqh h1
theorem So.cell (a : So T F w B h oo V l c) (i : Nat) (hi : i < 3) : w.cell? ⟨h, oo + i, none⟩ = some (V i) /\ w.frozen? ⟨h, oo + i, none⟩ = false := by
 obtain ⟨R, h1, h2, _⟩ := a.hr
 exact ⟨by rw [cell_of_row _ _ _ _ _ _ h1]; simpa using h2 i hi, frozen_of_row _ _ _ _ _ h1⟩
theorem So.cur (a : So T F w B h oo V l c) : w.cell? ⟨h, oo + 3, none⟩ = some (.int .i64 c) /\ w.frozen? ⟨h, oo + 3, none⟩ = false := by
 obtain ⟨R, h1, _, h2, _⟩ := a.hr
 exact ⟨by rw [cell_of_row _ _ _ _ _ _ h1]; simpa using h2, frozen_of_row _ _ _ _ _ h1⟩
theorem So.size (a : So T F w B h oo V l c) : B <= w.heap.size := by have := a.lth; have := a.bh; omega
theorem So.shape (a : So T F w B h oo V l c) (i : Nat) (hi : i < 3) : ∃ u n, V i = .slice u (l i).length n := (a.own i hi).shape
theorem So.congr {m : Nat -> List Ev} (a : So T F w B h oo V l c) (e : ∀ i, i < 3 -> l i = m i) : So T F w B h oo V m c := ⟨a.hr, a.bh, a.hT, a.c3, fun i hi => by rw [<- e i hi]; exact a.own i hi⟩
theorem So.fo (a : So T F w B h oo V l c) {O : Nat -> Prop} (hf : Fo O w w') (hd : ∀ k, xqy h V k -> ¬ O k) : So T F w' B h oo V l c := by
 obtain ⟨R, h1, h2⟩ := a.hr
 exact ⟨⟨R, hf.heap (hd h (.inl rfl)) h1, h2⟩, a.bh, a.hT, a.c3, fun i hi => (a.own i hi).fo hf (fun g hg => hd g (.inr ⟨i, hi, hg⟩))⟩
theorem So.keep (a : So T F w B h oo V l c) (hk : Kept w w' []) : So T F w' B h oo V l c := a.fo (Fo.ofKept hk (fun _ => False)) (fun _ _ h => h)
theorem So.lay0 (a : So T F w B h oo V l c) {w1 : World} {i : Nat} (hi : i < 3) (k : Kept w w1 []) {v : Value} {m : List Ev} (x : OwnE w1 B 50 v m) (hv : ∀ k, v.ownBlock = some k -> w.heap.size <= k) :
 (w1.cell? ⟨h, oo + i, none⟩ = some (V i) /\ w1.frozen? ⟨h, oo + i, none⟩ = false) /\ So T F (w1.setCell ⟨h, oo + i, none⟩ v) B h oo (upd V i v) (upd l i m) c /\ Stp (xqy h V) (xqy h (upd V i v)) w (w1.setCell ⟨h, oo + i, none⟩ v) := by
 have a1 := a.keep k
 obtain ⟨R, r0, r1, r2, r3⟩ := a1.hr
 have f : Fo (fun k => k = h) w1 (w1.setCell ⟨h, oo + i, none⟩ v) := Fo.setCell (O := fun k => k = h) (Fo.refl _ w1) (p := ⟨h, oo + i, none⟩) (.inl rfl) v
 refine ⟨a1.cell i hi, ⟨⟨R.set (oo + i) v, ?_, fun j hj => ?_, by rw [List.getElem?_set_ne (by omega)]; exact r2, fun j hj => by rw [List.getElem?_set_ne (by omega)]; exact r3 j hj⟩, a.bh, a.hT, a.c3, fun j hj => ?_⟩, (Fo.ofKept k _).setCell (.inl (.inl rfl)) v, sfoot_upd hi (fun k hk => .inr (hv k hk))⟩
 ·rw [xqb r0, List.setIfInBounds_toArray]
 ·by_cases e : j = i
  ·subst e
   rw [xqL]
   exact getElem?_set_here (r1 j hj) v
  rw [yqb _ _ e, List.getElem?_set_ne (by omega)]
  exact r1 j hj
 ·by_cases e : j = i
  ·subst e
   rw [xqL, xqL]
   exact x.fo f (fun g hg e => by subst e; exact x.apart r0 a.hT hg)
  rw [yqb _ _ e, yqb _ _ e]
  have y := a1.own j hj
  exact y.fo f (fun g hg e => by subst e; exact y.apart r0 a.hT hg)
theorem So.turn (a : So T F w B h oo V l c) {d : Nat} (hd : d < 3) : So T F (w.setCell ⟨h, oo + 3, none⟩ (.int .i64 d)) B h oo V l d := by
 obtain ⟨R, r0, r1, r2, r3⟩ := a.hr
 have f : Fo (fun k => k = h) w (w.setCell ⟨h, oo + 3, none⟩ (.int .i64 d)) := Fo.setCell (O := fun k => k = h) (Fo.refl _ w) (p := ⟨h, oo + 3, none⟩) (.inl rfl) _
 refine ⟨⟨R.set (oo + 3) (.int .i64 d), ?_, fun j hj => by rw [List.getElem?_set_ne (by omega)]; exact r1 j hj, getElem?_set_here r2 _, fun j hj => by rw [List.getElem?_set_ne (by omega)]; exact r3 j hj⟩, a.bh, a.hT, hd, fun j hj => (a.own j hj).fo f (fun g hg e => by subst e; exact (a.own j hj).apart r0 a.hT hg)⟩
 rw [xqb r0, List.setIfInBounds_toArray]
variable {T : TypeId} {F : Nat -> Option Value} {w w' : World} {B h oo c : Nat} {V : Nat -> Value} {l : Nat -> List Ev}
theorem RdE.eight {a : Option Addr} {n c : Nat} {m : List Ev} (x : RdE w (.slice a n c) m) {k : Nat} {r : Ev} (hr : m[k]? = some r) : ∃ b o, a = some ⟨b, o, none⟩ /\
 w.cell? ⟨b, o + k * 8, none⟩ = some (.int .i64 r.id) /\ w.cell? ⟨b, o + k * 8 + 1, none⟩ = some (.int .i64 r.tx) /\ w.cell? ⟨b, o + k * 8 + 2, none⟩ = some (.string r.ow) /\ w.cell? ⟨b, o + k * 8 + 3, none⟩ = some (.int .i64 r.tr) /\
 w.cell? ⟨b, o + k * 8 + 4, none⟩ = some (.int .i64 r.tb) /\ w.cell? ⟨b, o + k * 8 + 5, none⟩ = some (.int .u8 r.kd) /\ w.cell? ⟨b, o + k * 8 + 6, none⟩ = some (.int .i64 r.key) /\ w.cell? ⟨b, o + k * 8 + 7, none⟩ = some (.string r.t) := by
 obtain ⟨hk, rfl⟩ := List.getElem?_eq_some_iff.1 hr
 obtain ⟨b, o, rfl, hc⟩ := x.at k hk
 exact ⟨b, o, rfl, hc 0 (by decide), hc 1 (by decide), hc 2 (by decide), hc 3 (by decide), hc 4 (by decide), hc 5 (by decide), hc 6 (by decide), hc 7 (by decide)⟩
theorem same_any_g6 {va vb : Value} {m : List Ev} (ha : RdE w va m) (hb : RdE w vb m) (hm : m.length < 1000000) :
 Calls Tryz.prog 62 #[va, vb] w fun e w' => e = .returned (.bool true) /\ Kept w w' [] := by
 obtain ⟨a, ca, rfl⟩ := ha.shape3
 obtain ⟨b, cb, rfl⟩ := hb.shape3
 have HA := iH ha; have HB := iH hb
 obtain ⟨n, hn⟩ : ∃ n, n = m.length := ⟨_, rfl⟩
 have HN := iH hn
 rw [<- hn] at hm ⊢
 clear ha hb hn
 have eqs := ev_ne
 go_enter Tryz.func62, Tryz.ntmps62
 go_wp2
 go_loopg [5] n (fun kx s5 wr => ∃ i : Nat, s5 = .int .i64 i /\ i <= n /\ n - i <= kx /\ RowKit.Hid (Kept w wr []))
 case atStart => exact ⟨0, rfl, by omega, by omega, Kept.refl _ _⟩
 case round =>
  obtain ⟨i, rfl, hi, hkx, HK⟩ := hrel
  by_cases hlt : i < n
  ·have x1 : (i : Int) < (n : Int) := by omega
   obtain ⟨r, hr⟩ : ∃ r, m[i]? = some r := ⟨_, List.getElem?_eq_getElem (by rw [<- HN.out]; exact hlt)⟩
   have ea := (HA.out.kept HK.out (by simp))
   have eb := (HB.out.kept HK.out (by simp))
   rw [<- HN.out] at ea eb
   obtain ⟨ba, oa, rfl, fa⟩ := ea.eight hr
   obtain ⟨bb, ob, rfl, fb⟩ := eb.eight hr
   obtain ⟨b0, b1, b2, b3, b4, b5, b6, b7⟩ := r
   have FA1 := iH fa; have FB1 := iH fb
   obtain ⟨p0, p1, p2, p3, p4, p5, p6, p7⟩ := fa
   obtain ⟨q0, q1, q2, q3, q4, q5, q6, q7⟩ := fb
   simp only at p0 p1 p2 p3 p4 p5 p6 p7 q0 q1 q2 q3 q4 q5 q6 q7
   clear hr ea eb
   go_wp2_with fail
   go_quiet (fail)
   have KN := iH (HK.out.drewN nq)
   clear p0 p1 p2 p3 p4 p5 p6 p7 q0 q1 q2 q3 q4 q5 q6 q7
   generalize wr.drewN nq = wn at KN ⊢
   go_wp2
   go_roundg (n - (i + 1))
   case measure => omega
   case rel => exact ⟨i + 1, by go_num, by omega, by omega, KN⟩
  have x1 : ¬ (i : Int) < (n : Int) := by omega
  go_wp2
  go_ret
  exact ⟨rfl, HK.out⟩
theorem rnext_any_g6 (a : So T F w B h oo V l c) : Calls Tryz.prog 128 #[.pointer (some ⟨h, oo, none⟩)] w fun e w' => e = .returned (V (nxt c)) /\ Kept w w' [] := by
 obtain ⟨u, n, e⟩ := a.shape (nxt c) (xq1 c)
 have c3 := a.cur.1
 have ci := (a.cell (nxt c) (xq1 c)).1
 rw [e] at ci ⊢
 have hk := xq1 c
 have hn := nxt_int c
 have hc := a.c3
 have hk3 : ¬ (3 : Int) <= ((nxt c : Nat) : Int) := by omega
 have hkn : ¬ ((nxt c : Nat) : Int) < 0 := by omega
 generalize (l (nxt c)).length = m at *
 have hn2 : IntKind.i64.wrap ((c : Int) + 1) = (c : Int) + 1 := by rw [IntKind.wrap_i64]; omega
 have hn3 : ((c : Int) + 1) % 3 = ((nxt c : Nat) : Int) := by rw [<- hn, Int.tmod_eq_emod_of_nonneg (by omega)]
 generalize nxt c = d at *
 have hd2 : IntKind.i64.wrap (d : Int) = (d : Int) := by rw [IntKind.wrap_i64]; omega
 clear a e
 go_enter Tryz.func128, Tryz.ntmps128
 go_wp2_with fail
 go_quiet (fail)
 go_wp2
 go_ret
 exact ⟨rfl, (Kept.refl w []).drewN _⟩
theorem rrotate_any (a : So T F w B h oo V l c) (free : Bool) :
 Calls Tryz.prog 66 #[.pointer (some ⟨h, oo, none⟩), .bool free] w fun e w' => e = .returned (.tuple #[.int .u8 (rotS l c free).1, .int .i64 (rotS l c free).2.1]) /\
  ∃ V', So T F w' B h oo V' (rotS l c free).2.2.1 (rotS l c free).2.2.2 /\ Stp (xqy h V) (xqy h V') w w' := by
 obtain ⟨u, n, e⟩ := a.shape (nxt c) (xq1 c)
 have ci := (a.cell (nxt c) (xq1 c)).1
 have ff := (a.cell (nxt c) (xq1 c)).2
 rw [e] at ci
 have hk := xq1 c
 have hn := nxt_int c
 have hc3 := a.c3
 have c3 := a.cur
 obtain ⟨c3, f3⟩ := c3
 have A := iH a
 clear a e
 by_cases h0 : l (nxt c) = []
 ·have HR : RowKit.Hid (rotS l c free = (2, 0, l, nxt c)) := iH (by unfold rotS; rw [if_pos h0])
  rw [HR.out]
  rw [h0] at ci
  generalize nxt c = k at *
  clear h0 ff
  go_enter Tryz.func66, Tryz.ntmps66
  go_wp2
  (try simp only [Exit.inBlock, Exit.then])
  refine bodyPost_ret (v := .tuple #[.int .u8 2, .int .i64 0]) (by simp [results, Tryz.results66, go_sem]) rfl ?_
  exact ⟨rfl, V, A.out.turn hk, (Fo.refl _ _).setCell (.inl (.inl rfl)) _, fun k h => .inl h⟩
 ·have hl : ((l (nxt c)).length == 0) = false := by rw [beq_eq_false_iff_ne]; intro h; exact h0 (List.eq_nil_of_length_eq_zero h)
  have hlz : (((l (nxt c)).length : Int) == 0) = false := by rw [beq_eq_false_iff_ne] at hl ⊢; omega
  cases free with
  | true =>
  have HR : RowKit.Hid (rotS l c true = (1, 0, upd l (nxt c) [], c)) := iH (by unfold rotS; rw [if_neg h0, if_pos rfl])
  rw [HR.out]
  have HF := iH (A.out.lay0 hk (Kept.refl w []) (OwnE.nil w B _) (by intro k hk; simp [Value.ownBlock] at hk))
  clear h0
  generalize (l (nxt c)).length = m at *
  generalize nxt c = k at *
  go_enter Tryz.func66, Tryz.ntmps66
  go_wp2
  (try simp only [Exit.inBlock, Exit.then])
  refine bodyPost_ret (v := .tuple #[.int .u8 1, .int .i64 0]) (by simp [results, Tryz.results66, go_sem]) rfl ?_
  obtain ⟨_, h1, h2⟩ := HF.out
  exact ⟨rfl, _, h1, h2⟩
  | false =>
  have HR : RowKit.Hid (rotS l c false = (0, 9, l, c)) := iH (by unfold rotS; rw [if_neg h0, if_neg (by simp)])
  rw [HR.out]
  clear h0
  generalize (l (nxt c)).length = m at *
  generalize nxt c = k at *
  go_enter Tryz.func66, Tryz.ntmps66
  go_wp2
  (try simp only [Exit.inBlock, Exit.then])
  refine bodyPost_ret (v := .tuple #[.int .u8 0, .int .i64 9]) (by simp [results, Tryz.results66, go_sem]) rfl ?_
  exact ⟨rfl, V, A.out, Stp.refl _ _⟩
theorem raddto_core (a : So T F w B h oo V l c) (i : Nat) (hi : i < 3) (hl : (l i).length < 1000000) (C : Ev) (b0 b1 b3 b4 b5 b6 : Int) (b2 b7 : ByteArray) (hcs : C.cs = #[.int .i64 b0, .int .i64 b1, .string b2, .int .i64 b3, .int .i64 b4, .int .u8 b5, .int .i64 b6, .string b7]) :
 Calls Tryz.prog 112 #[.pointer (some ⟨h, oo, none⟩), .int .i64 i, .agg #[.int .i64 b0, .int .i64 b1, .string b2, .int .i64 b3, .int .i64 b4, .int .u8 b5, .int .i64 b6, .string b7]] w fun r w' => r = .returned (.int .i64 0) /\ ∃ V', So T F w' B h oo V' (upd l i (l i ++ [C])) c /\ Stp (xqy h V) (xqy h V') w w' := by
 obtain ⟨u, cp, hV⟩ := a.shape i hi
 obtain ⟨n, hn⟩ : ∃ n, n = (l i).length := ⟨_, rfl⟩
 rw [<- hn] at hV hl
 obtain ⟨z, hz⟩ : ∃ z, z = w.heap.size := ⟨_, rfl⟩
 obtain ⟨W1, hW1⟩ : ∃ W1, W1 = w.alloc (.cells #[.int .i64 b0, .int .i64 b1, .string b2, .int .i64 b3, .int .i64 b4, .int .u8 b5, .int .i64 b6, .string b7] 50) := ⟨_, rfl⟩
 have k1 : Kept w W1 [] := by rw [hW1]; exact (Kept.refl w []).alloc _
 have g1 : W1.heap[z]? = some (.cells #[.int .i64 b0, .int .i64 b1, .string b2, .int .i64 b3, .int .i64 b4, .int .u8 b5, .int .i64 b6, .string b7] 50 (0, 0)) := by rw [hW1, hz]; exact heap_alloc_new w _
 obtain ⟨i0, hi0, hz0, hz1, hzb⟩ := info_parts Tryz.infoEv_g6
 have I := iH (And.intro hi0 (And.intro hz0 (And.intro hz1 hzb)))
 have ci := ((a.keep k1).cell i hi).1
 have o1 := ((a.keep k1).own i hi).rd
 rw [hV] at ci o1
 have O1 := iH o1; have A := iH a; have HN := iH hn
 have i0' : ¬ (i : Int) < 0 := by omega
 have i2' : ¬ (2 : Int) < (i : Int) := by omega
 have hi3 : ¬ (3 : Int) <= (i : Int) := by omega
 have K1 := iH k1; have G1 := iH g1; have HW1 := iH hW1; have HZ := iH hz
 have hbz : w.heap.size <= W1.heap.size := k1.size
 have HCS := iH hcs
 clear a hn k1 g1 o1 hV hi0 hz0 hz1 hzb hcs
 go_enter Tryz.func112, Tryz.ntmps112
 go_upto_region 1 with fail
 rw [<- HW1.out, <- HZ.out]
 clear hW1 hz
 go_wp2_with (at_builtin; refine xqe _ rfl (.tmp 14) (.tmp 20) 57 57 rfl w.heap.size 50 i0 _ 8 80 Tryz.underlying57 I.out.1 I.out.2.1 I.out.2.2.1 I.out.2.2.2 rfl (.slice none 0 0) 0 [] rfl (OwnE.nil _ _ _) _ n (ecs (l i)) rfl ?src ?b1 ?b2 ?base ?next)
 case src => have := O1.out.src (P := Tryz.prog) Tryz.underlying57; rw [<- HN.out] at this; exact this
 case b1 => unfold maxLen; omega
 case b2 => omega
 try (case base => exact hbz)
 case next =>
  intro v2 w2 hown hgrow hl2 _
  have NZ : RowKit.Hid (v2.ownBlock ≠ some z) := iH (fun hz => by
   rcases hl2 with h | ⟨g, h, hg⟩
   ·rw [h] at hz; simp [Value.ownBlock] at hz
   ·rw [h] at hz
    simp only [Option.some.injEq] at hz
    subst hz
    have := xqh G1.out
    omega)
  have ho : OwnE w2 w.heap.size 50 v2 (l i) := by unfold OwnE; rw [<- HN.out]; simpa using hown
  have hk : Kept W1 w2 [] := (Kept.refl W1 []).grown hgrow (fun k hk => by simp [Value.ownBlock] at hk)
  obtain ⟨u2, c2, rfl⟩ := ho.shape
  have Ho := iH ho; have Hk := iH hk
  have S1 := iH (hk.drew.heap (by simp) G1.out)
  clear ho hk hown hgrow ci
  rw [<- HN.out]
  rw [<- HN.out] at NZ
  obtain ⟨wB, hwB⟩ : ∃ wB, wB = w2.drew.alloc (.cells #[.int .i64 b0, .int .i64 b1, .string b2, .int .i64 b3, .int .i64 b4, .int .u8 b5, .int .i64 b6, .string b7] 50) := ⟨_, rfl⟩
  have kB : Kept w2 wB [] := by rw [hwB]; exact ((Kept.refl w2 []).drew).alloc _
  have S2 := iH (kB.heap (by simp) (Hk.out.heap (by simp) G1.out))
  have gB : wB.heap[w2.heap.size]? = some (.cells #[.int .i64 b0, .int .i64 b1, .string b2, .int .i64 b3, .int .i64 b4, .int .u8 b5, .int .i64 b6, .string b7] 50 (0, 0)) := by rw [hwB]; exact heap_alloc_new w2.drew _
  have SB := iH (show Src Tryz.prog 8 57 (.slice (some ⟨w2.heap.size, 0, none⟩) 1 1) 1 [.int .i64 b0, .int .i64 b1, .string b2, .int .i64 b3, .int .i64 b4, .int .u8 b5, .int .i64 b6, .string b7] wB from by
   refine Src.ofSlice wB Tryz.underlying57 ⟨w2.heap.size, 0, none⟩ 1 1 _ rfl (fun j x hx => ?_) (by rw [<- show C.cs.toList = [.int .i64 b0, .int .i64 b1, .string b2, .int .i64 b3, .int .i64 b4, .int .u8 b5, .int .i64 b6, .string b7] from by rw [HCS.out]]; exact encE_one C)
   rw [Addr.add_lit, cell_of_row wB _ _ _ _ _ gB, Nat.zero_add]
   simpa using hx)
  have XB := iH (show wB.ownsRow w.heap.size 50 8 (.slice u2 n c2) n (ecs (l i)) from by have := Ho.out.kept kB (by simp); unfold OwnE at this; rw [<- HN.out] at this; exact this)
  have BB := iH (show w.heap.size <= wB.heap.size from Nat.le_trans (Nat.le_trans hbz Hk.out.size) kB.size)
  have KB := iH (K1.out.trans (Hk.out.trans kB (by simp)) (by simp))
  have HwB := iH hwB
  clear hwB kB gB
  go_wp2_with fail
  refine wp_region_held_drew (S := fun V => V.heap[z]? = some (.cells #[.int .i64 b0, .int .i64 b1, .string b2, .int .i64 b3, .int .i64 b4, .int .u8 b5, .int .i64 b6, .string b7] 50 (0, 0))) (by kernel_rfl) S1.out (fun hJ => ?_)
  refine wx 0 22 (.pointer (some ⟨h, oo, none⟩)) rfl hJ ?_
  refine wx 1 23 (.int .i64 i) rfl hJ ?_
  refine wx 2 24 (.slice u2 n c2) rfl hJ ?_
  refine wx 3 25 (.agg #[.int .i64 b0, .int .i64 b1, .string b2, .int .i64 b3, .int .i64 b4, .int .u8 b5, .int .i64 b6, .string b7]) rfl hJ ?_ (hy := fun V hV => by (obtain ⟨q0, q1, q2, q3, q4, q5, q6, q7⟩ := xqm hV; clear hV; go_simp))
  refine wx 6 28 (.pointer (some ⟨h, oo, none⟩)) rfl hJ ?_
  refine wx 7 29 (.pointer (some ⟨h, oo, none⟩)) rfl hJ ?_
  refine wr1 4 rfl (fun K hK => ?_)
  refine xqt _ rfl 57 (.tmp 25) rfl 50 i0 _ 8 Tryz.underlying57 I.out.1 I.out.2.1 I.out.2.2.1 (by decide) (by decide) [.int .i64 b0, .int .i64 b1, .string b2, .int .i64 b3, .int .i64 b4, .int .u8 b5, .int .i64 b6, .string b7] rfl rfl ?_
  rw [<- HwB.out]
  refine hK.out _ _ S2.out (fun hJ => ?_)
  clear hK K
  refine wr1 5 rfl (fun K hK => ?_)
  refine xqC _ rfl (.tmp 24) (.tmp 26) 57 57 rfl w.heap.size 50 i0 _ 8 80 Tryz.underlying57 I.out.1 I.out.2.1 I.out.2.2.1 I.out.2.2.2 rfl (.slice u2 n c2) n (ecs (l i)) rfl XB.out _ 1 [.int .i64 b0, .int .i64 b1, .string b2, .int .i64 b3, .int .i64 b4, .int .u8 b5, .int .i64 b6, .string b7] rfl SB.out (by unfold maxLen; omega) (by omega) BB.out ?_
  intro v9 w9 ho9 hf9 hg9 hl9
  have o9 : OwnE w9 w.heap.size 50 v9 (l i ++ [C]) := by unfold OwnE; rw [<- yqw, HCS.out, List.length_append, <- HN.out]; exact ho9
  have k9 : Kept w w9 [] := KB.out.grown hg9 (fun k hk => .inr (XB.out.lt k hk).1)
  obtain ⟨⟨c9, f9⟩, r9, p9⟩ := A.out.lay0 hi k9 (o9.mono A.out.size) (fun k hk => (o9.lt k hk).1)
  have s9 : w9.heap[z]? = some (.cells #[.int .i64 b0, .int .i64 b1, .string b2, .int .i64 b3, .int .i64 b4, .int .u8 b5, .int .i64 b6, .string b7] 50 (0, 0)) := ((Fo.refl (fun k => (Value.slice u2 n c2).ownBlock = some k) wB).grown hg9 (fun k hk => .inl hk)).heap NZ.out S2.out
  have t9 : (w9.setCell ⟨h, oo + i, none⟩ v9).heap[z]? = some (.cells #[.int .i64 b0, .int .i64 b1, .string b2, .int .i64 b3, .int .i64 b4, .int .u8 b5, .int .i64 b6, .string b7] 50 (0, 0)) := (Fo.setCell (O := fun k => k = h) (Fo.refl _ w9) (p := ⟨h, oo + i, none⟩) (.inl rfl) v9).heap (fun hk => by have := A.out.lth; have := HZ.out; omega) s9
  have R9 := iH r9; have P9 := iH p9; have S3 := iH s9; have S4 := iH t9
  obtain ⟨a9, q9, hs9⟩ := xqw ho9
  clear r9 p9 s9 t9 ho9 hf9 hg9 hl9 o9 k9
  subst hs9
  refine hK.out _ _ S3.out (fun hJ => ?_)
  clear hK K
  refine wpAnyH_take (i := 8) (oi := _) (v := .pointer (some ⟨h, oo + i, none⟩)) rfl (by kernel_rfl) (by kernel_rfl) (by kernel_rfl) (fun _ _ _ h => h) (Or.inl ⟨by rfl, fun V hV => by go_simp⟩) hJ ?_
  refine wr1 9 rfl (fun K hK => ?_)
  go_simp
  refine hK.out _ _ S4.out (fun hJ => ?_)
  clear hK K
  refine wd ?_
  clear c9 f9
  go_wp2
  go_ret
  exact ⟨rfl, _, R9.out, P9.out⟩
theorem raddto_any (a : So T F w B h oo V l c) (i : Nat) (hi : i < 3) (hl : (l i).length < 1000000) (e : Ev) :
 Calls Tryz.prog 112 #[.pointer (some ⟨h, oo, none⟩), .int .i64 i, .agg e.cs] w fun r w' => r = .returned (.int .i64 0) /\ ∃ V', So T F w' B h oo V' (upd l i (l i ++ [e])) c /\ Stp (xqy h V) (xqy h V') w w' :=
 raddto_core a i hi hl e e.id e.tx e.tr e.tb e.kd e.key e.ow e.t rfl
end Go.Proofs.YticiofkiffgclaaGreat
