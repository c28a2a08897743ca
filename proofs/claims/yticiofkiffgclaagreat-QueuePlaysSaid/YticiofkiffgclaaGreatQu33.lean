/-
  Zra in one text.
-/
import Derived.Test.YticiofkiffgclaaGreatQu0
import Derived.Test.YticiofkiffgclaaGreatQu32
set_option linter.unusedVariables false
set_option maxHeartbeats 16000000
set_option maxRecDepth 100000
namespace Go.Proofs.YticiofkiffgclaaGreat
open Go.RowKit
variable {w w' : World} {B h m : Nat} {st : List Nat} {q : Qs} {O : Nat -> Prop}
def DPost (w : World) (B h m : Nat) (st : List Nat) (O : Nat -> Prop) (q' : Qs) (w' : World) : Prop := ∃ O', DS w' B h m st q' O' /\ Stp O O' w w'
theorem DPost.of {d d' : Dv} {v : Value} {l : Nat -> List Ev} {xs xs' : List Tk} {cs : List Cu} {rs : List It} (k : DqM rqT w B h m d v st l xs cs rs) (r : Dq rqT w' B h d' q.l xs' q.cs q.rs /\ Stp (xqI h d) (xqI h d') w w') (hm : d'.mp = d.mp) (hc : d'.c = q.c) (e1 : xs'.map Tk.pl = q.ps) (hu : d'.u = .int .i64 (xqk q.ps)) (hn : d'.nx = .int .i64 q.nx) : DPost w B h m st (xqI h d) q w' :=
 ⟨xqI h d', ⟨d', v, xs', k.step r.1 r.2 hm, hc, e1, hu, hn, rfl⟩, r.2⟩
theorem DPost.same (s : DS w B h m st q O) (k : Kept w w' []) : DPost w B h m st O q w' := ⟨O, s.keep k, Stp.ofK k⟩
theorem DPost.pre {W1 : World} (k1 : Kept w W1 []) (p : DPost W1 B h m st O q w') : DPost w B h m st O q w' := by
 obtain ⟨O', p1, p2⟩ := p
 exact ⟨O', p1, p2.afterK k1⟩
theorem DPost.boxed {W1 w2 : World} {st0 : List Nat} {q0 : Qs} (s0 : DS w B h m st0 q0 O) (k1 : Kept w W1 []) (p : DPost W1 B h m st O q w') {z : Nat} {c : Array Value} {T : TypeId} {fz : Nat × Nat} (g : w'.heap[z]? = some (.cells c T fz)) (hT : T ∉ rts) (hI : T ≠ 2) (h1 : w.heap.size <= z) (h2 : z < W1.heap.size) (f : Fo (fun k => k = z) w' w2) : DPost w B h m st O q w2 := by
 obtain ⟨O', s', t'⟩ := p
 refine ⟨O', s'.fo f (fun k hk e => ?_) (xqK g hI) (one_noT g hT), ((Stp.afterK k1 t').1).far f (fun k e => by omega), (Stp.afterK k1 t').2⟩
 subst e
 rcases t'.2 k hk with h | h
 ·have := (s0.lt k h).2; omega
 omega
theorem dR_cell {T : TypeId} {d : Dv} (hh : w.heap[h]? = some (.cells d.R.toArray T (0, 0))) {i : Nat} {v : Value} (hv : d.R[i]? = some v) : w.cell? ⟨h, i, none⟩ = some v := by rw [cell_of_row _ _ _ _ _ _ hh]; simpa using hv
theorem dnew_any {v : Value} (g : Rm w B m v st) (hB : B <= w.heap.size) : Calls Tryz.prog 47 #[.pointer (some ⟨m, 0, none⟩)] w fun e w' => ∃ O, e = .returned (.pointer (some ⟨w.heap.size, 0, none⟩)) /\ DS w' B w.heap.size m st Qs.new O /\ Kept w w' [] /\ ∀ k, O k -> w.heap.size <= k := by
 have G := iH g; clear g
 go_enter Tryz.func47, Tryz.ntmps47
 go_wp2
 go_ret
 obtain ⟨d, hd⟩ : ∃ d : Dv, d = ⟨.pointer (some ⟨m, 0, none⟩), noV, 0, .slice none 0 0, .int .i64 0, .slice none 0 0, .slice none 0 0, .int .i64 1⟩ := ⟨_, rfl⟩
 refine ⟨xqI w.heap.size d, rfl, ⟨d, v, [], ⟨⟨by rw [hd]; exact heap_alloc_new w _, hB, by decide, by rw [hd]; exact (by decide : (0 : Nat) < 3), fun i _ => by rw [hd]; exact OwnE.nil _ _ _, by rw [hd]; exact OwnT.nil _ _ _, by simp, by rw [hd]; exact OwnK.nil _ _ _, by rw [hd]; exact (OwnK.nil (E := encIt) _ 0 riE).rd, fun k hk => by rw [hd] at hk; simp [Value.ownBlock] at hk⟩, G.out.keep ((Kept.refl w []).alloc _), by rw [hd], by decide⟩, by rw [hd]; rfl, rfl, by rw [hd]; rfl, by rw [hd]; rfl, rfl⟩, (Kept.refl w []).alloc _, ?_⟩
 rintro k ((rfl | ⟨i, _, hk⟩) | hk | hk | hk)
 ·exact Nat.le_refl _
 ·rw [hd] at hk; simp [noV, Value.ownBlock] at hk
 ·rw [hd] at hk; simp [Value.ownBlock] at hk
 ·rw [hd] at hk; simp [Value.ownBlock] at hk
 rw [hd] at hk; simp [Value.ownBlock] at hk
theorem dwri_any (s : DS w B h m st q O) {k : Nat} (z : SzQ k q) (hk : k <= 1000) (x tb kd key : Int) (t : ByteArray) : Calls Tryz.prog 51 #[.pointer (some ⟨h, 0, none⟩), .int .i64 x, .int .i64 tb, .int .u8 kd, .agg #[.int .i64 key, .string t]] w fun e w' => e = .returned (.agg (wriV q x tb kd key t).cs) /\ DPost w B h m st O (wriQ q x tb kd key t) w' := by
 obtain ⟨zb, hzb⟩ : ∃ zb, zb = w.heap.size := ⟨_, rfl⟩
 obtain ⟨W0, hW0⟩ : ∃ W0, W0 = w.alloc (.cells #[.int .i64 key, .string t] 48) := ⟨_, rfl⟩
 obtain ⟨W1, hW1⟩ : ∃ W1, W1 = W0.alloc zE8 := ⟨_, rfl⟩
 have k0 : Kept w W0 [] := by rw [hW0]; exact (Kept.refl w []).alloc _
 have k1' : Kept W0 W1 [] := by rw [hW1]; exact (Kept.refl W0 []).alloc _
 have k1 : Kept w W1 [] := k0.trans k1' (by simp)
 have zW0 : W0.heap.size = zb + 1 := by rw [hW0, hzb]; simp
 have zW1 : W1.heap.size = zb + 2 := by rw [hW1]; simp [zW0]
 have g0 : W1.heap[zb]? = some (.cells #[.int .i64 key, .string t] 48 (0, 0)) := k1'.heap (by simp) (by rw [hW0, hzb]; exact heap_alloc_new w _)
 have g1 : W1.heap[zb + 1]? = some (.cells #[.int .i64 0, .int .i64 0, .string ⟨#[]⟩, .int .i64 0, .int .i64 0, .int .u8 0, .int .i64 0, .string ⟨#[]⟩] 50 (0, 0)) := by rw [hW1, <- zW0]; exact heap_alloc_new W0 _
 obtain ⟨nx, hnx⟩ : ∃ nx, nx = q.nx := ⟨_, rfl⟩
 have CF : RowKit.Hid (∀ Z, Kept W1 Z [] -> Z.cell? ⟨h, 9, none⟩ = some (.int .i64 nx)) := iH (fun Z hZ => by rw [hnx]; exact (s.keep (k1.trans hZ (by simp))).cells.2.2.2.1)
 have RW : RowKit.Hid (∀ Z, Kept W1 Z [] -> Z.cell? ⟨zb, 0, none⟩ = some (.int .i64 key) /\ Z.cell? ⟨zb, 1, none⟩ = some (.string t)) := iH (fun Z hZ => xqq (hZ.heap (by simp) g0))
 have S := iH s; have S1 := iH (s.keep k1); have K1 := iH k1; have G0 := iH g0; have G1 := iH g1; have HW0 := iH hW0; have HW1 := iH hW1; have HZB := iH hzb; have ZW1 := iH zW1; have HNX := iH hnx
 have BN : RowKit.Hid (1 <= nx /\ nx <= 1001) := iH (by have := z.nx; rw [hnx]; omega)
 have TB := iH (z.tabs hk q.c z.ok.c3); have C3 := iH z.ok.c3
 clear s k0 k1' k1 zW0 zW1 g0 g1 hW0 hW1 hnx z hk
 go_enter Tryz.func51, Tryz.ntmps51
 go_upto_region 1 with fail
 rw [<- HW0.out, <- HW1.out, <- HZB.out]
 clear hzb
 refine wp_region_held_drew (S := fun Z => Kept W1 Z []) (by kernel_rfl) (Kept.refl W1 []).drew (fun hJ => ?_)
 refine wx 0 12 (.pointer (some ⟨h, 0, none⟩)) rfl hJ ?_
 refine wx 1 13 (.pointer (some ⟨h, 0, none⟩)) rfl hJ ?_
 refine wx 2 14 (.pointer (some ⟨h, 9, none⟩)) rfl hJ ?_
 refine wx 3 15 (.int .i64 nx) rfl hJ ?_ (hy := fun V hV => by (have q0 := CF.out V hV; clear hV; go_simp))
 refine wx 4 16 (.int .i64 x) rfl hJ ?_
 refine wx 5 17 (.int .i64 tb) rfl hJ ?_
 refine wx 6 18 (.int .u8 kd) rfl hJ ?_
 refine wx 7 19 (.agg #[.int .i64 key, .string t]) rfl hJ ?_ (hy := fun V hV => by (obtain ⟨q0, q1⟩ := RW.out V hV; clear hV; go_simp))
 refine wx 8 20 (.agg #[.int .i64 nx, .int .i64 x, .string ⟨#[]⟩, .int .i64 0, .int .i64 tb, .int .u8 kd, .int .i64 key, .string t]) rfl hJ ?_
 refine wr1 9 rfl (fun K hK => ?_)
 go_simp
 refine hK.out _ _ (((Kept.refl W1 []).drew).alloc zE8) (fun hJ => ?_)
 clear hK K
 obtain ⟨wA, hwA⟩ : ∃ wA, wA = (W1.alloc zE8).drew := ⟨_, rfl⟩
 obtain ⟨z2, hz2⟩ : ∃ z2, z2 = W1.heap.size := ⟨_, rfl⟩
 have kA : Kept W1 wA [] := by rw [hwA]; exact ((Kept.refl W1 []).alloc zE8).drew
 have gA : wA.heap[z2]? = some (.cells #[.int .i64 0, .int .i64 0, .string ⟨#[]⟩, .int .i64 0, .int .i64 0, .int .u8 0, .int .i64 0, .string ⟨#[]⟩] 50 (0, 0)) := by rw [hwA, hz2]; exact heap_alloc_new W1 zE8
 rw [<- hwA, <- hz2]
 have KA := iH kA; have GA := iH gA; have HZ2 := iH hz2
 obtain ⟨x0, x1, x2, x3, x4, x5, x6, x7⟩ := xqm gA
 obtain ⟨f0, f1, f2, f3, f4, f5, f6, f7⟩ := yqr gA
 clear hwA hz2 kA gA
 refine wr1 10 rfl (fun K hK => ?_)
 go_simp
 refine hK.out _ (xqo wA z2 0 [.int .i64 nx, .int .i64 x, .string ⟨#[]⟩, .int .i64 0, .int .i64 tb, .int .u8 kd, .int .i64 key, .string t]) (xqr KA.out (by rw [HZ2.out]; exact Nat.le_refl _) _) (fun hJ => ?_)
 clear hK K
 refine wd ?_
 clear hJ
 obtain ⟨w3, hw3⟩ : ∃ w3, w3 = xqo wA z2 0 [.int .i64 nx, .int .i64 x, .string ⟨#[]⟩, .int .i64 0, .int .i64 tb, .int .u8 kd, .int .i64 key, .string t] := ⟨_, rfl⟩
 have k3 : Kept W1 w3 [] := by rw [hw3]; exact xqr KA.out (by rw [HZ2.out]; exact Nat.le_refl _) _
 have g3 : w3.heap[z2]? = some (.cells #[.int .i64 nx, .int .i64 x, .string ⟨#[]⟩, .int .i64 0, .int .i64 tb, .int .u8 kd, .int .i64 key, .string t] 50 (0, 0)) := by rw [hw3]; exact xqH GA.out rfl
 rw [<- hw3]
 have c9 := (S1.out.keep k3).cells.2.2.2.1
 have fz9 := (S1.out.keep k3).cells.2.2.2.2
 rw [<- HNX.out] at c9
 have K3 := iH k3; have G3 := iH g3
 clear hw3 k3 g3 x0 x1 x2 x3 x4 x5 x6 x7 f0 f1 f2 f3 f4 f5 f6 f7
 go_upto_region 3 with fail
 obtain ⟨d, v, xs, kq, e0, e1, e2, e3, rfl⟩ := (S1.out.keep K3.out).ex
 obtain ⟨nx2, hnx2⟩ : ∃ n, n = wrap64 (nx + 1) := ⟨_, rfl⟩
 rw [<- hnx2]
 obtain ⟨w4, hw4⟩ : ∃ w4, w4 = w3.setCell ⟨h, 9, none⟩ (.int .i64 nx2) := ⟨_, rfl⟩
 rw [<- hw4]
 obtain ⟨k4, t4⟩ := kq.dq.setNext (.int .i64 nx2)
 rw [<- hw4] at k4 t4
 have kd4 : Kept w4 w4.drew [] := (Kept.refl w4 []).drew
 have h4 : w4.heap[h]? = some (.cells ({ d with nx := .int .i64 nx2 } : Dv).R.toArray rqT (0, 0)) := k4.hh
 have hq : xqI h d h := .inl (.inl rfl)
 have z4 : w4.heap[z2]? = some (.cells #[.int .i64 nx, .int .i64 x, .string ⟨#[]⟩, .int .i64 0, .int .i64 tb, .int .u8 kd, .int .i64 key, .string t] 50 (0, 0)) := by
  rw [hw4]
  exact ((Fo.refl (fun k => k = h) w3).setCell (p := ⟨h, 9, none⟩) (.inl rfl) _).heap (fun e => by have := (S.out.lt h hq).2; have := HZ2.out; have := ZW1.out; have := HZB.out; omega) G3.out
 have NF : RowKit.Hid (¬ xqy h d.V z2) := iH (fun hk => by have := (S.out.lt z2 (.inl hk)).2; have := HZ2.out; have := ZW1.out; have := HZB.out; omega)
 have S4 := iH (And.intro (kd4.heap (by simp) h4) (kd4.heap (by simp) z4))
 have CA := iH (raddto_any (k4.keep kd4).spools d.c k4.c3 (by show (q.l d.c).length < 1000000; rw [e0]; exact TB.out) ⟨nx, x, ⟨#[]⟩, 0, tb, kd, key, t⟩)
 simp only [Ev.cs] at CA
 have CC : RowKit.Hid (∀ V : World, V.heap[h]? = some (.cells ({ d with nx := .int .i64 nx2 } : Dv).R.toArray rqT (0, 0)) -> V.cell? ⟨h, 4, none⟩ = some (.int .i64 (d.c : Int))) := iH (fun V hV => dR_cell hV rfl)
 have K4 := iH k4; have T4 := iH t4; have KQ := iH kq; have E0 := iH e0; have E1 := iH e1; have E2 := iH e2; have KD := iH kd4; have HN2 := iH hnx2
 clear kq e0 e1 e2 e3 hnx2 hw4 k4 t4 kd4 h4 z4 c9 fz9 hq
 refine wp_region_held_drew (S := fun Z => Z.cell? ⟨h, 4, none⟩ = some (.int .i64 (d.c : Int)) /\ Z.heap[z2]? = some (.cells #[.int .i64 nx, .int .i64 x, .string ⟨#[]⟩, .int .i64 0, .int .i64 tb, .int .u8 kd, .int .i64 key, .string t] 50 (0, 0))) (by kernel_rfl) ⟨CC.out _ S4.out.1, S4.out.2⟩ (fun hJ => ?_)
 refine wx 0 28 (.pointer (some ⟨h, 0, none⟩)) rfl hJ ?_
 refine wx 1 29 (.pointer (some ⟨h, 0, none⟩)) rfl hJ ?_
 refine wx 2 30 (.pointer (some ⟨h, 1, none⟩)) rfl hJ ?_
 refine wx 3 31 (.pointer (some ⟨h, 0, none⟩)) rfl hJ ?_
 refine wx 4 32 (.pointer (some ⟨h, 0, none⟩)) rfl hJ ?_
 refine wx 5 33 (.pointer (some ⟨h, 1, none⟩)) rfl hJ ?_
 refine wx 6 34 (.pointer (some ⟨h, 4, none⟩)) rfl hJ ?_
 refine wx 7 35 (.int .i64 (d.c : Int)) rfl hJ ?_ (hy := fun V hV => by (have q0 := hV.1; clear hV; go_simp))
 refine wx 8 36 (.agg #[.int .i64 nx, .int .i64 x, .string ⟨#[]⟩, .int .i64 0, .int .i64 tb, .int .u8 kd, .int .i64 key, .string t]) rfl hJ ?_ (hy := fun V hV => by (obtain ⟨q0, q1, q2, q3, q4, q5, q6, q7⟩ := xqm hV.2; clear hV; go_simp))
 refine wr1 9 rfl (fun K hK => ?_)
 go_simp
 go_at_call 112
 refine (CA.out).mono ?_
 rintro r w5 ⟨rfl, r5⟩
 have R5 := iH r5
 have S5 : RowKit.Hid (w5.cell? ⟨h, 4, none⟩ = some (.int .i64 (d.c : Int)) /\ w5.heap[z2]? = some (.cells #[.int .i64 nx, .int .i64 x, .string ⟨#[]⟩, .int .i64 0, .int .i64 tb, .int .u8 kd, .int .i64 key, .string t] 50 (0, 0))) := iH (by obtain ⟨V9, h1, h3⟩ := r5; exact ⟨(((K4.out.keep KD.out).ofSpools h1 h3).1.cell (i := 4) rfl).1, h3.1.heap NF.out S4.out.2⟩)
 clear r5
 go_wp2_with fail
 refine hK.out _ _ S5.out (fun hJ => ?_)
 clear hK K
 refine wd ?_
 clear hJ
 obtain ⟨V', h1, h3⟩ := R5.out
 obtain ⟨k5, t5⟩ := (K4.out.keep KD.out).ofSpools h1 h3
 have hc := E0.out
 have PP := DPost.of (q := { q with l := upd q.l d.c (q.l d.c ++ [⟨nx, x, ⟨#[]⟩, 0, tb, kd, key, t⟩]), nx := nx2 }) KQ.out ⟨k5, T4.out.trans (t5.afterK KD.out)⟩ rfl hc E1.out E2.out rfl
 rw [hc] at PP
 have PP := iH PP
 have g5 := S5.out.2
 have g51 := t5.1.heap (fun hk => by have := (S.out.lt (zb + 1) hk).2; have := HZB.out; omega) ((KD.out.heap (by simp) (T4.out.1.heap (fun hk => by have := (S.out.lt (zb + 1) hk).2; have := HZB.out; omega) (K3.out.heap (by simp) G1.out))))
 have G51 := iH g51
 obtain ⟨x0, x1, x2, x3, x4, x5, x6, x7⟩ := xqm g5
 obtain ⟨y0, y1, y2, y3, y4, y5, y6, y7⟩ := xqm g51
 obtain ⟨f0, f1, f2, f3, f4, f5, f6, f7⟩ := yqr g51
 have NE : z2 ≠ zb + 1 := by have := HZ2.out; have := ZW1.out; omega
 clear h1 h3 k5 t5 g5 g51 R5 hc
 go_wp2
 refine bodyPost_ret (v := .agg #[.int .i64 nx, .int .i64 x, .string ⟨#[]⟩, .int .i64 0, .int .i64 tb, .int .u8 kd, .int .i64 key, .string t]) (by simp [results, Tryz.results51, go_sem, *]) rfl ?_
 have ff : Fo (fun k => k = zb + 1) w5 (xqo w5 (zb + 1) 0 [.int .i64 nx, .int .i64 x, .string ⟨#[]⟩, .int .i64 0, .int .i64 tb, .int .u8 kd, .int .i64 key, .string t]) := xqu (O := fun k => k = zb + 1) _ w5 0 (Fo.refl _ w5) (.inl rfl)
 have PQ := DPost.boxed S.out K1.out (DPost.pre K3.out PP.out) G51.out (by decide) (by decide) (by rw [HZB.out]; omega) (by have := ZW1.out; omega) ff
 have hnx := HNX.out
 have hn2 := HN2.out
 subst hnx
 subst hn2
 exact ⟨rfl, PQ⟩
-- the parts' calls, as the law makes them
theorem dfrg_any (s : DS w B h m st q O) {k : Nat} (z : SzQ k q) (hk : k <= 1000) (x : Int) : Calls Tryz.prog 53 #[.pointer (some ⟨h, 1, none⟩), .int .i64 x] w fun e w' => e = .returned (.int .i64 (frgN q x)) /\ DPost w B h m st O (frgQ q x) w' := by
 obtain ⟨d, v, xs, kq, e0, e1, e2, e3, rfl⟩ := s.ex
 refine (rforget_any kq.dq.spools (z.tabs hk) x).mono ?_
 rintro e w' ⟨rfl, V', h1, h3⟩
 exact ⟨rfl, DPost.of (q := frgQ q x) kq (kq.dq.ofSpools h1 h3) rfl e0 e1 e2 e3⟩
theorem drot_any (s : DS w B h m st q O) : Calls Tryz.prog 66 #[.pointer (some ⟨h, 1, none⟩), .bool (freQ st q)] w fun e w' => e = .returned (.tuple #[.int .u8 (rotQ st q).1, .int .i64 (rotQ st q).2.1]) /\ DPost w B h m st O (rotQ st q).2.2 w' := by
 obtain ⟨d, v, xs, kq, e0, e1, e2, e3, rfl⟩ := s.ex
 refine (rrotate_any kq.dq.spools (freQ st q)).mono ?_
 rintro e w' ⟨rfl, V', h1, h3⟩
 rw [e0] at h1 ⊢
 exact ⟨rfl, DPost.of (q := (rotQ st q).2.2) kq (kq.dq.ofSpools h1 h3) rfl rfl e1 e2 e3⟩
theorem dfns_any (s : DS w B h m st q O) {k : Nat} (z : SzQ k q) (n : ByteArray) : Calls Tryz.prog 63 #[.pointer (some ⟨h, 7, none⟩), .string n] w fun e w' => e = .returned (.tuple #[.int .i64 (finN q.cs n), .int .i64 (finE q.cs n)]) /\ DPost w B h m st O (fnsQ q n) w' := by
 obtain ⟨d, v, xs, kq, e0, e1, e2, e3, rfl⟩ := s.ex
 refine (rfin_any kq.dq.cursors z.ok.okc n).mono ?_
 rintro e w' ⟨rfl, V', h1, h3⟩
 exact ⟨rfl, DPost.of (q := fnsQ q n) kq (kq.dq.ofCursors h1 h3) rfl e0 e1 e2 e3⟩
def DkPost (w : World) (B h m : Nat) (st : List Nat) (O : Nat -> Prop) (p : Pt) (E : Int) (q' : Qs) (e : Ending) (w' : World) : Prop :=
 ∃ y : Tk, e = .returned (.tuple #[.agg y.cs, .int .i64 E]) /\ y.pl = p /\ RdT w' y.op y.l /\ DPost w B h m st O q' w'
theorem dtck_any (s : DS w B h m st q O) {k : Nat} (z : SzQ k q) (hk : k <= 1000) (M : Int) (va : Option Addr) (vc : Nat) (lo : List Int) (now : Int) (hr : RdT w (.slice va lo.length vc) lo) (hM : M <= 9223372036854775807) (hl : lo.length <= 1000) : Calls Tryz.prog 54 #[.pointer (some ⟨h, 5, none⟩), .agg #[.int .i64 M, .slice va lo.length vc], .int .i64 now] w (DkPost w B h m st O (addP q.ps M lo now) (addE q.ps M lo now) (tckQ q M lo now)) := by
 obtain ⟨d, v, xs, kq, e0, e1, e2, e3, rfl⟩ := s.ex
 have tk := kq.dq.ticks
 rw [e2, <- e1] at tk
 refine (rkadd_any tk (by rw [e1]; exact z.ok.okp) M va vc lo now hr hM hl (by rw [e1]; have := z.last; omega)).mono ?_
 rintro e w' ⟨y, V', xs', rfl, h1, h2, h3, h4, h5⟩
 rw [e1] at h1 h3 h4 ⊢
 exact ⟨y, rfl, h1, h2, DPost.of (q := tckQ q M lo now) kq (kq.dq.ofTicks h3 h5) rfl e0 h4 rfl e3⟩
theorem dtrm_any (s : DS w B h m st q O) {k : Nat} (z : SzQ k q) : Calls Tryz.prog 68 #[.pointer (some ⟨h, 5, none⟩), .int .i64 (lowQ q)] w fun e w' => e = .returned (.int .i64 (trmN q)) /\ DPost w B h m st O (trmQ q) w' := by
 obtain ⟨d, v, xs, kq, e0, e1, e2, e3, rfl⟩ := s.ex
 have tk := kq.dq.ticks
 rw [e2, <- e1] at tk
 refine (rktrim_any tk (by rw [e1]; exact z.ok.okp) (lowQ q)).mono ?_
 rintro e w' ⟨rfl, V', xs', h3, h4, h5⟩
 have hl : (q.ps.length : Int) = xs.length := by rw [<- e1, List.length_map]
 rw [e1] at h3 h4 ⊢
 refine ⟨by rw [trmN, hl], DPost.of (q := trmQ q) kq (kq.dq.ofTicks h3 h5) rfl e0 h4 rfl e3⟩
-- the document's manager
def DMPost (w : World) (B h m : Nat) (st' : List Nat) (q : Qs) (O : Nat -> Prop) (w' : World) : Prop := DS w' B h m st' q O /\ Fr B rts w w'
theorem DS.rm (s : DS w B h m st q O) : ∃ v, Rm w B m v st := by
 obtain ⟨d, v, xs, kq, e0, e1, e2, e3, rfl⟩ := s.ex
 exact ⟨v, kq.rm⟩
theorem DS.mstep (s : DS w B h m st q O) {v' : Value} {st' : List Nat} (r : Rm w' B m v' st') (f : Fr B rts w w') : DMPost w B h m st' q O w' := by
 obtain ⟨d, v, xs, kq, e0, e1, e2, e3, rfl⟩ := s.ex
 exact ⟨⟨d, v', xs, kq.man r f, e0, e1, e2, e3, rfl⟩, f⟩
theorem dbegin_any (s : DS w B h m st q O) (hl : st.length <= 1000) : Calls Tryz.prog 49 #[.pointer (some ⟨m, 0, none⟩)] w fun e w' => e = .returned (.tuple #[.int .i64 (begV st), .int .i64 (begE st)]) /\ DMPost w B h m (begS st) q O w' := by
 obtain ⟨v, g⟩ := s.rm
 by_cases h : 6 <= (xqp st).length
 ·refine (rbegin_full g (.inl h)).mono ?_
  rintro e w' ⟨rfl, k⟩
  exact ⟨by rw [begV, begE, if_pos h, if_pos h], by rw [begS, if_pos h]; exact s.mstep (g.keep k) (Fr.ofKept k _ _)⟩
 refine (rbegin_ok g (by omega) (by omega)).mono ?_
 rintro e w' ⟨rfl, v', r, f⟩
 exact ⟨by rw [begV, begE, if_neg h, if_neg h], by rw [begS, if_neg h]; exact s.mstep r f⟩
theorem dend_any (s : DS w B h m st q O) (x : Int) (c : Nat) (hc : 1 <= c /\ c <= 3) : Calls Tryz.prog 52 #[.pointer (some ⟨m, 0, none⟩), .int .i64 x, .int .u8 (c : Int)] w fun e w' => e = .returned (.int .i64 (endE st x)) /\ DMPost w B h m (endS st x c) q O w' := by
 obtain ⟨v, g⟩ := s.rm
 by_cases h : stAt st x = 1
 ·refine (rend_ok g x c hc h).mono ?_
  rintro e w' ⟨rfl, r, f⟩
  exact ⟨by rw [endE, if_pos h], by rw [endS, if_pos h]; exact s.mstep r f⟩
 refine (rend_bad g x c h).mono ?_
 rintro e w' ⟨rfl, rfl⟩
 exact ⟨by rw [endE, if_neg h], by rw [endS, if_neg h]; exact s.mstep g (Fr.refl _ _ _)⟩
theorem dnext_any (s : DS w B h m st q O) : Calls Tryz.prog 48 #[.pointer (some ⟨m, 0, none⟩)] w fun e w' => e = .returned (.int .i64 ((st.length : Int) + 1)) /\ w = w' := by
 obtain ⟨v, g⟩ := s.rm
 exact rnext_any g
theorem dstate_any (s : DS w B h m st q O) (x : Int) : Calls Tryz.prog 32 #[.pointer (some ⟨m, 0, none⟩), .int .i64 x] w fun e w' => e = .returned (.int .u8 (stAt st x)) /\ w = w' := by
 obtain ⟨v, g⟩ := s.rm
 exact rstate_any g x
theorem dnow_any (s : DS w B h m st q O) :
  Calls Tryz.prog 55 #[.pointer (some ⟨m, 0, none⟩)] w fun e w' => ∃ u c, e = .returned (.agg #[.int .i64 ((st.length : Int) + 1), .slice u (xqp st).length c]) /\ RdT w' (.slice u (xqp st).length c) (xqp st) /\ Kept w w' [] := by
 obtain ⟨v, h⟩ := s.rm
 obtain ⟨m2, hm⟩ : ∃ m, (xqp st).length = m := ⟨_, rfl⟩
 have HM := iH hm
 rw [hm]
 obtain ⟨W1, hW1⟩ : ∃ W1, W1 = w.alloc (.cells #[.int .i64 0, .slice none 0 0] 36) := ⟨_, rfl⟩
 have hk1 : Kept w W1 [] := by rw [hW1]; exact (Kept.refl w []).alloc _
 have K1 := iH hk1
 have hb1 : W1.heap[w.heap.size]? = some (.cells #[.int .i64 0, .slice none 0 0] 36 (0, 0)) := by rw [hW1]; exact heap_alloc_new w _
 have B1 := iH hb1
 obtain ⟨n, hn⟩ : ∃ n : Int, n = (st.length : Int) + 1 := ⟨_, rfl⟩
 rw [<- hn]
 have c1 := iH (rnext_any (h.keep hk1))
 have c2 := iH (ropen_any (h.keep hk1))
 rw [<- hn] at c1
 rw [hm] at c2
 clear h s hb1 hk1 hn hm
 go_enter Tryz.func55, Tryz.ntmps55
 go_wp2_with fail
 rw [<- hW1]
 have HZ := iH (show w.heap.size <= W1.heap.size by rw [hW1]; simp)
 clear hW1
 go_wp2_with fail
 refine c1.out.mono ?_
 rintro e w8 ⟨rfl, rfl⟩
 go_wp2_with fail
 refine c2.out.mono ?_
 rintro e w9 ⟨a9, c9, rfl, ho, k8⟩
 have o9 := ownsRow_low ho HZ.out
 have hb9 := k8.heap (by simp) B1.out
 obtain ⟨e0, e1, e2, e3⟩ := res_cells hb9
 have hb10 := xqb hb9 0 (.int .i64 n)
 have hb11 := xqb hb10 1 (.slice a9 m2 c9)
 have f9 : Fr w.heap.size [36] w9 ((w9.setCell ⟨w.heap.size, 0, none⟩ (.int .i64 n)).setCell ⟨w.heap.size, 1, none⟩ (.slice a9 m2 c9)) :=
  ((Fr.refl _ _ w9).setCell hb9 (.inr ⟨Nat.le_refl _, by simp⟩) 0 _).setCell hb10 (.inr ⟨Nat.le_refl _, by simp⟩) 1 _
 have o11 := xqW o9 f9 (by decide)
 have k11 : Kept w ((w9.setCell ⟨w.heap.size, 0, none⟩ (.int .i64 n)).setCell ⟨w.heap.size, 1, none⟩ (.slice a9 m2 c9)) [] :=
  ((K1.out.trans k8 (by simp)).setCell (p := ⟨w.heap.size, 0, none⟩) (.inr (Nat.le_refl _)) _).setCell (p := ⟨w.heap.size, 1, none⟩) (.inr (Nat.le_refl _)) _
 obtain ⟨w11, hw11⟩ : ∃ w11, w11 = (w9.setCell ⟨w.heap.size, 0, none⟩ (.int .i64 n)).setCell ⟨w.heap.size, 1, none⟩ (.slice a9 m2 c9) := ⟨_, rfl⟩
 rw [<- hw11] at hb11 o11 k11
 obtain ⟨d0, d1, _, _⟩ := res_cells (u := .int .i64 n) (v := .slice a9 m2 c9) (by simpa using hb11)
 have HW11 := iH hw11
 clear f9 hb9 hb10 hw11
 go_wp2_with fail
 rw [<- HW11.out]
 exact bodyPost_ret (v := .agg #[.int .i64 n, .slice a9 m2 c9]) (by simp [results, Tryz.results55, go_sem, d0, d1]) rfl ⟨a9, c9, rfl, by have hm := HM.out; subst hm; exact owns_rdT o11, k11⟩
theorem drgs_any (s : DS w B h m st q O) {k : Nat} (z : SzQ k q) (n : ByteArray) : Calls Tryz.prog 58 #[.pointer (some ⟨h, 0, none⟩), .string n] w fun e w' => e = .returned (.int .i64 (rgsE q n)) /\ DPost w B h m st O (rgsQ q n) w' := by
 have CF : RowKit.Hid (∀ Z, Kept w Z [] -> Z.cell? ⟨h, 6, none⟩ = some (.int .i64 (xqk q.ps))) := iH (fun Z hZ => (s.keep hZ).cells.2.2.1)
 have S := iH s
 obtain ⟨L, hL⟩ : ∃ L, L = xqk q.ps := ⟨_, rfl⟩
 have HL := iH hL
 rw [<- hL] at CF
 by_cases h0 : L = 0
 ·have RR : RowKit.Hid (rgsE q n = 9 /\ rgsQ q n = q) := iH ⟨by unfold rgsE; rw [if_pos (by rw [<- hL]; exact h0)], by unfold rgsQ; rw [if_pos (by rw [<- hL]; exact h0)]⟩
  subst h0
  have c6 := CF.out w (Kept.refl w [])
  clear s z hL
  go_enter Tryz.func58, Tryz.ntmps58
  go_wp2
  go_ret
  obtain ⟨r1, r2⟩ := RR.out
  rw [r1, r2]
  exact ⟨rfl, DPost.same S.out (Kept.refl _ _)⟩
 have RR : RowKit.Hid (rgsE q n = regE q.cs n L /\ rgsQ q n = { q with cs := regL q.cs n L }) := iH ⟨by unfold rgsE; rw [if_neg (by rw [<- hL]; exact h0), hL], by unfold rgsQ; rw [if_neg (by rw [<- hL]; exact h0), hL]⟩
 have hb : (L == 0) = false := by rw [beq_eq_false_iff_ne]; exact h0
 have c6 := CF.out w (Kept.refl w [])
 obtain ⟨d, v, xs, kq, e0, e1, e2, e3, rfl⟩ := s.ex
 have RG := iH (rreg_any (kq.dq.keep ((Kept.refl w []).drew)).cursors z.ok.okc n L)
 have S0 := iH (show w.drew.cell? ⟨h, 6, none⟩ = some (.int .i64 L) from CF.out _ (Kept.refl w []).drew)
 have KQ := iH kq; have E0 := iH e0; have E1 := iH e1; have E2 := iH e2; have E3 := iH e3
 clear s z hL h0 kq e0 e1 e2 e3
 go_enter Tryz.func58, Tryz.ntmps58
 go_upto_region 3 with fail
 clear c6
 refine wp_region_held_drew (S := fun Z => Z.cell? ⟨h, 6, none⟩ = some (.int .i64 L)) (by kernel_rfl) S0.out (fun hJ => ?_)
 refine wx 0 11 (.pointer (some ⟨h, 0, none⟩)) rfl hJ ?_
 refine wx 1 12 (.pointer (some ⟨h, 0, none⟩)) rfl hJ ?_
 refine wx 2 13 (.pointer (some ⟨h, 7, none⟩)) rfl hJ ?_
 refine wx 3 14 (.string n) rfl hJ ?_
 refine wx 4 15 (.pointer (some ⟨h, 0, none⟩)) rfl hJ ?_
 refine wx 5 16 (.pointer (some ⟨h, 0, none⟩)) rfl hJ ?_
 refine wx 6 17 (.pointer (some ⟨h, 5, none⟩)) rfl hJ ?_
 refine wx 7 18 (.pointer (some ⟨h, 6, none⟩)) rfl hJ ?_
 refine wx 8 19 (.int .i64 L) rfl hJ ?_ (hy := fun V hV => by (have q0 := hV; clear hV; go_simp))
 refine wr1 9 rfl (fun K hK => ?_)
 go_simp
 go_at_call 116
 refine (RG.out).mono ?_
 rintro r w5 ⟨rfl, V9, h1, h3⟩
 obtain ⟨k5, t5⟩ := (KQ.out.dq.keep ((Kept.refl w []).drew)).ofCursors h1 h3
 have PP := iH (DPost.of (q := { q with cs := regL q.cs n L }) KQ.out ⟨k5, t5.afterK ((Kept.refl w []).drew)⟩ rfl E0.out E1.out E2.out E3.out)
 have S5 := iH (show w5.cell? ⟨h, 6, none⟩ = some (.int .i64 L) by have := (k5.cell (i := 6) rfl).1; rw [HL.out, <- E2.out]; exact this)
 obtain ⟨EE, hEE⟩ : ∃ EE, EE = regE q.cs n L := ⟨_, rfl⟩
 rw [<- hEE]
 have HEE := iH hEE
 clear h1 h3 k5 t5 hEE
 go_wp2_with fail
 refine hK.out _ _ S5.out (fun hJ => ?_)
 clear hK K
 refine wx 10 4 (.int .i64 EE) rfl hJ ?_
 refine wd ?_
 clear hJ
 go_wp2
 go_ret
 obtain ⟨r1, r2⟩ := RR.out
 rw [r1, r2]
 exact ⟨congrArg (fun x => Ending.returned (.int .i64 x)) HEE.out, PP.out⟩
theorem durg_any (s : DS w B h m st q O) {k : Nat} (z : SzQ k q) (n : ByteArray) : Calls Tryz.prog 59 #[.pointer (some ⟨h, 0, none⟩), .string n] w fun e w' => e = .returned (.int .i64 (unrE q.cs n)) /\ DPost w B h m st O (urgQ q n) w' := by
 obtain ⟨d, v, xs, kq, e0, e1, e2, e3, rfl⟩ := s.ex
 have UN := iH (runr_any kq.dq.cursors z.ok.okc n)
 have KQ := iH kq; have E0 := iH e0; have E1 := iH e1; have E2 := iH e2; have E3 := iH e3; have OI := iH z.oki
 clear s z kq e0 e1 e2 e3
 by_cases h0 : unrE q.cs n = 0
 ·have r2 : urgQ q n = { q with cs := unrL q.cs n, rs := drpI q.rs n } := by unfold urgQ; rw [if_pos h0]
  rw [r2, h0]
  rw [h0] at UN
  clear h0 r2
  go_enter Tryz.func59, Tryz.ntmps59
  go_wp2_with fail
  refine UN.out.mono ?_
  rintro e w2 ⟨rfl, V', h1, h3⟩
  obtain ⟨k2, t2⟩ := KQ.out.dq.ofCursors h1 h3
  have K2 := iH k2; have T2 := iH t2
  have DR := iH (rdrop_any k2.retries OI.out n)
  clear h1 h3 t2 k2
  go_wp2_with fail
  refine DR.out.mono ?_
  rintro e w3 ⟨rfl, VR', h1, h3⟩
  obtain ⟨k3, t3⟩ := K2.out.ofRetries h1 h3
  have Q := iH (DPost.of (q := { q with cs := unrL q.cs n, rs := drpI q.rs n }) KQ.out ⟨k3, T2.out.trans t3⟩ rfl E0.out E1.out E2.out E3.out)
  clear k3 t3 h1 h3
  go_wp2
  go_ret
  exact ⟨rfl, Q.out⟩
 have r2 : urgQ q n = { q with cs := unrL q.cs n } := by unfold urgQ; rw [if_neg h0]
 rw [r2]
 obtain ⟨L, hL⟩ : ∃ L, L = unrE q.cs n := ⟨_, rfl⟩
 rw [<- hL] at UN h0 ⊢
 have h1 : (L == 0) = false := by rw [beq_eq_false_iff_ne]; exact h0
 clear h0 r2 hL
 go_enter Tryz.func59, Tryz.ntmps59
 go_wp2_with fail
 refine UN.out.mono ?_
 rintro e w2 ⟨rfl, V', h1, h3⟩
 have P := iH (DPost.of (q := { q with cs := unrL q.cs n }) KQ.out (KQ.out.dq.ofCursors h1 h3) rfl E0.out E1.out E2.out E3.out)
 clear h1 h3
 go_wp2
 go_ret
 exact ⟨rfl, P.out⟩
theorem dlow_any (s : DS w B h m st q O) {k : Nat} (z : SzQ k q) : Calls Tryz.prog 69 #[.pointer (some ⟨h, 0, none⟩)] w fun e w' => e = .returned (.int .i64 (lowQ q)) /\ Kept w w' [] := by
 obtain ⟨d, v, xs, kq, e0, e1, e2, e3, rfl⟩ := s.ex
 have LE := iH (rlea_any kq.dq.cursors (by have := z.ok.okc.few; omega))
 clear s z kq e0 e1 e2 e3
 by_cases h0 : q.cs.length = 0
 ·have hd : decide (0 < q.cs.length) = false := by rw [decide_eq_false_iff_not]; omega
  have r1 : lowQ q = 9223372036854775807 := if_pos h0
  rw [r1]
  rw [hd] at LE
  clear h0 hd r1
  go_enter Tryz.func69, Tryz.ntmps69
  go_wp2_with fail
  refine LE.out.mono ?_
  rintro e w2 ⟨rfl, k2⟩
  go_wp2
  go_ret
  exact ⟨rfl, k2⟩
 have hd : decide (0 < q.cs.length) = true := by rw [decide_eq_true_iff]; omega
 have r1 : lowQ q = leaN q.cs := if_neg h0
 rw [r1]
 rw [hd] at LE
 clear h0 hd r1
 go_enter Tryz.func69, Tryz.ntmps69
 go_wp2_with fail
 refine LE.out.mono ?_
 rintro e w2 ⟨rfl, k2⟩
 go_wp2
 go_ret
 exact ⟨rfl, k2⟩
end Go.Proofs.YticiofkiffgclaaGreat
