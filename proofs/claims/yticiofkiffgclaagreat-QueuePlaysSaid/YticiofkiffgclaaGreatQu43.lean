/-
  Zst in one text.
-/
import Derived.Test.YticiofkiffgclaaGreatQu0
import Derived.Test.YticiofkiffgclaaGreatQu37
import Derived.Laws.StructEq
set_option linter.unusedVariables false
set_option maxHeartbeats 16000000
set_option maxRecDepth 100000
namespace Go.Proofs.YticiofkiffgclaaGreat
open Go.ChangeShapes Go.WideShapes Go.ChangeAt Go.RowKit
variable {w0 w w' : World} {a : Hk} {h m hx zb zr : Nat} {s1 s2 s1' s2' : List Nat} {q1 q2 q' : Qs} {O1 O2 : Nat -> Prop} {C R : Array Value}
variable {st : List Nat} {q : Qs} {O : Nat -> Prop} {B : Nat}
theorem qlike_any (b : Bs w0 w a h m hx st st q q O1 O2) {k : Nat} (z : SzQ k q) (hk : k <= 1000) : Calls Tryz.prog 12 #[.pointer (some ⟨hx, 0, none⟩)] w fun e w' => e = .returned (.bool true) /\ Kept w w' [] := by
 obtain ⟨ut, ct, uc, cc, ur, cr, lk⟩ := b.ds.look
 obtain ⟨fb, hfb⟩ : ∃ fb, fb = freQ st q := ⟨_, rfl⟩
 have few := z.ok.okc.few
 have few2 := z.oki.few
 have BB := iH b; have ZZ := iH z; have HK := iH hk; have LK := iH lk; have HFB := iH hfb
 have NE := qcu_ne
 clear b z hk lk hfb
 go_enter Tryz.func12, Tryz.ntmps12
 obtain ⟨u0, u1, u2, u3⟩ := xqd BB.out.hx
 go_wp2_with fail
 refine (lkC (xqP BB.out.ks)).mono ?_
 rintro e w1 ⟨rfl, k1⟩
 have K1 := iH k1
 clear u0 u1 u2 u3 k1
 go_wp2_with fail
 refine (kcall_any (BB.out.keep K1.out).ks ZZ.out).mono ?_
 rintro e w2 ⟨v2, rfl, o2, k2⟩
 obtain ⟨uk, ck, e2⟩ := o2.shape
 subst e2
 have K2 := iH (K1.out.trans k2 (by simp)); have OW2 := iH o2
 clear o2 k2
 go_upto_region 2 with fail
 obtain ⟨w3, hw3⟩ : ∃ w', w' = w2.drew := ⟨_, rfl⟩
 have K3 := iH (show Kept w w3 [] by rw [hw3]; exact K2.out.drew)
 have OW3 := iH (show OwnK encCu w3 w1.heap.size cuE (.slice uk q.cs.length ck) q.cs by rw [hw3]; exact OW2.out.keep ((Kept.refl w2 []).drew))
 refine wp_region_held_drew (S := fun Z => Kept w Z []) (by kernel_rfl) (by rw [<- hw3]; exact K3.out) (fun hJ => ?_)
 rw [<- hw3] at hJ ⊢
 clear hw3
 refine wx 0 11 (.slice uk q.cs.length ck) rfl hJ ?_
 refine wx 1 12 (.int .i64 (q.cs.length : Nat)) rfl hJ ?_
 refine wx 2 13 (.pointer (some ⟨hx, 0, none⟩)) rfl hJ ?_
 refine wx 3 14 (.pointer (some ⟨hx, 0, none⟩)) rfl hJ ?_
 refine wx 4 15 (.pointer (some ⟨hx, 3, none⟩)) rfl hJ ?_
 refine wx 5 16 (.pointer (some ⟨h, 0, none⟩)) rfl hJ ?_ (hy := fun V hV => by (obtain ⟨u0, u1, u2, u3⟩ := xqd (BB.out.keep hV).hx; go_simp))
 refine wx 6 17 (.pointer (some ⟨h, 0, none⟩)) rfl hJ ?_
 refine wx 7 18 (.pointer (some ⟨h, 7, none⟩)) rfl hJ ?_
 refine wx 8 19 (.pointer (some ⟨h, 7, none⟩)) rfl hJ ?_
 refine wx 9 20 (.slice uc q.cs.length cc) rfl hJ ?_ (hy := fun V hV => by (obtain ⟨q5, q7, q8, -⟩ := LK.out V hV; go_simp))
 refine wx 10 21 (.int .i64 (q.cs.length : Nat)) rfl hJ ?_
 refine wx 11 22 (.bool false) rfl hJ ?_
 refine wx 12 23 (.bool false) rfl hJ ?_
 refine wx 13 24 (.pointer (some ⟨hx, 0, none⟩)) rfl hJ ?_
 refine wx 14 25 (.pointer (some ⟨hx, 0, none⟩)) rfl hJ ?_
 refine wx 15 26 (.pointer (some ⟨hx, 2, none⟩)) rfl hJ ?_
 refine wx 16 27 (.pointer (some ⟨a.h, 0, none⟩)) rfl hJ ?_ (hy := fun V hV => by (obtain ⟨u0, u1, u2, u3⟩ := xqd (BB.out.keep hV).hx; go_simp))
 refine wx 20 31 (.pointer (some ⟨hx, 0, none⟩)) rfl hJ ?_
 refine wx 21 32 (.pointer (some ⟨hx, 0, none⟩)) rfl hJ ?_
 refine wx 22 33 (.pointer (some ⟨hx, 3, none⟩)) rfl hJ ?_
 refine wx 23 34 (.pointer (some ⟨h, 0, none⟩)) rfl hJ ?_ (hy := fun V hV => by (obtain ⟨u0, u1, u2, u3⟩ := xqd (BB.out.keep hV).hx; go_simp))
 refine wx 24 35 (.pointer (some ⟨h, 0, none⟩)) rfl hJ ?_
 refine wx 25 36 (.pointer (some ⟨h, 8, none⟩)) rfl hJ ?_
 refine wx 26 37 (.pointer (some ⟨h, 8, none⟩)) rfl hJ ?_
 refine wx 27 38 (.slice ur q.rs.length cr) rfl hJ ?_ (hy := fun V hV => by (obtain ⟨q5, q7, q8, -⟩ := LK.out V hV; go_simp))
 refine wx 28 39 (.int .i64 (q.rs.length : Nat)) rfl hJ ?_
 refine wr1 17 rfl (fun K hK => ?_)
 go_simp
 go_at_call 46
 refine (lkC (kretries_any (BB.out.keep K3.out).ks)).mono ?_
 rintro e w4 ⟨rfl, p⟩
 have OW4 := iH (OW3.out.keep p)
 have K4 := iH (K3.out.trans p (by simp))
 clear p hJ
 go_wp2_with fail
 refine hK.out _ _ K4.out (fun hJ => ?_)
 clear hK K
 refine wr1 18 rfl (fun K hK => ?_)
 go_simp
 go_at_call 70
 refine (krall_any (BB.out.keep K4.out).ks ZZ.out).mono ?_
 rintro e w5 ⟨v5, rfl, o5, p⟩
 have OW5 := iH (OW4.out.keep p)
 have K5 := iH (K4.out.trans p (by simp))
 obtain ⟨ur5, cr5, e5⟩ := o5.shape
 subst e5
 clear o5
 clear p hJ
 go_wp2_with fail
 refine hK.out _ _ K5.out (fun hJ => ?_)
 clear hK K
 refine wx 19 30 (.int .i64 (q.rs.length : Nat)) rfl hJ ?_
 refine wx 29 40 (.bool false) rfl hJ ?_
 refine wx 30 41 (.bool false) rfl hJ ?_
 refine wd ?_
 clear hJ
 go_wp2
 go_loopw [4] (fun s4 wr => ∃ i : Nat, s4 = .int .i64 i /\ i <= q.cs.length /\ Hid (Kept w5 wr [])) (fun s4 _ => q.cs.length - (intOf s4).toNat)
 case atStart => exact ⟨0, rfl, Nat.zero_le _, iH (Kept.refl _ _)⟩
 case round =>
 obtain ⟨i, rfl, hi, KR⟩ := hrel
 have KW := iH (K5.out.trans KR.out (by simp))
 by_cases hlt : i < q.cs.length
 ·have x1 : (i : Int) < (q.cs.length : Int) := by omega
  obtain ⟨x, hx2⟩ : ∃ x, q.cs[i]? = some x := ⟨_, List.getElem?_eq_getElem hlt⟩
  have o4 := OW5.out.keep KR.out
  obtain ⟨g, eg, -⟩ := o4.at hx2
  subst eg
  obtain ⟨p0, p1, p2⟩ := o4.three hx2
  obtain ⟨-, q7, -, d4⟩ := LK.out wr KW.out
  obtain ⟨g2, eg2, -⟩ := d4.at hx2
  subst eg2
  obtain ⟨q0, q1, q2⟩ := d4.three hx2
  obtain ⟨u0, u1, u2, u3⟩ := xqd (BB.out.keep KW.out).hx
  obtain ⟨b0, b1, b2⟩ := x
  simp only at p0 p1 p2 q0 q1 q2
  clear hx2 o4 d4
  go_upto_region 7 with fail
  go_region
  go_wp2
  have K7 := iH KR.out.drew
  go_roundw
  case rel => exact ⟨i + 1, by go_num, by omega, K7⟩
  case measure => simp [intOf]; omega
 have x1 : ¬ (i : Int) < (q.cs.length : Int) := by omega
 go_upto_region 9 with fail
 obtain ⟨w11, hw11⟩ : ∃ w', w' = wr.drew := ⟨_, rfl⟩
 have K11 := iH (show Kept w w11 [] by rw [hw11]; exact KW.out.drew)
 as_aux_lemma =>
 refine wp_region_held_drew (S := fun Z => Kept w Z []) (by kernel_rfl) (by rw [<- hw11]; exact K11.out) (fun hJ => ?_)
 rw [<- hw11] at hJ ⊢
 clear hw11
 refine wx 0 76 (.pointer (some ⟨hx, 0, none⟩)) rfl hJ ?_
 refine wx 1 77 (.pointer (some ⟨hx, 0, none⟩)) rfl hJ ?_
 refine wx 2 78 (.pointer (some ⟨hx, 2, none⟩)) rfl hJ ?_
 refine wx 3 79 (.pointer (some ⟨a.h, 0, none⟩)) rfl hJ ?_ (hy := fun V hV => by (obtain ⟨u0, u1, u2, u3⟩ := xqd (BB.out.keep hV).hx; go_simp))
 refine wx 5 81 (.pointer (some ⟨hx, 0, none⟩)) rfl hJ ?_
 refine wx 6 82 (.pointer (some ⟨hx, 0, none⟩)) rfl hJ ?_
 refine wx 7 83 (.pointer (some ⟨hx, 3, none⟩)) rfl hJ ?_
 refine wx 8 84 (.pointer (some ⟨h, 0, none⟩)) rfl hJ ?_ (hy := fun V hV => by (obtain ⟨u0, u1, u2, u3⟩ := xqd (BB.out.keep hV).hx; go_simp))
 refine wx 9 85 (.pointer (some ⟨h, 0, none⟩)) rfl hJ ?_
 refine wx 10 86 (.pointer (some ⟨h, 9, none⟩)) rfl hJ ?_
 refine wx 11 87 (.int .i64 q.nx) rfl hJ ?_ (hy := fun V hV => by (obtain ⟨-, q4, q6, q9, -⟩ := (BB.out.keep hV).ds.cells; go_simp))
 refine wr1 4 rfl (fun K hK => ?_)
 go_simp
 go_at_call 45
 refine (lkC (knid_any (BB.out.keep K11.out).ks)).mono ?_
 rintro e w12 ⟨rfl, p⟩
 have K12 := iH (K11.out.trans p (by simp))
 clear p hJ
 go_wp2_with fail
 refine hK.out _ _ K12.out (fun hJ => ?_)
 clear hK K
 refine wx 12 88 (.bool true) rfl hJ ?_
 refine wx 13 89 (.bool true) rfl hJ ?_
 refine wx 14 90 (.pointer (some ⟨hx, 0, none⟩)) rfl hJ ?_
 refine wx 15 91 (.pointer (some ⟨hx, 0, none⟩)) rfl hJ ?_
 refine wx 16 92 (.pointer (some ⟨hx, 2, none⟩)) rfl hJ ?_
 refine wx 17 93 (.pointer (some ⟨a.h, 0, none⟩)) rfl hJ ?_ (hy := fun V hV => by (obtain ⟨u0, u1, u2, u3⟩ := xqd (BB.out.keep hV).hx; go_simp))
 refine wx 19 95 (.pointer (some ⟨hx, 0, none⟩)) rfl hJ ?_
 refine wx 20 96 (.pointer (some ⟨hx, 0, none⟩)) rfl hJ ?_
 refine wx 21 97 (.pointer (some ⟨hx, 3, none⟩)) rfl hJ ?_
 refine wx 22 98 (.pointer (some ⟨h, 0, none⟩)) rfl hJ ?_ (hy := fun V hV => by (obtain ⟨u0, u1, u2, u3⟩ := xqd (BB.out.keep hV).hx; go_simp))
 as_aux_lemma =>
 refine wr1 18 rfl (fun K hK => ?_)
 go_simp
 go_at_call 44
 refine ((show Calls Tryz.prog 44 #[.pointer (some ⟨a.h, 0, none⟩)] w12 fun e w' => e = .returned (.bool fb) /\ Kept w12 w' [] from by rw [HFB.out]; exact kfre_any (BB.out.keep K12.out).ks ZZ.out HK.out)).mono ?_
 rintro e w13 ⟨rfl, p⟩
 have K13 := iH (K12.out.trans p (by simp))
 clear p hJ
 go_wp2_with fail
 refine hK.out _ _ K13.out (fun hJ => ?_)
 clear hK K
 refine wr1 23 rfl (fun K hK => ?_)
 go_simp
 go_at_call 67
 refine ((show Calls Tryz.prog 67 #[.pointer (some ⟨h, 0, none⟩)] w13 fun e w' => e = .returned (.bool fb) /\ Kept w13 w' [] from by rw [HFB.out]; exact dfre_any (BB.out.keep K13.out).ds ZZ.out HK.out)).mono ?_
 rintro e w14 ⟨rfl, p⟩
 have K14 := iH (K13.out.trans p (by simp))
 clear p hJ
 go_wp2_with fail
 refine hK.out _ _ K14.out (fun hJ => ?_)
 clear hK K
 refine wx 24 100 (.bool true) rfl hJ ?_
 refine wx 25 101 (.bool true) rfl hJ ?_
 refine wx 26 102 (.bool true) rfl hJ ?_
 refine wx 27 103 (.pointer (some ⟨hx, 0, none⟩)) rfl hJ ?_
 refine wx 28 104 (.pointer (some ⟨hx, 0, none⟩)) rfl hJ ?_
 refine wx 29 105 (.pointer (some ⟨hx, 2, none⟩)) rfl hJ ?_
 refine wx 30 106 (.pointer (some ⟨a.h, 0, none⟩)) rfl hJ ?_ (hy := fun V hV => by (obtain ⟨u0, u1, u2, u3⟩ := xqd (BB.out.keep hV).hx; go_simp))
 refine wx 33 109 (.pointer (some ⟨hx, 0, none⟩)) rfl hJ ?_
 refine wx 34 110 (.pointer (some ⟨hx, 0, none⟩)) rfl hJ ?_
 refine wx 35 111 (.pointer (some ⟨hx, 3, none⟩)) rfl hJ ?_
 refine wx 36 112 (.pointer (some ⟨h, 0, none⟩)) rfl hJ ?_ (hy := fun V hV => by (obtain ⟨u0, u1, u2, u3⟩ := xqd (BB.out.keep hV).hx; go_simp))
 refine wx 37 113 (.pointer (some ⟨h, 0, none⟩)) rfl hJ ?_
 refine wx 38 114 (.pointer (some ⟨h, 1, none⟩)) rfl hJ ?_
 refine wr1 31 rfl (fun K hK => ?_)
 go_simp
 go_at_call 26
 refine (lkC (yqM (BB.out.keep K14.out).ks)).mono ?_
 rintro e w15 ⟨rfl, p⟩
 have K15 := iH (K14.out.trans p (by simp))
 clear p hJ
 go_wp2_with fail
 refine hK.out _ _ K15.out (fun hJ => ?_)
 clear hK K
 as_aux_lemma =>
 refine wr1 32 rfl (fun K hK => ?_)
 go_simp
 go_at_call 27
 refine (ksall_any (BB.out.keep K15.out).ks ZZ.out HK.out).mono ?_
 rintro e w16 ⟨va, rfl, ra, p⟩
 have K16 := iH (K15.out.trans p (by simp))
 have RA := iH ra
 clear ra
 clear p hJ
 go_wp2_with fail
 refine hK.out _ _ K16.out (fun hJ => ?_)
 clear hK K
 refine wr1 39 rfl (fun K hK => ?_)
 go_simp
 go_at_call 71
 refine (dsall_any (BB.out.keep K16.out).ds ZZ.out HK.out).mono ?_
 rintro e w17 ⟨vb, rfl, rb, p⟩
 have K17 := iH (K16.out.trans p (by simp))
 have RB := iH rb
 have RA2 := iH (RA.out.kept p (by simp))
 clear rb
 clear p hJ
 go_wp2_with fail
 refine hK.out _ _ K17.out (fun hJ => ?_)
 clear hK K
 refine wr1 40 rfl (fun K hK => ?_)
 go_simp
 go_at_call 62
 refine (same_any_g6 RA2.out RB.out (by have := ZZ.out.len; rw [<- pre_lenN] at this; have := HK.out; rw [xqs]; omega)).mono ?_
 rintro e w18 ⟨rfl, p⟩
 have K18 := iH (K17.out.trans p (by simp))
 clear p hJ
 go_wp2_with fail
 refine hK.out _ _ K18.out (fun hJ => ?_)
 clear hK K
 refine wx 41 117 (.bool true) rfl hJ ?_
 refine wx 42 118 (.bool true) rfl hJ ?_
 refine wx 43 119 (.pointer (some ⟨hx, 0, none⟩)) rfl hJ ?_
 refine wx 44 120 (.pointer (some ⟨hx, 0, none⟩)) rfl hJ ?_
 refine wx 45 121 (.pointer (some ⟨hx, 2, none⟩)) rfl hJ ?_
 refine wx 46 122 (.pointer (some ⟨a.h, 0, none⟩)) rfl hJ ?_ (hy := fun V hV => by (obtain ⟨u0, u1, u2, u3⟩ := xqd (BB.out.keep hV).hx; go_simp))
 refine wx 49 125 (.pointer (some ⟨hx, 0, none⟩)) rfl hJ ?_
 refine wx 50 126 (.pointer (some ⟨hx, 0, none⟩)) rfl hJ ?_
 refine wx 51 127 (.pointer (some ⟨hx, 3, none⟩)) rfl hJ ?_
 refine wx 52 128 (.pointer (some ⟨h, 0, none⟩)) rfl hJ ?_ (hy := fun V hV => by (obtain ⟨u0, u1, u2, u3⟩ := xqd (BB.out.keep hV).hx; go_simp))
 refine wx 53 129 (.pointer (some ⟨h, 0, none⟩)) rfl hJ ?_
 refine wx 54 130 (.pointer (some ⟨h, 1, none⟩)) rfl hJ ?_
 refine wx 55 131 (.pointer (some ⟨h, 4, none⟩)) rfl hJ ?_
 refine wx 56 132 (.int .i64 (q.c : Nat)) rfl hJ ?_ (hy := fun V hV => by (obtain ⟨-, q4, q6, q9, -⟩ := (BB.out.keep hV).ds.cells; go_simp))
 as_aux_lemma =>
 refine wr1 47 rfl (fun K hK => ?_)
 go_simp
 go_at_call 26
 refine (lkC (yqM (BB.out.keep K18.out).ks)).mono ?_
 rintro e w19 ⟨rfl, p⟩
 have K19 := iH (K18.out.trans p (by simp))
 clear p hJ
 go_wp2_with fail
 refine hK.out _ _ K19.out (fun hJ => ?_)
 clear hK K
 refine wr1 48 rfl (fun K hK => ?_)
 go_simp
 go_at_call 72
 refine (kscur_any (BB.out.keep K19.out).ks).mono ?_
 rintro e w20 ⟨rfl, p⟩
 have K20 := iH (K19.out.trans p (by simp))
 clear p hJ
 go_wp2_with fail
 refine hK.out _ _ K20.out (fun hJ => ?_)
 clear hK K
 refine wx 57 133 (.bool true) rfl hJ ?_
 refine wx 58 134 (.bool true) rfl hJ ?_
 refine wx 59 135 (.bool true) rfl hJ ?_
 refine wx 60 136 (.pointer (some ⟨hx, 0, none⟩)) rfl hJ ?_
 refine wx 61 137 (.pointer (some ⟨hx, 0, none⟩)) rfl hJ ?_
 refine wx 62 138 (.pointer (some ⟨hx, 2, none⟩)) rfl hJ ?_
 refine wx 63 139 (.pointer (some ⟨a.h, 0, none⟩)) rfl hJ ?_ (hy := fun V hV => by (obtain ⟨u0, u1, u2, u3⟩ := xqd (BB.out.keep hV).hx; go_simp))
 refine wx 66 142 (.pointer (some ⟨hx, 0, none⟩)) rfl hJ ?_
 refine wx 67 143 (.pointer (some ⟨hx, 0, none⟩)) rfl hJ ?_
 refine wx 68 144 (.pointer (some ⟨hx, 3, none⟩)) rfl hJ ?_
 refine wx 69 145 (.pointer (some ⟨h, 0, none⟩)) rfl hJ ?_ (hy := fun V hV => by (obtain ⟨u0, u1, u2, u3⟩ := xqd (BB.out.keep hV).hx; go_simp))
 refine wx 70 146 (.pointer (some ⟨h, 0, none⟩)) rfl hJ ?_
 refine wx 71 147 (.pointer (some ⟨h, 5, none⟩)) rfl hJ ?_
 refine wx 72 148 (.pointer (some ⟨h, 6, none⟩)) rfl hJ ?_
 refine wx 73 149 (.int .i64 (xqk q.ps)) rfl hJ ?_ (hy := fun V hV => by (obtain ⟨-, q4, q6, q9, -⟩ := (BB.out.keep hV).ds.cells; go_simp))
 refine wr1 64 rfl (fun K hK => ?_)
 go_simp
 go_at_call 39
 refine (lkC (yqn (BB.out.keep K20.out).ks)).mono ?_
 rintro e w21 ⟨rfl, p⟩
 have K21 := iH (K20.out.trans p (by simp))
 clear p hJ
 go_wp2_with fail
 refine hK.out _ _ K21.out (fun hJ => ?_)
 clear hK K
 refine wr1 65 rfl (fun K hK => ?_)
 go_simp
 go_at_call 41
 refine (ktlast_any (BB.out.keep K21.out).ks ZZ.out).mono ?_
 rintro e w22 ⟨rfl, p⟩
 have K22 := iH (K21.out.trans p (by simp))
 clear p hJ
 go_wp2_with fail
 refine hK.out _ _ K22.out (fun hJ => ?_)
 clear hK K
 refine wx 74 150 (.bool true) rfl hJ ?_
 refine wx 75 151 (.bool true) rfl hJ ?_
 refine wx 76 152 (.bool true) rfl hJ ?_
 refine wx 77 153 (.pointer (some ⟨hx, 0, none⟩)) rfl hJ ?_
 refine wx 78 154 (.pointer (some ⟨hx, 0, none⟩)) rfl hJ ?_
 refine wx 79 155 (.pointer (some ⟨hx, 2, none⟩)) rfl hJ ?_
 refine wx 80 156 (.pointer (some ⟨a.h, 0, none⟩)) rfl hJ ?_ (hy := fun V hV => by (obtain ⟨u0, u1, u2, u3⟩ := xqd (BB.out.keep hV).hx; go_simp))
 refine wx 83 159 (.pointer (some ⟨hx, 0, none⟩)) rfl hJ ?_
 refine wx 84 160 (.pointer (some ⟨hx, 0, none⟩)) rfl hJ ?_
 refine wx 85 161 (.pointer (some ⟨hx, 3, none⟩)) rfl hJ ?_
 refine wx 86 162 (.pointer (some ⟨h, 0, none⟩)) rfl hJ ?_ (hy := fun V hV => by (obtain ⟨u0, u1, u2, u3⟩ := xqd (BB.out.keep hV).hx; go_simp))
 refine wx 87 163 (.pointer (some ⟨h, 0, none⟩)) rfl hJ ?_
 refine wx 88 164 (.pointer (some ⟨h, 5, none⟩)) rfl hJ ?_
 refine wx 89 165 (.pointer (some ⟨h, 5, none⟩)) rfl hJ ?_
 refine wx 90 166 (.slice ut q.ps.length ct) rfl hJ ?_ (hy := fun V hV => by (obtain ⟨q5, q7, q8, -⟩ := LK.out V hV; go_simp))
 refine wx 91 167 (.int .i64 (q.ps.length : Nat)) rfl hJ ?_
 as_aux_lemma =>
 refine wr1 81 rfl (fun K hK => ?_)
 go_simp
 go_at_call 39
 refine (lkC (yqn (BB.out.keep K22.out).ks)).mono ?_
 rintro e w23 ⟨rfl, p⟩
 have K23 := iH (K22.out.trans p (by simp))
 clear p hJ
 go_wp2_with fail
 refine hK.out _ _ K23.out (fun hJ => ?_)
 clear hK K
 refine wr1 82 rfl (fun K hK => ?_)
 go_simp
 go_at_call 73
 refine (ktlen_any (BB.out.keep K23.out).ks).mono ?_
 rintro e w24 ⟨rfl, p⟩
 have K24 := iH (K23.out.trans p (by simp))
 clear p hJ
 go_wp2_with fail
 refine hK.out _ _ K24.out (fun hJ => ?_)
 clear hK K
 refine wx 92 168 (.bool true) rfl hJ ?_
 refine wx 93 169 (.bool true) rfl hJ ?_
 refine wx 94 2 (.bool true) rfl hJ ?_
 refine wd ?_
 clear hJ
 go_wp2
 go_ret
 exact ⟨rfl, K24.out⟩
end Go.Proofs.YticiofkiffgclaaGreat
