/-
 Sod, Soe, Sof in one text.
-/
import Derived.Test.YticiofkiffgclaaGreatQu0
import Derived.Test.YticiofkiffgclaaGreatQu11
import Derived.WalkArith
import Derived.Deep.DeepCutAuto
set_option linter.unusedVariables false
set_option maxHeartbeats 16000000
set_option maxRecDepth 100000
namespace Go.Proofs.YticiofkiffgclaaGreat
open Go.Shelf Go.RowKit Go.Lib Go.Sort
theorem half (i j : Nat) (h : i < j) (hj : j < 4611686018427387904) : ∃ h : Nat, i <= h /\ h < j /\ ((i : Int) + (j : Int)) % 18446744073709551616 = (i : Int) + (j : Int) /\ ((i : Int) + (j : Int)) / 2 = (h : Int) :=
 ⟨(i + j) / 2, by omega, by omega, by omega, by omega⟩
theorem yqA {β : Type} {c : β -> β -> Bool} (T : Tot c) {P R : List β} {y : β} (h : Srt c (P ++ y :: R)) : (∀ z ∈ P ++ [y], c z y = true) /\ ∀ z ∈ y :: R, c y z = true := by
 obtain ⟨_, h2, h3⟩ := List.pairwise_append.1 h
 refine ⟨fun z hz => ?_, fun z hz => ?_⟩
 ·rcases List.mem_append.1 hz with hz | hz
  ·exact h3 z hz y (by simp)
  simp only [List.mem_singleton] at hz
  subst hz; exact T.refl _
 rcases List.mem_cons.1 hz with rfl | hz
 ·exact T.refl _
 exact (List.pairwise_cons.1 h2).1 z hz
theorem srt_front {β : Type} {c : β -> β -> Bool} (T : Tot c) {x : β} {Y1 Y2 : List β} (h : Srt c (Y1 ++ Y2)) (h1 : ∀ y ∈ Y1, c x y = false) (h2 : ∀ y ∈ Y2, c x y = true) : srt c ([x] ++ (Y1 ++ Y2)) = Y1 ++ x :: Y2 := by
 obtain ⟨s1, s2, s3⟩ := List.pairwise_append.1 h
 refine (srt_is T ?_ ?_).symm
 ·refine List.pairwise_append.2 ⟨s1, List.pairwise_cons.2 ⟨h2, s2⟩, fun a ha b hb => ?_⟩
  rcases List.mem_cons.1 hb with rfl | hb
  ·exact (T.total a b).resolve_right (by rw [h1 a ha]; simp)
  exact s3 a ha b hb
 have sw : Stab c ([x] ++ Y1) (Y1 ++ [x]) := Stab.swap T (fun u hu y hy => by
  simp only [List.mem_singleton] at hu
  subst hu
  simp [eqv, h1 y hy])
 have := sw.append (Stab.refl c Y2)
 simpa only [List.append_assoc, List.singleton_append, List.cons_append, List.nil_append] using this
theorem srt_back {β : Type} {c : β -> β -> Bool} (T : Tot c) {y : β} {X1 X2 : List β} (h : Srt c (X1 ++ X2)) (h1 : ∀ x ∈ X1, c x y = true) (h2 : ∀ x ∈ X2, c x y = false) : srt c ((X1 ++ X2) ++ [y]) = X1 ++ y :: X2 := by
 obtain ⟨s1, s2⟩ := insert_at T h h1 h2
 exact (srt_is T s1 s2).symm
variable {P : Program} {α : Type} [Inhabited α] {k : Nat} {enc : α -> List Value} {w0 : World} {blk off : Nat} {d0 : Array α}
theorem sym_front (L : SL P k) (R : RowK enc k w0 blk off d0) {c : α -> α -> Bool} (T : Tot c) {cf : α -> α -> Int} (hcf : ∀ x y, cf x y < 0 ↔ c y x = false) (g : Nat) (cb : Array Value) (eg : ∀ args w, (callFunc g args).run P w = .ok (.enter g args) w) (hcmp : CmpLays P g cb enc k cf blk off d0.size w0)
 (cap : Nat) (A : List α) (x : α) (Y B : List α) (d : Array α) (w : World) (hd : d.toList = A ++ [x] ++ Y ++ B) (hs : d.size = d0.size) (S : SWK enc k w0 blk off d w) (hsz : d.size < 4611686018427387904) (hY : Srt c Y)
 (sz a m b : Nat) (hz : sz = d.size) (ha : a = A.length) (hm : m = a + 1) (hb : b = m + Y.length) :
 Calls P 186 #[.slice (some ⟨blk, off, none⟩) sz cap, .int .i64 a, .int .i64 m, .int .i64 b, .func (.func g) #[] cb] w fun e w' => e = .returned (.tuple #[]) /\ ∃ d' : Array α, d'.toList = A ++ srt c ([x] ++ Y) ++ B /\ SWK enc k w0 blk off d' w' := by
 have mixed := L.mixed; have t0 := L.t0; have a0 := L.a0; have z0 := L.z0; have v0 := L.v0; have t3 := L.t3; have a3 := L.a3; have z3 := L.z3; have v3 := L.v3; have t4 := L.t4; have a4 := L.a4; have z4 := L.z4; have v4 := L.v4; have t5 := L.t5; have a5 := L.a5; have z5 := L.z5; have v5 := L.v5; have t6 := L.t6; have a6 := L.a6; have z6 := L.z6; have v6 := L.v6; have t7 := L.t7; have a7 := L.a7; have z7 := L.z7; have v7 := L.v7; have aE := L.aE; have zE := L.zE
 have u6 := run_underlying L.t6; have u5 := run_underlying L.t5; have u3 := run_underlying L.t3
 have S0 : Aside (SWK enc k w0 blk off d w) := S
 have HC : Aside _ := hcmp
 have HD : Hid (d.toList = A ++ [x] ++ Y ++ B) := iH hd
 have HS : Hid (d.size = d0.size /\ sz = d.size) := iH ⟨hs, hz⟩
 have hfit : b <= sz := by
  have := congrArg List.length hd
  simp at this
  omega
 have HN : Hid (a = A.length /\ b = m + Y.length /\ m = a + 1) := iH ⟨ha, hb, hm⟩
 have hszi : sz < 4611686018427387904 := by omega
 have hmb : m <= b := by omega
 have hm1 : (m : Int) - (a : Int) = 1 := by omega
 have ham : a < m := by omega
 have HT : Hid (Tot c) := iH T
 have HY : Hid (Srt c Y) := iH hY
 have HCF : Hid (∀ x y, cf x y < 0 ↔ c y x = false) := iH hcf
 clear S hcmp hd hs hz ha hb hm hsz hY hcf T
 go_enter L.fm, Tryz.ntmps186
 go_wp2
 go_loopg [10, 11, 12] (b - m) (fun kx s10 s11 _ wr => ∃ (i j : Nat), s10 = .int .i64 i /\ s11 = .int .i64 j /\ m <= i /\ i <= j /\ j <= b /\ j - i <= kx /\ Aside (SWK enc k w0 blk off d wr) /\ Hid ((∀ y ∈ Y.take (i - m), c x y = false) /\ ∀ y ∈ Y.drop (j - m), c x y = true))
 case atStart => exact ⟨m, b, rfl, rfl, by omega, by omega, by omega, by omega, S0, by simp, by have := HN.out; rw [List.drop_of_length_le (by omega)]; simp⟩
 case round =>
  clear S0
  obtain ⟨i, j, rfl, rfl, hmi, hij, hjb, hkx, S1, HL⟩ := hrel
  by_cases hlt : i < j
  ·have x1 : (i : Int) < (j : Int) := by omega
   obtain ⟨h, hk1, hk2, e2, e3⟩ := half i j hlt (by omega)
   have E := iH (And.intro e2 e3)
   clear e2 e3
   obtain ⟨Y1, Y2, y, hYy, lY, -⟩ := mid_split Y (i := h - m) (by have := HN.out; omega)
   have q1 : d.toList = (A ++ [x] ++ Y1) ++ y :: (Y2 ++ B) := by rw [HD.out, hYy]; simp
   have q0 : d.toList = A ++ x :: (Y ++ B) := by rw [HD.out]; simp
   obtain ⟨ih, eh⟩ := xqD (i := h) q1 (by have := HN.out; simp; omega)
   obtain ⟨ia, ea0⟩ := xqD (i := a) q0 (by have := HN.out; omega)
   obtain ⟨sp1, sp2⟩ := yqA HT.out (P := Y1) (y := y) (R := Y2) (by rw [<- hYy]; exact HY.out)
   have eh1 : ((h : Int)).toNat = h := by omega
   have ph : (0 : Int) <= (h : Int) := by omega
   have bh : (h : Int) < (sz : Int) := by omega
   have rh : IntKind.i64.wrap ((h : Int)) = (h : Int) := by rw [IntKind.wrap_i64]; omega
   have ea1 : ((a : Int)).toNat = a := by omega
   have pa : (0 : Int) <= (a : Int) := by omega
   have ba : (a : Int) < (sz : Int) := by omega
   have ra : IntKind.i64.wrap ((a : Int)) = (a : Int) := by rw [IntKind.wrap_i64]; omega
   have lh := S1.out.ld R HS.out.1 P h ih
   have la := S1.out.ld R HS.out.1 P a ia
   rw [eh] at lh
   rw [ea0] at la
   have hc := S1.out.cmp HC.out HS.out.1 y x
   have tk : Y.take (h + 1 - m) = Y1 ++ [y] := by
    rw [hYy, show Y1 ++ y :: Y2 = (Y1 ++ [y]) ++ Y2 by simp]
    exact List.take_left' (by simp; omega)
   have dp : Y.drop (h - m) = y :: Y2 := by
    rw [hYy, <- lY]; simp
   by_cases hv : c x y = false
   ·have hv1 : cf y x < 0 := (HCF.out y x).2 hv
    have hd1 : decide (cf y x < 0) = true := decide_eq_true hv1
    have HR : Hid ((∀ y ∈ Y.take (h + 1 - m), c x y = false) /\ ∀ y ∈ Y.drop (j - m), c x y = true) := iH ⟨by
     rw [tk]
     intro z hz
     cases hxz : c x z with
     | false => rfl
     | true => rw [HT.out.trans x z y hxz (sp1 z hz)] at hv; simp at hv, HL.out.2⟩
    clear HL hv tk dp sp1 sp2 q0 q1 eh ea0 hYy lY ih ia
    obtain ⟨e2, e3⟩ := E.out
    go_wp2_with fail
    go_quiet_grown (first | (go_at_fn g; refine Calls.grown_of (hc _ _)))
    have S2 : Aside (SWK enc k w0 blk off d (grow (wr.drewN nq) osq)) := S1.out.grown nq osq
    clear lh la hc S1
    generalize grow (wr.drewN nq) osq = w2 at S2 ⊢
    go_wp2
    go_roundg (j - (h + 1))
    case measure => omega
    case rel => exact ⟨h + 1, j, by go_num, rfl, by omega, by omega, hjb, Nat.le_refl _, S2, HR⟩
   have hv1 : ¬ cf y x < 0 := fun hn => hv ((HCF.out y x).1 hn)
   have hd1 : decide (cf y x < 0) = false := decide_eq_false hv1
   have HR : Hid ((∀ y ∈ Y.take (i - m), c x y = false) /\ ∀ y ∈ Y.drop (h - m), c x y = true) := iH ⟨HL.out.1, by
    rw [dp]
    intro z hz
    exact HT.out.trans x y z (by simpa using hv) (sp2 z hz)⟩
   clear HL hv tk dp sp1 sp2 q0 q1 eh ea0 hYy lY ih ia
   obtain ⟨e2, e3⟩ := E.out
   go_wp2_with fail
   go_quiet_grown (first | (go_at_fn g; refine Calls.grown_of (hc _ _)))
   have S2 : Aside (SWK enc k w0 blk off d (grow (wr.drewN nq) osq)) := S1.out.grown nq osq
   clear lh la hc S1
   generalize grow (wr.drewN nq) osq = w2 at S2 ⊢
   go_wp2
   go_roundg (h - i)
   case measure => omega
   case rel => exact ⟨i, h, rfl, rfl, hmi, by omega, by omega, Nat.le_refl _, S2, HR⟩
  have x1 : ¬ (i : Int) < (j : Int) := by omega
  obtain rfl : i = j := by omega
  obtain ⟨Y1, Y2, hYe, l1, l2⟩ := yqL Y (i - m) (by have := HN.out; omega)
  have HE : Hid (Y = Y1 ++ Y2 /\ Y1.length = i - m /\ srt c ([x] ++ Y) = Y1 ++ x :: Y2) := iH ⟨hYe, l1, by
   obtain ⟨f1, f2⟩ := HL.out
   rw [hYe, <- l1, List.take_left] at f1
   rw [hYe, <- l1, List.drop_left] at f2
   rw [hYe]
   exact srt_front HT.out (by rw [<- hYe]; exact HY.out) f1 f2⟩
  clear HL hYe l1 l2
  go_wp2
  go_loopg [13] (i - a) (fun kx s13 wr2 => ∃ (q : Nat) (dk : Array α), s13 = .int .i64 q /\ a <= q /\ q + 1 <= i /\ i - q <= kx /\ dk.size = d0.size /\ Aside (SWK enc k w0 blk off dk wr2) /\ Hid (∃ U V, Y1 = U ++ V /\ U.length = q - a /\ dk.toList = A ++ U ++ x :: (V ++ Y2) ++ B))
  case atStart => exact ⟨a, d, rfl, by omega, by omega, by omega, HS.out.1, S1, [], Y1, rfl, by simp, by rw [HD.out, HE.out.1]; simp⟩
  case round =>
  clear S1
  obtain ⟨q, dk, rfl, haq, hqi, hkx2, hds, S1, HL⟩ := hrel
  by_cases hql : q + 1 < i
  ·have x2 : (q : Int) < (i : Int) - 1 := by omega
   obtain ⟨y, V1, V3, q0, q1, HR⟩ : ∃ y V1 V3, dk.toList = V1 ++ x :: ([] ++ y :: V3) /\ q = V1.length /\ Hid (∃ U V, Y1 = U ++ V /\ U.length = q + 1 - a /\ V1 ++ y :: ([] ++ x :: V3) = A ++ U ++ x :: (V ++ Y2) ++ B) := by
    obtain ⟨U, V, e1, e2, e3⟩ := HL.out
    obtain ⟨h1, h2, h3⟩ := HE.out
    obtain ⟨n1, n2, n3⟩ := HN.out
    cases V with
    | nil => rw [e1] at h2; simp at h2; omega
    | cons y V => exact ⟨y, A ++ U, V ++ Y2 ++ B, by rw [e3]; simp, by simp; omega, iH ⟨U ++ [y], V, by rw [e1]; simp, by simp; omega, by simp⟩⟩
   have T1 := swp_list (i := q) (j := q + 1) q0 q1 (by simp; omega)
   obtain ⟨i1, e1⟩ := xqD q0 q1
   obtain ⟨i2, e2⟩ := xqD (P := V1 ++ [x]) (R := V3) (x := y) (i := q + 1) (by rw [q0]; simp) (by simp; omega)
   have HR2 : Hid (∃ U V, Y1 = U ++ V /\ U.length = q + 1 - a /\ (swp dk q (q + 1)).toList = A ++ U ++ x :: (V ++ Y2) ++ B) := iH (by rw [T1]; exact HR.out)
   have ea : ((q : Int)).toNat = q := by omega
   have pa : (0 : Int) <= (q : Int) := by omega
   have ba : (q : Int) < (sz : Int) := by omega
   have ra : IntKind.i64.wrap ((q : Int)) = (q : Int) := by rw [IntKind.wrap_i64]; omega
   have ec : ((q : Int) + 1).toNat = q + 1 := by omega
   have pc : (0 : Int) <= (q : Int) + 1 := by omega
   have bc : (q : Int) + 1 < (sz : Int) := by omega
   have rc : IntKind.i64.wrap ((q : Int) + 1) = (q : Int) + 1 := by rw [IntKind.wrap_i64]; omega
   have S2 : Aside (SWK enc k w0 blk off (swp dk q (q + 1)) ((wr.drew.setCells blk (off + q * k) (enc y)).setCells blk (off + (q + 1) * k) (enc x))) := by
    have := S1.out.swapped R q (q + 1) i1 i2
    rwa [e1, e2] at this
   have la := S1.out.ld1 R hds P q i1
   have lb := S1.out.ld1 R hds P (q + 1) i2
   have sa := S1.out.st1 R hds P q i1 y
   have sb := S1.out.st2 R hds P q (q + 1) i1 i2 y x
   have na : (enc x).length = k := R.hk _
   have nb : (enc y).length = k := R.hk _
   rw [e1] at la
   rw [e2] at lb
   generalize enc x = cI at S2 la sb na
   generalize enc y = cJ at S2 lb sa sb nb
   clear S1 HL q0 q1 T1 e1 e2 i1 i2 HR
   go_wp2_with fail
   go_big_region_o
   clear la lb sa sb
   generalize (wr.drew.setCells blk (off + q * k) cJ).setCells blk (off + (q + 1) * k) cI = w2 at S2 ⊢
   go_wp2
   go_roundg (i - (q + 1))
   case measure => omega
   case rel => exact ⟨q + 1, _, by go_num, by omega, by omega, Nat.le_refl _, by rw [size_swp]; exact hds, S2, HR2⟩
  have x2 : ¬ (q : Int) < (i : Int) - 1 := by omega
  go_wp2
  (try simp only [Exit.inBlock, Exit.then])
  refine bodyPost_ret (results_none rfl _ _ _) rfl ?_
  obtain ⟨U, V, e1, e2, e3⟩ := HL.out
  obtain ⟨h1, h2, h3⟩ := HE.out
  obtain ⟨n1, n2, n3⟩ := HN.out
  have : V = [] := List.eq_nil_of_length_eq_zero (by rw [e1] at h2; simp at h2; omega)
  subst this
  refine ⟨rfl, dk, ?_, S1.out⟩
  rw [e3, show srt c (x :: Y) = Y1 ++ x :: Y2 from h3, e1]
  simp
variable {P : Program} {α : Type} [Inhabited α] {k : Nat} {enc : α -> List Value} {w0 : World} {blk off : Nat} {d0 : Array α}
theorem sym_back (L : SL P k) (R : RowK enc k w0 blk off d0) {c : α -> α -> Bool} (T : Tot c) {cf : α -> α -> Int} (hcf : ∀ x y, cf x y < 0 ↔ c y x = false) (g : Nat) (cb : Array Value) (eg : ∀ args w, (callFunc g args).run P w = .ok (.enter g args) w) (hcmp : CmpLays P g cb enc k cf blk off d0.size w0)
 (cap : Nat) (A : List α) (X : List α) (y : α) (B : List α) (d : Array α) (w : World) (hd : d.toList = A ++ X ++ [y] ++ B) (hs : d.size = d0.size) (S : SWK enc k w0 blk off d w) (hsz : d.size < 4611686018427387904) (hX : Srt c X) (hX1 : X.length ≠ 1)
 (sz a m b : Nat) (hz : sz = d.size) (ha : a = A.length) (hm : m = a + X.length) (hb : b = m + 1) :
 Calls P 186 #[.slice (some ⟨blk, off, none⟩) sz cap, .int .i64 a, .int .i64 m, .int .i64 b, .func (.func g) #[] cb] w fun e w' => e = .returned (.tuple #[]) /\ ∃ d' : Array α, d'.toList = A ++ srt c (X ++ [y]) ++ B /\ SWK enc k w0 blk off d' w' := by
 have mixed := L.mixed; have t0 := L.t0; have a0 := L.a0; have z0 := L.z0; have v0 := L.v0; have t3 := L.t3; have a3 := L.a3; have z3 := L.z3; have v3 := L.v3; have t4 := L.t4; have a4 := L.a4; have z4 := L.z4; have v4 := L.v4; have t5 := L.t5; have a5 := L.a5; have z5 := L.z5; have v5 := L.v5; have t6 := L.t6; have a6 := L.a6; have z6 := L.z6; have v6 := L.v6; have t7 := L.t7; have a7 := L.a7; have z7 := L.z7; have v7 := L.v7; have aE := L.aE; have zE := L.zE
 have u6 := run_underlying L.t6; have u5 := run_underlying L.t5; have u3 := run_underlying L.t3
 have S0 : Aside (SWK enc k w0 blk off d w) := S
 have HC : Aside _ := hcmp
 have HD : Hid (d.toList = A ++ X ++ [y] ++ B) := iH hd
 have HS : Hid (d.size = d0.size /\ sz = d.size) := iH ⟨hs, hz⟩
 have hfit : b <= sz := by
  have := congrArg List.length hd
  simp at this
  omega
 have HN : Hid (a = A.length /\ b = m + 1 /\ m = a + X.length) := iH ⟨ha, hb, hm⟩
 have hszi : sz < 4611686018427387904 := by omega
 have hmb : a <= m := by omega
 have hbm : m < b := by omega
 have hm1 : ((m : Int) - (a : Int) == 1) = false := beq_eq_false_iff_ne.2 (by omega)
 have hm2 : (b : Int) - (m : Int) = 1 := by omega
 have HT : Hid (Tot c) := iH T
 have HX : Hid (Srt c X) := iH hX
 have HCF : Hid (∀ x y, cf x y < 0 ↔ c y x = false) := iH hcf
 clear S hcmp hd hs hz ha hb hm hsz hX hX1 hcf T
 go_enter L.fm, Tryz.ntmps186
 go_wp2
 go_loopg [14, 15, 16] (m - a) (fun kx s10 s11 _ wr => ∃ (i j : Nat), s10 = .int .i64 i /\ s11 = .int .i64 j /\ a <= i /\ i <= j /\ j <= m /\ j - i <= kx /\ Aside (SWK enc k w0 blk off d wr) /\ Hid ((∀ x ∈ X.take (i - a), c x y = true) /\ ∀ x ∈ X.drop (j - a), c x y = false))
 case atStart => exact ⟨a, m, rfl, rfl, by omega, by omega, by omega, by omega, S0, by simp, by have := HN.out; rw [List.drop_of_length_le (by omega)]; simp⟩
 case round =>
  clear S0
  obtain ⟨i, j, rfl, rfl, hmi, hij, hjb, hkx, S1, HL⟩ := hrel
  by_cases hlt : i < j
  ·have x1 : (i : Int) < (j : Int) := by omega
   obtain ⟨h, hk1, hk2, e2, e3⟩ := half i j hlt (by omega)
   have E := iH (And.intro e2 e3)
   clear e2 e3
   obtain ⟨X1, X2, x, hXx, lX, -⟩ := mid_split X (i := h - a) (by have := HN.out; omega)
   have q1 : d.toList = (A ++ X1) ++ x :: (X2 ++ [y] ++ B) := by rw [HD.out, hXx]; simp
   have q0 : d.toList = (A ++ X) ++ y :: B := by rw [HD.out]; simp
   obtain ⟨ih, eh⟩ := xqD (i := h) q1 (by have := HN.out; simp; omega)
   obtain ⟨ia, ea0⟩ := xqD (i := m) q0 (by have := HN.out; simp; omega)
   obtain ⟨sp1, sp2⟩ := yqA HT.out (P := X1) (y := x) (R := X2) (by rw [<- hXx]; exact HX.out)
   have eh1 : ((h : Int)).toNat = h := by omega
   have ph : (0 : Int) <= (h : Int) := by omega
   have bh : (h : Int) < (sz : Int) := by omega
   have rh : IntKind.i64.wrap ((h : Int)) = (h : Int) := by rw [IntKind.wrap_i64]; omega
   have ea1 : ((m : Int)).toNat = m := by omega
   have pa : (0 : Int) <= (m : Int) := by omega
   have ba : (m : Int) < (sz : Int) := by omega
   have ra : IntKind.i64.wrap ((m : Int)) = (m : Int) := by rw [IntKind.wrap_i64]; omega
   have lh := S1.out.ld R HS.out.1 P h ih
   have la := S1.out.ld R HS.out.1 P m ia
   rw [eh] at lh
   rw [ea0] at la
   have hc := S1.out.cmp HC.out HS.out.1 y x
   have tk : X.take (h + 1 - a) = X1 ++ [x] := by
    rw [hXx, show X1 ++ x :: X2 = (X1 ++ [x]) ++ X2 by simp]
    exact List.take_left' (by simp; omega)
   have dp : X.drop (h - a) = x :: X2 := by
    rw [hXx, <- lX]; simp
   by_cases hv : c x y = false
   ·have hv1 : cf y x < 0 := (HCF.out y x).2 hv
    have hd1 : decide (cf y x < 0) = true := decide_eq_true hv1
    have HR : Hid ((∀ x ∈ X.take (i - a), c x y = true) /\ ∀ x ∈ X.drop (h - a), c x y = false) := iH ⟨HL.out.1, by
     rw [dp]
     intro z hz
     cases hxz : c z y with
     | false => rfl
     | true => rw [HT.out.trans x z y (sp2 z hz) hxz] at hv; simp at hv⟩
    clear HL hv tk dp sp1 sp2 q0 q1 eh ea0 hXx lX ih ia
    obtain ⟨e2, e3⟩ := E.out
    go_wp2_with fail
    go_quiet_grown (first | (go_at_fn g; refine Calls.grown_of (hc _ _)))
    have S2 : Aside (SWK enc k w0 blk off d (grow (wr.drewN nq) osq)) := S1.out.grown nq osq
    clear lh la hc S1
    generalize grow (wr.drewN nq) osq = w2 at S2 ⊢
    go_wp2
    go_roundg (h - i)
    case measure => omega
    case rel => exact ⟨i, h, rfl, rfl, hmi, by omega, by omega, Nat.le_refl _, S2, HR⟩
   have hv1 : ¬ cf y x < 0 := fun hn => hv ((HCF.out y x).1 hn)
   have hd1 : decide (cf y x < 0) = false := decide_eq_false hv1
   have HR : Hid ((∀ x ∈ X.take (h + 1 - a), c x y = true) /\ ∀ x ∈ X.drop (j - a), c x y = false) := iH ⟨by
    rw [tk]
    intro z hz
    exact HT.out.trans z x y (sp1 z hz) (by simpa using hv), HL.out.2⟩
   clear HL hv tk dp sp1 sp2 q0 q1 eh ea0 hXx lX ih ia
   obtain ⟨e2, e3⟩ := E.out
   go_wp2_with fail
   go_quiet_grown (first | (go_at_fn g; refine Calls.grown_of (hc _ _)))
   have S2 : Aside (SWK enc k w0 blk off d (grow (wr.drewN nq) osq)) := S1.out.grown nq osq
   clear lh la hc S1
   generalize grow (wr.drewN nq) osq = w2 at S2 ⊢
   go_wp2
   go_roundg (j - (h + 1))
   case measure => omega
   case rel => exact ⟨h + 1, j, by go_num, rfl, by omega, by omega, hjb, Nat.le_refl _, S2, HR⟩
  have x1 : ¬ (i : Int) < (j : Int) := by omega
  obtain rfl : i = j := by omega
  obtain ⟨X1, X2, hXe, l1, l2⟩ := yqL X (i - a) (by have := HN.out; omega)
  have HE : Hid (X = X1 ++ X2 /\ X1.length = i - a /\ srt c (X ++ [y]) = X1 ++ y :: X2) := iH ⟨hXe, l1, by
   obtain ⟨f1, f2⟩ := HL.out
   rw [hXe, <- l1, List.take_left] at f1
   rw [hXe, <- l1, List.drop_left] at f2
   rw [hXe]
   exact srt_back HT.out (by rw [<- hXe]; exact HX.out) f1 f2⟩
  clear HL hXe l1 l2
  go_wp2
  go_loopg [17] (m - i) (fun kx s13 wr2 => ∃ (q : Nat) (dk : Array α), s13 = .int .i64 q /\ i <= q /\ q <= m /\ q - i <= kx /\ dk.size = d0.size /\ Aside (SWK enc k w0 blk off dk wr2) /\ Hid (∃ U V, X2 = U ++ V /\ U.length = q - i /\ dk.toList = A ++ X1 ++ U ++ y :: V ++ B))
  case atStart => exact ⟨m, d, rfl, by omega, by omega, by omega, HS.out.1, S1, X2, [], by simp, by
   obtain ⟨h1, h2, h3⟩ := HE.out
   obtain ⟨n1, n2, n3⟩ := HN.out
   rw [h1] at n3; simp at n3; omega, by rw [HD.out, HE.out.1]; simp⟩
  case round =>
  clear S1
  obtain ⟨q, dk, rfl, haq, hqi, hkx2, hds, S1, HL⟩ := hrel
  by_cases hql : i < q
  ·have x2 : (i : Int) < (q : Int) := by omega
   obtain ⟨p, rfl⟩ : ∃ p, q = p + 1 := ⟨q - 1, by omega⟩
   obtain ⟨u, V1, V3, q0, q1, HR⟩ : ∃ u V1 V3, dk.toList = V1 ++ u :: ([] ++ y :: V3) /\ p = V1.length /\ Hid (∃ U V, X2 = U ++ V /\ U.length = p - i /\ V1 ++ y :: ([] ++ u :: V3) = A ++ X1 ++ U ++ y :: V ++ B) := by
    obtain ⟨U, V, e1, e2, e3⟩ := HL.out
    obtain ⟨h1, h2, h3⟩ := HE.out
    obtain ⟨n1, n2, n3⟩ := HN.out
    rcases List.eq_nil_or_concat U with rfl | ⟨U, u, rfl⟩
    ·simp at e2; omega
    simp at e2
    exact ⟨u, A ++ X1 ++ U, V ++ B, by rw [e3]; simp, by simp; omega, iH ⟨U, u :: V, by rw [e1]; simp, by omega, by simp⟩⟩
   have T1 := swp_list' (i := p) (j := p + 1) q0 q1 (by simp; omega)
   obtain ⟨i1, e1⟩ := xqD q0 q1
   obtain ⟨i2, e2⟩ := xqD (P := V1 ++ [u]) (R := V3) (x := y) (i := p + 1) (by rw [q0]; simp) (by simp; omega)
   have HR2 : Hid (∃ U V, X2 = U ++ V /\ U.length = p - i /\ (swp dk (p + 1) p).toList = A ++ X1 ++ U ++ y :: V ++ B) := iH (by rw [T1]; exact HR.out)
   have ea : ((p : Int)).toNat = p := by omega
   have pa : (0 : Int) <= (p : Int) := by omega
   have ba : (p : Int) < (sz : Int) := by omega
   have ra : IntKind.i64.wrap ((p : Int)) = (p : Int) := by rw [IntKind.wrap_i64]; omega
   have ec : ((p : Int) + 1).toNat = p + 1 := by omega
   have pc : (0 : Int) <= (p : Int) + 1 := by omega
   have bc : (p : Int) + 1 < (sz : Int) := by omega
   have rc : IntKind.i64.wrap ((p : Int) + 1) = (p : Int) + 1 := by rw [IntKind.wrap_i64]; omega
   have S2 : Aside (SWK enc k w0 blk off (swp dk (p + 1) p) ((wr.drew.setCells blk (off + (p + 1) * k) (enc u)).setCells blk (off + p * k) (enc y))) := by
    have := S1.out.swapped R (p + 1) p i2 i1
    rwa [e1, e2] at this
   have la := S1.out.ld1 R hds P p i1
   have lb := S1.out.ld1 R hds P (p + 1) i2
   have sa := S1.out.st1 R hds P (p + 1) i2 u
   have sb := S1.out.st2 R hds P (p + 1) p i2 i1 u y
   have na : (enc u).length = k := R.hk _
   have nb : (enc y).length = k := R.hk _
   rw [e1] at la
   rw [e2] at lb
   generalize enc u = cI at S2 la sa sb na
   generalize enc y = cJ at S2 lb sb nb
   clear S1 HL q0 q1 T1 e1 e2 i1 i2 HR
   go_wp2_with fail
   go_big_region_o
   clear la lb sa sb
   generalize (wr.drew.setCells blk (off + (p + 1) * k) cI).setCells blk (off + p * k) cJ = w2 at S2 ⊢
   go_wp2
   go_roundg (p - i)
   case measure => omega
   case rel => exact ⟨p, _, by go_num, by omega, by omega, Nat.le_refl _, by rw [size_swp]; exact hds, S2, HR2⟩
  have x2 : ¬ (i : Int) < (q : Int) := by omega
  go_wp2
  (try simp only [Exit.inBlock, Exit.then])
  refine bodyPost_ret (results_none rfl _ _ _) rfl ?_
  obtain ⟨U, V, e1, e2, e3⟩ := HL.out
  obtain ⟨h1, h2, h3⟩ := HE.out
  have : U = [] := List.eq_nil_of_length_eq_zero (by omega)
  subst this
  refine ⟨rfl, dk, ?_, S1.out⟩
  rw [e3, h3, e1]
  simp
section
variable {α : Type} [Inhabited α]
theorem sym_split {c : α -> α -> Bool} (T : Tot c) {A X Y B : List α} {d : Array α} (hd : d.toList = A ++ X ++ Y ++ B) (hX : Srt c X) (hY : Srt c Y) {a m b mid st : Nat} (ha : a = A.length) (hm : m = a + X.length) (hb : b = m + Y.length)
 (h1 : a <= st) (h2 : st <= m) (h3 : st <= mid) (h4 : mid + m <= b + st)
 (H1 : a < st -> mid + m - st < b -> c d[st - 1]! d[mid + m - st]! = true) (H2 : st < m -> st < mid -> c d[st]! d[mid + m - 1 - st]! = false) :
 ∃ P1 X1 Y1 S1, X = P1 ++ X1 /\ Y = Y1 ++ S1 /\ P1.length = st - a /\ X1.length = m - st /\ Y1.length = mid - st /\ S1.length = b + st - (mid + m) /\ (∀ x ∈ X1, ∀ y ∈ Y1, c x y = false) /\ ∀ p ∈ P1, ∀ s ∈ S1, c p s = true := by
 obtain ⟨P1, X1, eX, lP, lX⟩ := yqL X (st - a) (by omega)
 obtain ⟨Y1, S1, eY, lY, lS⟩ := yqL Y (mid - st) (by omega)
 refine ⟨P1, X1, Y1, S1, eX, eY, lP, by omega, lY, by omega, ?_, ?_⟩
 ·intro x hx y hy
  have hx0 : 0 < X1.length := List.length_pos_of_mem hx
  have hy0 : 0 < Y1.length := List.length_pos_of_mem hy
  have k := H2 (by omega) (by omega)
  cases X1 with
  | nil => simp at hx0
  | cons u X1 =>
  rcases List.eq_nil_or_concat Y1 with rfl | ⟨Y2, v, rfl⟩
  ·simp at hy0
  obtain ⟨_, e1⟩ := xqD (d := d) (P := A ++ P1) (R := X1 ++ Y ++ B) (x := u) (i := st) (by rw [hd, eX]; simp) (by simp; omega)
  obtain ⟨_, e2⟩ := xqD (d := d) (P := A ++ X ++ Y2) (R := S1 ++ B) (x := v) (i := mid + m - 1 - st) (by rw [hd, eY]; simp) (by simp at lY ⊢; omega)
  rw [e1, e2] at k
  rw [eX] at hX
  rw [eY] at hY
  have s1 := (List.pairwise_append.1 hX).2.1
  have s2 := (List.pairwise_append.1 hY).1
  have t1 := (yqA T (P := []) (y := u) (R := X1) s1).2 x hx
  have t2 := (yqA T (P := Y2) (y := v) (R := []) (by simpa [Srt] using s2)).1 y (by simpa using hy)
  cases hxy : c x y with
  | false => rfl
  | true => rw [T.trans u x v t1 (T.trans x y v hxy t2)] at k; simp at k
 ·intro p hp s hs
  have hp0 : 0 < P1.length := List.length_pos_of_mem hp
  have hs0 : 0 < S1.length := List.length_pos_of_mem hs
  have k := H1 (by omega) (by omega)
  cases S1 with
  | nil => simp at hs0
  | cons v S1 =>
  rcases List.eq_nil_or_concat P1 with rfl | ⟨P2, u, rfl⟩
  ·simp at hp0
  obtain ⟨_, e1⟩ := xqD (d := d) (P := A ++ P2) (R := X1 ++ Y ++ B) (x := u) (i := st - 1) (by rw [hd, eX]; simp) (by simp at lP ⊢; omega)
  obtain ⟨_, e2⟩ := xqD (d := d) (P := A ++ X ++ Y1) (R := S1 ++ B) (x := v) (i := mid + m - st) (by rw [hd, eY]; simp) (by simp; omega)
  rw [e1, e2] at k
  rw [eX] at hX
  rw [eY] at hY
  have s1 := (List.pairwise_append.1 hX).1
  have s2 := (List.pairwise_append.1 hY).2.1
  have t1 := (yqA T (P := P2) (y := u) (R := []) (by simpa [Srt] using s1)).1 p (by simpa using hp)
  have t2 := (yqA T (P := []) (y := v) (R := S1) s2).2 s hs
  exact T.trans p u s t1 (T.trans u v s k t2)
end
end Go.Proofs.YticiofkiffgclaaGreat
