/-
 Sog, Soh, SnA in one text.
-/
import Derived.Test.YticiofkiffgclaaGreatQu0
import Derived.Test.YticiofkiffgclaaGreatQu12
import Derived.Test.YticiofkiffgclaaGreatRows
import Derived.Deep.QuietTactic
import Derived.BigQuiet
import Derived.Laws.BitsAllLaws
set_option linter.unusedVariables false
set_option maxHeartbeats 16000000
set_option maxRecDepth 100000
namespace Go.Proofs.YticiofkiffgclaaGreat
open Go.Shelf Go.RowKit Go.Lib Go.Sort
variable {P : Program} {α : Type} [Inhabited α] {k : Nat} {enc : α -> List Value} {w0 : World} {blk off : Nat} {d0 : Array α}
def SymAt (P : Program) (enc : α -> List Value) (k : Nat) (w0 : World) (blk off : Nat) (d0 : Array α) (c : α -> α -> Bool) (g : Nat) (cb : Array Value) (cap N : Nat) : Prop :=
 ∀ (A X Y B : List α) (d : Array α) (w : World), X.length + Y.length <= N -> d.toList = A ++ X ++ Y ++ B -> d.size = d0.size -> SWK enc k w0 blk off d w -> d.size < 4611686018427387904 -> Srt c X -> Srt c Y -> 0 < X.length -> 0 < Y.length ->
  ∀ sz a m b : Nat, sz = d.size -> a = A.length -> m = a + X.length -> b = m + Y.length ->
  Calls P 186 #[.slice (some ⟨blk, off, none⟩) sz cap, .int .i64 a, .int .i64 m, .int .i64 b, .func (.func g) #[] cb] w fun e w' => e = .returned (.tuple #[]) /\ ∃ d' : Array α, d'.toList = A ++ srt c (X ++ Y) ++ B /\ SWK enc k w0 blk off d' w'
theorem yqd {β : Type} {d d' : Array β} (h : d'.toList.length = d.toList.length) : d'.size = d.size := by simpa using h
theorem sym_main (L : SL P k) (R : RowK enc k w0 blk off d0) {c : α -> α -> Bool} (T : Tot c) {cf : α -> α -> Int} (hcf : ∀ x y, cf x y < 0 ↔ c y x = false) (g : Nat) (cb : Array Value) (eg : ∀ args w, (callFunc g args).run P w = .ok (.enter g args) w) (hcmp : CmpLays P g cb enc k cf blk off d0.size w0)
 (cap N : Nat) (ih : SymAt P enc k w0 blk off d0 c g cb cap N) (A X Y B : List α) (d : Array α) (w : World) (hN : X.length + Y.length <= N + 1) (hd : d.toList = A ++ X ++ Y ++ B) (hs : d.size = d0.size) (S : SWK enc k w0 blk off d w) (hsz : d.size < 4611686018427387904) (hX : Srt c X) (hY : Srt c Y) (hX2 : 2 <= X.length) (hY2 : 2 <= Y.length)
 (sz a m b : Nat) (hz : sz = d.size) (ha : a = A.length) (hm : m = a + X.length) (hb : b = m + Y.length) :
 Calls P 186 #[.slice (some ⟨blk, off, none⟩) sz cap, .int .i64 a, .int .i64 m, .int .i64 b, .func (.func g) #[] cb] w fun e w' => e = .returned (.tuple #[]) /\ ∃ d' : Array α, d'.toList = A ++ srt c (X ++ Y) ++ B /\ SWK enc k w0 blk off d' w' := by
 have mixed := L.mixed; have t0 := L.t0; have a0 := L.a0; have z0 := L.z0; have v0 := L.v0; have t3 := L.t3; have a3 := L.a3; have z3 := L.z3; have v3 := L.v3; have t4 := L.t4; have a4 := L.a4; have z4 := L.z4; have v4 := L.v4; have t5 := L.t5; have a5 := L.a5; have z5 := L.z5; have v5 := L.v5; have t6 := L.t6; have a6 := L.a6; have z6 := L.z6; have v6 := L.v6; have t7 := L.t7; have a7 := L.a7; have z7 := L.z7; have v7 := L.v7; have aE := L.aE; have zE := L.zE
 have u6 := run_underlying L.t6; have u5 := run_underlying L.t5; have u3 := run_underlying L.t3
 have er : ∀ args w, (callFunc 212 args).run P w = .ok (.enter 212 args) w := enters_of L.fr (by kernel_rfl) rfl
 have es : ∀ args w, (callFunc 186 args).run P w = .ok (.enter 186 args) w := enters_of L.fm (by kernel_rfl) rfl
 have S0 : Aside (SWK enc k w0 blk off d w) := S
 have HC : Aside _ := hcmp
 have HD : Hid (d.toList = A ++ X ++ Y ++ B) := iH hd
 have HS : Hid (d.size = d0.size /\ sz = d.size) := iH ⟨hs, hz⟩
 have hfit : b <= sz := by
  have := congrArg List.length hd
  simp at this
  omega
 have HN : Hid (a = A.length /\ m = a + X.length /\ b = m + Y.length /\ X.length + Y.length <= N + 1) := iH ⟨ha, hm, hb, hN⟩
 have hszi : sz < 4611686018427387904 := by omega
 have ham : a + 2 <= m := by omega
 have hmb : m + 2 <= b := by omega
 have hm1 : ((m : Int) - (a : Int) == 1) = false := beq_eq_false_iff_ne.2 (by omega)
 have hm2 : ((b : Int) - (m : Int) == 1) = false := beq_eq_false_iff_ne.2 (by omega)
 have HT : Hid (Tot c) := iH T
 have HXY : Hid (Srt c X /\ Srt c Y) := iH ⟨hX, hY⟩
 have HCF : Hid (∀ x y, cf x y < 0 ↔ c y x = false) := iH hcf
 have IH : Aside (SymAt P enc k w0 blk off d0 c g cb cap N) := ih
 clear S hcmp hd hs hz ha hb hm hN hsz hX hY hX2 hY2 hcf T ih
 obtain ⟨mid, hmid1, hmid2, e2, e3⟩ := half a b (by omega) (by omega)
 have hmid3 : a < mid := by omega
 have hmid4 : 2 * mid <= a + b /\ a + b <= 2 * mid + 1 := by omega
 obtain ⟨hq1, hq2⟩ := hmid4
 go_enter L.fm, Tryz.ntmps186
 go_upto_if 140 with fail
 clear e2 e3
 go_cut [20, 21] (fun s20 s21 wx => ∃ st r : Nat, s20 = .int .i64 st /\ s21 = .int .i64 r /\ a <= st /\ st <= r /\ r <= m /\ r <= mid /\ mid + m <= b + st /\ (a < st -> ¬ mid + m - st < b) /\ (r < m -> ¬ r < mid) /\ w = wx)
 case first =>
  by_cases hmm : mid < m
  ·have x1 : (mid : Int) < (m : Int) := by omega
   go_wp2_with fail
   go_meet
   exact ⟨mid + m - b, mid, by go_num, rfl, by omega, by omega, by omega, by omega, by omega, by omega, by omega, rfl⟩
  have x1 : ¬ (mid : Int) < (m : Int) := by omega
  go_wp2_with fail
  go_meet
  exact ⟨a, m, rfl, rfl, by omega, by omega, by omega, by omega, by omega, by omega, by omega, rfl⟩
 case rest =>
  obtain ⟨st0, r0, rfl, rfl, f1, f2, f3, f4, f5, f6, f7, rfl⟩ := hcut
  have F67 := iH (And.intro f6 f7)
  clear f6 f7
  obtain ⟨p, hp⟩ : ∃ p, p = mid + m - 1 := ⟨_, rfl⟩
  have xp : (mid : Int) + (m : Int) - 1 = (p : Int) := by omega
  have hp1 : p + 1 <= mid + m := by omega
  have hp2 : mid + m <= p + 1 := by omega
  clear hp
  go_wp2
  go_loopg [20, 21, 23] (r0 - st0) (fun kx s20 s21 _ wr => ∃ (st r : Nat), s20 = .int .i64 st /\ s21 = .int .i64 r /\ a <= st /\ st <= r /\ r <= m /\ r <= mid /\ mid + m <= b + st /\ r - st <= kx /\ Aside (SWK enc k w0 blk off d wr) /\ Hid ((a < st -> mid + m - st < b -> c d[st - 1]! d[mid + m - st]! = true) /\ (r < m -> r < mid -> c d[r]! d[mid + m - 1 - r]! = false)))
  case atStart => exact ⟨st0, r0, rfl, rfl, by omega, by omega, by omega, by omega, by omega, by omega, S0, fun h h' => absurd h' (F67.out.1 h), fun h h' => absurd h' (F67.out.2 h)⟩
  case round =>
  clear S0 F67 f1 f2 f3 f4 f5
  obtain ⟨st, r, rfl, rfl, f1, f2, f3, f4, f5, hkx, S1, HL⟩ := hrel
  by_cases hlt : st < r
  ·have x1 : (st : Int) < (r : Int) := by omega
   obtain ⟨h, hk1, hk2, e2, e3⟩ := half st r hlt (by omega)
   have E := iH (And.intro e2 e3)
   clear e2 e3
   have ih1 : mid + m - 1 - h < d.size := by have := HS.out; omega
   have ih2 : h < d.size := by have := HS.out; omega
   have eh1 : ((h : Int)).toNat = h := by omega
   have ph : (0 : Int) <= (h : Int) := by omega
   have bh : (h : Int) < (sz : Int) := by omega
   have rh : IntKind.i64.wrap ((h : Int)) = (h : Int) := by rw [IntKind.wrap_i64]; omega
   obtain ⟨u, hu⟩ : ∃ u, u = mid + m - 1 - h := ⟨_, rfl⟩
   have xu : (p : Int) - (h : Int) = (u : Int) := by omega
   have eu1 : ((u : Int)).toNat = u := by omega
   have pu : (0 : Int) <= (u : Int) := by omega
   have bu : (u : Int) < (sz : Int) := by omega
   have ru : IntKind.i64.wrap ((u : Int)) = (u : Int) := by rw [IntKind.wrap_i64]; omega
   rw [<- hu] at ih1
   have la := S1.out.ld R HS.out.1 P u ih1
   have lh := S1.out.ld R HS.out.1 P h ih2
   obtain ⟨x, hx⟩ : ∃ x, x = d[u]! := ⟨_, rfl⟩
   obtain ⟨y, hy⟩ : ∃ y, y = d[h]! := ⟨_, rfl⟩
   rw [<- hx] at la
   rw [<- hy] at lh
   have hc := S1.out.cmp HC.out HS.out.1 x y
   by_cases hv : c y x = false
   ·have hv1 : cf x y < 0 := (HCF.out x y).2 hv
    have hd1 : decide (cf x y < 0) = true := decide_eq_true hv1
    have HR : Hid ((a < st -> mid + m - st < b -> c d[st - 1]! d[mid + m - st]! = true) /\ (h < m -> h < mid -> c d[h]! d[mid + m - 1 - h]! = false)) := iH ⟨HL.out.1, fun _ _ => by rw [<- hu, <- hx, <- hy]; exact hv⟩
    clear HL hv hx hy ih1 ih2 hu
    obtain ⟨e2, e3⟩ := E.out
    go_wp2_with fail
    go_quiet_grown (first | (go_at_fn g; refine Calls.grown_of (hc _ _)))
    have S2 : Aside (SWK enc k w0 blk off d (grow (wr.drewN nq) osq)) := S1.out.grown nq osq
    clear lh la hc S1
    generalize grow (wr.drewN nq) osq = w2 at S2 ⊢
    go_wp2
    go_roundg (h - st)
    case measure => omega
    case rel => exact ⟨st, h, rfl, rfl, by omega, by omega, by omega, by omega, by omega, Nat.le_refl _, S2, HR⟩
   have hv1 : ¬ cf x y < 0 := fun hn => hv ((HCF.out x y).1 hn)
   have hd1 : decide (cf x y < 0) = false := decide_eq_false hv1
   have HR : Hid ((a < h + 1 -> mid + m - (h + 1) < b -> c d[h + 1 - 1]! d[mid + m - (h + 1)]! = true) /\ (r < m -> r < mid -> c d[r]! d[mid + m - 1 - r]! = false)) := iH ⟨fun _ _ => by
    rw [Nat.add_sub_cancel, show mid + m - (h + 1) = u by omega, <- hx, <- hy]
    simpa using hv, HL.out.2⟩
   clear HL hv hx hy ih1 ih2 hu
   obtain ⟨e2, e3⟩ := E.out
   go_wp2_with fail
   go_quiet_grown (first | (go_at_fn g; refine Calls.grown_of (hc _ _)))
   have S2 : Aside (SWK enc k w0 blk off d (grow (wr.drewN nq) osq)) := S1.out.grown nq osq
   clear lh la hc S1
   generalize grow (wr.drewN nq) osq = w2 at S2 ⊢
   go_wp2
   go_roundg (r - (h + 1))
   case measure => omega
   case rel => exact ⟨h + 1, r, by go_num, rfl, by omega, by omega, by omega, by omega, by omega, Nat.le_refl _, S2, HR⟩
  have x1 : ¬ (st : Int) < (r : Int) := by omega
  obtain rfl : st = r := by omega
  obtain ⟨P1, X1, Y1, T1, eX, eY, lP, lX, lY, lT, g1, g2⟩ := sym_split HT.out HD.out HXY.out.1 HXY.out.2 HN.out.1 HN.out.2.1 HN.out.2.2.1 f1 f3 f4 f5 HL.out.1 HL.out.2
  obtain ⟨sX, sY⟩ := HXY.out
  rw [eX] at sX
  rw [eY] at sY
  have HG : Hid (srt c (X ++ Y) = srt c (P1 ++ Y1) ++ srt c (X1 ++ T1)) := iH (by rw [eX, eY]; exact srt_halves HT.out sX sY g1 g2)
  have HP : Hid (Srt c P1 /\ Srt c X1 /\ Srt c Y1 /\ Srt c T1) := iH ⟨(List.pairwise_append.1 sX).1, (List.pairwise_append.1 sX).2.1, (List.pairwise_append.1 sY).1, (List.pairwise_append.1 sY).2.1⟩
  obtain ⟨q, hq⟩ : ∃ q, q = mid + m - st := ⟨_, rfl⟩
  have xq : (mid : Int) + (m : Int) - (st : Int) = (q : Int) := by omega
  have HLn : Hid (P1.length + a = st /\ X1.length + st = m /\ Y1.length + st = mid /\ T1.length + q = b /\ q + st = mid + m /\ P1.length + X1.length + Y1.length + T1.length <= N + 1) := iH (by
   have h1 := congrArg List.length eX
   have h2 := congrArg List.length eY
   obtain ⟨_, _, _, h4⟩ := HN.out
   simp at h1 h2
   refine ⟨?_, ?_, ?_, ?_, ?_, ?_⟩ <;> omega)
  have HD2 : Hid (d.toList = A ++ P1 ++ X1 ++ Y1 ++ T1 ++ B) := iH (by rw [HD.out, eX, eY]; simp)
  have hqb : q <= b := by omega
  have hqm : m <= q := by omega
  clear HL eX eY lP lX lY lT g1 g2 sX sY hq f5 hkx
  go_upto_region 39 with fail
  go_cut [185] (fun sg wx => ∃ bb : Bool, sg = .bool bb /\ Hid (bb = true ↔ st < m /\ m < q) /\ wr = wx)
  case first => as_aux_lemma =>
   by_cases fx : st < m
   ·by_cases fy : m < q
    ·have i1 : (st : Int) < (m : Int) := by omega
     have i2 : (m : Int) < (q : Int) := by omega
     go_wp2_with fail
     go_meet
     exact ⟨true, rfl, iH ⟨fun _ => ⟨fx, fy⟩, fun _ => rfl⟩, rfl⟩
    have i1 : (st : Int) < (m : Int) := by omega
    have i2 : ¬ (m : Int) < (q : Int) := by omega
    go_wp2_with fail
    go_meet
    exact ⟨false, rfl, iH ⟨fun h => by simp at h, fun h => absurd h.2 fy⟩, rfl⟩
   have i1 : ¬ (st : Int) < (m : Int) := by omega
   go_wp2_with fail
   go_meet
   exact ⟨false, rfl, iH ⟨fun h => by simp at h, fun h => absurd h.1 fx⟩, rfl⟩
  case rest => as_aux_lemma =>
   obtain ⟨bb, rfl, hbb, rfl⟩ := hcut
   go_upto_if 185 with fail
   go_cut [] (fun wx => ∃ d1 : Array α, d1.toList = A ++ P1 ++ Y1 ++ X1 ++ T1 ++ B /\ d1.size = d0.size /\ SWK enc k w0 blk off d1 wx)
   case first => as_aux_lemma =>
    cases bb with
    | true =>
    obtain ⟨fx, fy⟩ := hbb.out.1 rfl
    have hc := rotate_any L R g cb cap (A ++ P1) X1 Y1 (T1 ++ B) d wr (by rw [HD2.out]; simp) HS.out.1 S1.out (by have := HS.out; omega) sz st m q HS.out.2 (by have := HLn.out; have := HN.out; simp; omega) (by have := HLn.out; have := HN.out; simp; omega) (by have := HLn.out; have := HN.out; simp; omega) (by have := HLn.out; omega) (by have := HLn.out; omega)
    have HC1 := iH hc
    clear hc
    go_wp2_with (go_at_fn 212; refine HC1.out.mono ?_; rintro e w' ⟨rfl, d', hd', S'⟩)
    go_meet
    exact ⟨d', by rw [hd']; simp, by rw [<- HS.out.1]; exact yqd (by rw [hd', HD2.out]; simp; omega), S'⟩
    | false =>
    have fx : ¬ (st < m /\ m < q) := fun h => by have := hbb.out.2 h; simp at this
    go_wp2_with fail
    go_meet
    refine ⟨d, ?_, HS.out.1, S1.out⟩
    rw [HD2.out]
    by_cases hf : st < m
    ·have : Y1 = [] := List.eq_nil_of_length_eq_zero (by have := HLn.out; omega)
     rw [this]; simp
    have : X1 = [] := List.eq_nil_of_length_eq_zero (by have := HLn.out; omega)
    rw [this]; simp
   case rest => as_aux_lemma =>
    obtain ⟨d1, hd1, hs1, hS1⟩ := hcut
    have HD3 := iH hd1; have HS3 := iH hs1
    have S3 : Aside (SWK enc k w0 blk off d1 wc) := hS1
    clear hd1 hs1 hS1 S1 HD2
    go_upto_region 41 with fail
    go_cut [199] (fun sg wx => ∃ bb : Bool, sg = .bool bb /\ Hid (bb = true ↔ a < st /\ st < mid) /\ wc = wx)
    case first => as_aux_lemma =>
     by_cases fx : a < st
     ·by_cases fy : st < mid
      ·have i1 : (a : Int) < (st : Int) := by omega
       have i2 : (st : Int) < (mid : Int) := by omega
       go_wp2_with fail
       go_meet
       exact ⟨true, rfl, iH ⟨fun _ => ⟨fx, fy⟩, fun _ => rfl⟩, rfl⟩
      have i1 : (a : Int) < (st : Int) := by omega
      have i2 : ¬ (st : Int) < (mid : Int) := by omega
      go_wp2_with fail
      go_meet
      exact ⟨false, rfl, iH ⟨fun h => by simp at h, fun h => absurd h.2 fy⟩, rfl⟩
     have i1 : ¬ (a : Int) < (st : Int) := by omega
     go_wp2_with fail
     go_meet
     exact ⟨false, rfl, iH ⟨fun h => by simp at h, fun h => absurd h.1 fx⟩, rfl⟩
    case rest => as_aux_lemma =>
     obtain ⟨bb, rfl, hbb, rfl⟩ := hcut
     go_upto_if 199 with fail
     go_cut [] (fun wx => ∃ d2 : Array α, d2.toList = A ++ srt c (P1 ++ Y1) ++ X1 ++ T1 ++ B /\ d2.size = d0.size /\ SWK enc k w0 blk off d2 wx)
     case first => as_aux_lemma =>
      cases bb with
      | true =>
      obtain ⟨fx, fy⟩ := hbb.out.1 rfl
      have hc := IH.out A P1 Y1 (X1 ++ T1 ++ B) d1 _ (by have := HLn.out; omega) (by rw [HD3.out]; simp) HS3.out S3.out (by have := HS.out; have := HS3.out; omega) HP.out.1 HP.out.2.2.1 (by have := HLn.out; omega) (by have := HLn.out; omega) sz a st mid (by have := HS.out; have := HS3.out; omega) HN.out.1 (by have := HLn.out; omega) (by have := HLn.out; omega)
      have HC1 := iH hc
      clear hc
      go_wp2_with (go_at_fn 186; refine HC1.out.mono ?_; rintro e w' ⟨rfl, d', hd', S'⟩)
      go_meet
      exact ⟨d', by rw [hd']; simp, by rw [<- HS3.out]; exact yqd (by rw [hd', HD3.out]; simp [xqs]; omega), S'⟩
      | false =>
      have fx : ¬ (a < st /\ st < mid) := fun h => by have := hbb.out.2 h; simp at this
      go_wp2_with fail
      go_meet
      refine ⟨d1, ?_, HS3.out, S3.out⟩
      rw [HD3.out]
      by_cases hf : a < st
      ·have : Y1 = [] := List.eq_nil_of_length_eq_zero (by have := HLn.out; omega)
       rw [this]; simp [srt_self HT.out HP.out.1]
      have : P1 = [] := List.eq_nil_of_length_eq_zero (by have := HLn.out; omega)
      rw [this]; simp [srt_self HT.out HP.out.2.2.1]
     case rest => as_aux_lemma =>
      obtain ⟨d2, hd2, hs2, hS2⟩ := hcut
      have HD4 := iH hd2; have HS4 := iH hs2
      have S4 : Aside (SWK enc k w0 blk off d2 _) := hS2
      clear hd2 hs2 hS2 S3 HD3 HS3
      by_cases fx : mid < q
      ·have i1 : (mid : Int) < (q : Int) := by omega
       by_cases fy : q < b
       ·have i2 : (q : Int) < (b : Int) := by omega
        have hc := IH.out (A ++ srt c (P1 ++ Y1)) X1 T1 B d2 _ (by have := HLn.out; omega) (by rw [HD4.out]) HS4.out S4.out (by have := HS.out; have := HS4.out; omega) HP.out.2.1 HP.out.2.2.2 (by have := HLn.out; omega) (by have := HLn.out; omega) sz mid q b (by have := HS.out; have := HS4.out; omega) (by have := HLn.out; have := HN.out; simp [xqs]; omega) (by have := HLn.out; omega) (by have := HLn.out; omega)
        have HC1 := iH hc
        clear hc
        go_wp2_with (go_at_fn 186; refine HC1.out.mono ?_; rintro e w' ⟨rfl, d', hd', S'⟩)
        go_end0
        exact ⟨rfl, d', by rw [hd', HG.out]; simp, S'⟩
       have i2 : ¬ (q : Int) < (b : Int) := by omega
       go_wp2
       go_end0
       have : T1 = [] := List.eq_nil_of_length_eq_zero (by have := HLn.out; omega)
       subst this
       exact ⟨rfl, d2, by rw [HD4.out, HG.out, List.append_nil, List.append_nil, srt_self HT.out HP.out.2.1]; simp, S4.out⟩
      have i1 : ¬ (mid : Int) < (q : Int) := by omega
      go_wp2
      go_end0
      have : X1 = [] := List.eq_nil_of_length_eq_zero (by have := HLn.out; omega)
      subst this
      exact ⟨rfl, d2, by rw [HD4.out, HG.out, List.nil_append, srt_self HT.out HP.out.2.2.2]; simp, S4.out⟩
theorem sym_any (L : SL P k) (R : RowK enc k w0 blk off d0) {c : α -> α -> Bool} (T : Tot c) {cf : α -> α -> Int} (hcf : ∀ x y, cf x y < 0 ↔ c y x = false) (g : Nat) (cb : Array Value) (eg : ∀ args w, (callFunc g args).run P w = .ok (.enter g args) w) (hcmp : CmpLays P g cb enc k cf blk off d0.size w0)
 (cap : Nat) : ∀ N, SymAt P enc k w0 blk off d0 c g cb cap N := by
 intro N
 induction N with
 | zero => intro A X Y B d w h1 _ _ _ _ _ _ h2 _; omega
 | succ N ih =>
  intro A X Y B d w hN hd hs S hsz hX hY hX0 hY0 sz a m b hz ha hm hb
  by_cases h1 : X.length = 1
  ·obtain ⟨x, rfl⟩ := List.length_eq_one_iff.1 h1
   exact sym_front L R T hcf g cb eg hcmp cap A x Y B d w hd hs S hsz hY sz a m b hz ha hm hb
  by_cases h2 : Y.length = 1
  ·obtain ⟨y, rfl⟩ := List.length_eq_one_iff.1 h2
   exact sym_back L R T hcf g cb eg hcmp cap A X y B d w hd hs S hsz hX h1 sz a m b hz ha hm hb
  exact sym_main L R T hcf g cb eg hcmp cap N ih A X Y B d w hN hd hs S hsz hX hY (by omega) (by omega) sz a m b hz ha hm hb
section
variable {β : Type} {c : β -> β -> Bool}
def Full (c : β -> β -> Bool) (bs : Nat) (l : List β) : Prop := ∃ ps : List (List β), l = ps.flatten /\ ∀ p ∈ ps, p.length = bs /\ Srt c p
def Runs (c : β -> β -> Bool) (bs : Nat) (l : List β) : Prop := ∃ (ps : List (List β)) (t : List β), l = ps.flatten ++ t /\ (∀ p ∈ ps, p.length = bs /\ Srt c p) /\ t.length < bs /\ Srt c t
theorem Full.nil (c : β -> β -> Bool) (bs : Nat) : Full c bs [] := ⟨[], rfl, by simp⟩
theorem Full.snoc {bs : Nat} {l X : List β} (h : Full c bs l) (hx : X.length = bs) (hs : Srt c X) : Full c bs (l ++ X) := by
 obtain ⟨ps, rfl, hp⟩ := h
 refine ⟨ps ++ [X], by simp, fun p hp' => ?_⟩
 rcases List.mem_append.1 hp' with h | h
 ·exact hp p h
 simp only [List.mem_singleton] at h
 subst h; exact ⟨hx, hs⟩
theorem Full.runs {bs : Nat} {l t : List β} (h : Full c bs l) (ht : t.length < bs) (hs : Srt c t) : Runs c bs (l ++ t) := by
 obtain ⟨ps, rfl, hp⟩ := h
 exact ⟨ps, t, rfl, hp, ht, hs⟩
theorem Runs.two {bs : Nat} {l : List β} (h : Runs c bs l) (h2 : 2 * bs <= l.length) : ∃ X Y R, l = X ++ Y ++ R /\ X.length = bs /\ Y.length = bs /\ Srt c X /\ Srt c Y /\ Runs c bs R := by
 obtain ⟨ps, t, rfl, hp, ht, hs⟩ := h
 match ps, hp, h2 with
 | [], _, h2 => simp at h2; omega
 | [X], hp, h2 =>
  have := (hp X (by simp)).1
  simp at h2; omega
 | X :: Y :: ps, hp, _ => exact ⟨X, Y, ps.flatten ++ t, by simp, (hp X (by simp)).1, (hp Y (by simp)).1, (hp X (by simp)).2, (hp Y (by simp)).2, ps, t, rfl, fun p h => hp p (by simp [h]), ht, hs⟩
theorem Runs.one {bs : Nat} {l : List β} (h : Runs c bs l) (h1 : bs < l.length) (h2 : l.length < 2 * bs) : ∃ X t, l = X ++ t /\ X.length = bs /\ 0 < t.length /\ Srt c X /\ Srt c t := by
 obtain ⟨ps, t, rfl, hp, ht, hs⟩ := h
 match ps, hp, h1, h2 with
 | [], _, h1, _ => simp at h1; omega
 | [X], hp, h1, _ =>
  have := (hp X (by simp)).1
  exact ⟨X, t, by simp, this, by simp at h1; omega, (hp X (by simp)).2, hs⟩
 | X :: Y :: ps, hp, _, h2 =>
  have e1 := (hp X (by simp)).1
  have e2 := (hp Y (by simp)).1
  simp at h2; omega
theorem Runs.small {bs : Nat} {l : List β} (h : Runs c bs l) (h1 : l.length <= bs) : Srt c l := by
 obtain ⟨ps, t, rfl, hp, ht, hs⟩ := h
 match ps, hp, h1 with
 | [], _, _ => simpa using hs
 | [X], hp, h1 =>
  have := (hp X (by simp)).1
  have : t = [] := List.eq_nil_of_length_eq_zero (by simp at h1; omega)
  subst this
  simpa using (hp X (by simp)).2
 | X :: Y :: ps, hp, h1 =>
  have e1 := (hp X (by simp)).1
  have e2 := (hp Y (by simp)).1
  simp at h1; omega
theorem Stab.mid {l A M B : List β} (T : Tot c) (h : Stab c l (A ++ M ++ B)) : Stab c l (A ++ srt c M ++ B) :=
 h.trans (((Stab.refl c A).append (yqJ T M)).append (Stab.refl c B))
end
variable {P : Program} {α : Type} [Inhabited α] {k : Nat} {enc : α -> List Value} {w0 : World} {blk off : Nat} {d0 : Array α}
def InsAt (P : Program) (enc : α -> List Value) (k : Nat) (w0 : World) (blk off : Nat) (d0 : Array α) (c : α -> α -> Bool) (g : Nat) (cb : Array Value) (cap : Nat) : Prop :=
 ∀ (A M B : List α) (d : Array α) (w : World), d.toList = A ++ M ++ B -> d.size = d0.size -> SWK enc k w0 blk off d w -> d.size < 4611686018427387904 ->
  ∀ sz a b : Nat, sz = d.size -> a = A.length -> b = a + M.length ->
  Calls P 185 #[.slice (some ⟨blk, off, none⟩) sz cap, .int .i64 a, .int .i64 b, .func (.func g) #[] cb] w fun e w' => e = .returned (.tuple #[]) /\ ∃ d' : Array α, d'.toList = A ++ srt c M ++ B /\ SWK enc k w0 blk off d' w'
theorem stable_any (L : SL P k) (R : RowK enc k w0 blk off d0) {c : α -> α -> Bool} (T : Tot c) {cf : α -> α -> Int} (hcf : ∀ x y, cf x y < 0 ↔ c y x = false) (g : Nat) (cb : Array Value) (eg : ∀ args w, (callFunc g args).run P w = .ok (.enter g args) w) (hcmp : CmpLays P g cb enc k cf blk off d0.size w0)
 (cap : Nat) (hins : InsAt P enc k w0 blk off d0 c g cb cap) (d : Array α) (w : World) (hs : d.size = d0.size) (S : SWK enc k w0 blk off d w) (hsz : d.size < 1152921504606846976) (n : Nat) (hn : n = d.size) :
 Calls P 145 #[.slice (some ⟨blk, off, none⟩) n cap, .int .i64 n, .func (.func g) #[] cb] w fun e w' => e = .returned (.tuple #[]) /\ ∃ d' : Array α, d'.toList = srt c d.toList /\ SWK enc k w0 blk off d' w' := by
 have mixed := L.mixed; have t0 := L.t0; have a0 := L.a0; have z0 := L.z0; have v0 := L.v0; have t3 := L.t3; have a3 := L.a3; have z3 := L.z3; have v3 := L.v3; have t4 := L.t4; have a4 := L.a4; have z4 := L.z4; have v4 := L.v4; have t6 := L.t6; have a6 := L.a6; have z6 := L.z6; have v6 := L.v6; have t7 := L.t7; have a7 := L.a7; have z7 := L.z7; have v7 := L.v7
 have eI := L.eI
 have es : ∀ args w, (callFunc 186 args).run P w = .ok (.enter 186 args) w := enters_of L.fm (by kernel_rfl) rfl
 have HSYM := iH (sym_any L R T hcf g cb eg hcmp cap)
 have HINS := iH hins
 have S0 : Aside (SWK enc k w0 blk off d w) := S
 have HT : Hid (Tot c) := iH T
 have HS : Hid (d.size = d0.size /\ n = d.size /\ d.toList.length = n) := iH ⟨hs, hn, by simp [hn]⟩
 have hnz : n < 1152921504606846976 := by omega
 clear S hcmp hins hs hn hsz hcf
 have len : ∀ d' : Array α, Stab c d.toList d'.toList -> d'.toList.length = d.toList.length -> d'.size = d0.size /\ n = d'.size := fun d' _ h => by
  have := yqd h
  have := HS.out
  omega
 have LEN := iH len
 clear len
 go_enter L.fs, Tryz.ntmps145
 go_wp2
 go_loopg [7, 8] n (fun kx s7 s8 wr => ∃ (a b : Nat) (dk : Array α), s7 = .int .i64 a /\ s8 = .int .i64 b /\ b <= a + 20 /\ a + 20 <= b /\ a <= n /\ n - a <= kx /\ Aside (SWK enc k w0 blk off dk wr) /\ Hid (∃ A B, dk.toList = A ++ B /\ a = A.length /\ Full c 20 A /\ Stab c d.toList dk.toList /\ dk.toList.length = d.toList.length))
 case atStart => exact ⟨0, 20, d, rfl, rfl, by omega, by omega, by omega, by omega, S0, iH ⟨[], d.toList, rfl, rfl, Full.nil c 20, Stab.refl c _, rfl⟩⟩
 case round =>
  clear S0
  obtain ⟨a, b, dk, rfl, rfl, hb1, hb2, ha, hkx, S1, HL⟩ := hrel
  by_cases hlt : b <= n
  ·have x1 : (b : Int) <= (n : Int) := by omega
   obtain ⟨A, B, e1, e2, hF, hSt, hl⟩ := HL.out
   obtain ⟨hz1, hz2⟩ := LEN.out dk hSt hl
   obtain ⟨M, B2, eB, lM, lB⟩ := yqL B 20 (by have := congrArg List.length e1; simp at this; omega)
   have q : dk.toList = A ++ M ++ B2 := by rw [e1, eB]; simp
   have hc := HINS.out A M B2 dk wr q hz1 S1.out (by omega) n a b hz2 e2 (by omega)
   have HE : Hid (∀ d' : Array α, d'.toList = A ++ srt c M ++ B2 -> ∃ A B, d'.toList = A ++ B /\ b = A.length /\ Full c 20 A /\ Stab c d.toList d'.toList /\ d'.toList.length = d.toList.length) := iH (fun d' h => by
    refine ⟨A ++ srt c M, B2, h, by simp [xqs]; omega, hF.snoc (by rw [xqs]; exact lM) (xq3 HT.out M), ?_, ?_⟩
    ·rw [h]; rw [q] at hSt; exact hSt.mid HT.out
    ·rw [h, <- hl, q]; simp [xqs])
   have HC := iH hc
   clear hc HL e1 e2 hF hSt hl hz1 hz2 eB lM lB q S1
   go_wp2_with (go_at_fn 185; refine HC.out.mono ?_; rintro e w' ⟨rfl, d', hd', S'⟩)
   have HG := iH (HE.out d' hd')
   have SA : Aside (SWK enc k w0 blk off d' w') := S'
   clear hd' S' HE HC
   go_wp2
   go_roundg (n - b)
   case measure => omega
   case rel => exact ⟨b, b + 20, d', rfl, by go_num, by omega, by omega, hlt, Nat.le_refl _, SA, HG⟩
  have x1 : ¬ (b : Int) <= (n : Int) := by omega
  obtain ⟨A, B, e1, e2, hF, hSt, hl⟩ := HL.out
  obtain ⟨hz1, hz2⟩ := LEN.out dk hSt hl
  have lB : a + B.length = n := by have := congrArg List.length e1; have := HS.out; simp at *; omega
  have hc := HINS.out A B [] dk wr (by rw [e1]; simp) hz1 S1.out (by omega) n a n hz2 e2 (by omega)
  have HE : Hid (∀ d' : Array α, d'.toList = A ++ srt c B ++ [] -> Runs c 20 d'.toList /\ Stab c d.toList d'.toList /\ d'.toList.length = d.toList.length) := iH (fun d' h => by
   rw [List.append_nil] at h
   refine ⟨?_, ?_, ?_⟩
   ·rw [h]; exact hF.runs (by rw [xqs]; omega) (xq3 HT.out B)
   ·rw [h]; rw [e1] at hSt; have := Stab.mid (B := []) HT.out (by rw [List.append_nil]; exact hSt); rwa [List.append_nil] at this
   ·rw [h, <- hl, e1]; simp [xqs])
  have HC := iH hc
  clear hc HL e1 e2 hF hSt hl hz1 hz2 lB S1
  go_wp2_with (go_at_fn 185; refine HC.out.mono ?_; rintro e w' ⟨rfl, d', hd', S'⟩)
  have HG := iH (HE.out d' hd')
  have SA : Aside (SWK enc k w0 blk off d' w') := S'
  clear hd' S' HE HC hb1 hb2 hlt x1 hkx
  go_wp2
  go_loopg [6, 7, 8, 9] n (fun kx s6 _ _ _ wr => ∃ (bs : Nat) (dk : Array α), s6 = .int .i64 bs /\ 0 < bs /\ bs < 2 * n + 40 /\ n - bs <= kx /\ Aside (SWK enc k w0 blk off dk wr) /\ Hid (Runs c bs dk.toList /\ Stab c d.toList dk.toList /\ dk.toList.length = d.toList.length))
  case atStart => exact ⟨20, d', rfl, by omega, by omega, by omega, SA, HG⟩
  case round =>
  clear SA HG
  obtain ⟨bs, dk, rfl, hbs, hbn, hkx, S1, HL⟩ := hrel
  by_cases hlt : bs < n
  ·have x1 : (bs : Int) < (n : Int) := by omega
   obtain ⟨B, hB⟩ : ∃ B, B = 2 * bs := ⟨_, rfl⟩
   have xB : 2 * (bs : Int) = (B : Int) := by omega
   have xB2 : (bs : Int) * 2 = (B : Int) := by omega
   have hB1 : B <= 2 * bs := by omega
   have hB2 : 2 * bs <= B := by omega
   clear hB
   go_wp2
   go_loopg [7, 8] n (fun kx s7 s8 wr => ∃ (a b : Nat) (dk : Array α), s7 = .int .i64 a /\ s8 = .int .i64 b /\ b <= a + B /\ a + B <= b /\ a <= n /\ n - a <= kx /\ Aside (SWK enc k w0 blk off dk wr) /\ Hid (∃ A R, dk.toList = A ++ R /\ a = A.length /\ Full c B A /\ Runs c bs R /\ Stab c d.toList dk.toList /\ dk.toList.length = d.toList.length))
   case atStart => exact ⟨0, B, dk, rfl, rfl, by omega, by omega, by omega, by omega, S1, iH ⟨[], dk.toList, rfl, rfl, Full.nil c B, HL.out.1, HL.out.2.1, HL.out.2.2⟩⟩
   case round =>
   clear S1 HL
   obtain ⟨a, b, dk, rfl, rfl, hb1, hb2, ha, hkx2, S1, HL⟩ := hrel
   obtain ⟨A, R, e1, e2, hF, hR, hSt, hl⟩ := HL.out
   obtain ⟨hz1, hz2⟩ := LEN.out dk hSt hl
   have lR : a + R.length = n := by have := congrArg List.length e1; have := HS.out; simp at *; omega
   by_cases hlt2 : b <= n
   ·have x2 : (b : Int) <= (n : Int) := by omega
    obtain ⟨X, Y, R2, eR, lX, lY, sX, sY, hR2⟩ := hR.two (by omega)
    have q : dk.toList = A ++ X ++ Y ++ R2 := by rw [e1, eR]; simp
    obtain ⟨m, hm⟩ : ∃ m, m = a + bs := ⟨_, rfl⟩
    have xm : (a : Int) + (bs : Int) = (m : Int) := by omega
    have hc := HSYM.out (X.length + Y.length) A X Y R2 dk wr (Nat.le_refl _) q hz1 S1.out (by omega) sX sY (by omega) (by omega) n a m b hz2 e2 (by omega) (by omega)
    have HE : Hid (∀ d' : Array α, d'.toList = A ++ srt c (X ++ Y) ++ R2 -> ∃ A R, d'.toList = A ++ R /\ b = A.length /\ Full c B A /\ Runs c bs R /\ Stab c d.toList d'.toList /\ d'.toList.length = d.toList.length) := iH (fun d' h => by
     refine ⟨A ++ srt c (X ++ Y), R2, h, by simp [xqs]; omega, hF.snoc (by rw [xqs]; simp; omega) (xq3 HT.out _), hR2, ?_, ?_⟩
     ·rw [h]; rw [q] at hSt; exact Stab.mid HT.out (by rw [<- List.append_assoc]; exact hSt)
     ·rw [h, <- hl, q]; simp [xqs]; omega)
    have HC := iH hc
    have hab : a < b := by omega
    clear hc HL e1 e2 hF hR hSt hl hz1 hz2 lR eR lX lY sX sY hR2 q S1 hm
    go_wp2_with (go_at_fn 186; refine HC.out.mono ?_; rintro e w' ⟨rfl, d', hd', S'⟩)
    have HG := iH (HE.out d' hd')
    have SA : Aside (SWK enc k w0 blk off d' w') := S'
    clear hd' S' HE HC
    go_wp2
    go_roundg (n - b)
    case measure => omega
    case rel => exact ⟨b, b + B, d', rfl, by go_num, by omega, by omega, hlt2, Nat.le_refl _, SA, HG⟩
   have x2 : ¬ (b : Int) <= (n : Int) := by omega
   obtain ⟨m, hm⟩ : ∃ m, m = a + bs := ⟨_, rfl⟩
   have xm : (a : Int) + (bs : Int) = (m : Int) := by omega
   have HE : Hid (∀ d' : Array α, d'.toList = A ++ srt c R ++ [] -> Runs c B d'.toList /\ Stab c d.toList d'.toList /\ d'.toList.length = d.toList.length) := iH (fun d' h => by
    rw [List.append_nil] at h
    refine ⟨?_, ?_, ?_⟩
    ·rw [h]; exact hF.runs (by rw [xqs]; omega) (xq3 HT.out R)
    ·rw [h]; rw [e1] at hSt; have := Stab.mid (B := []) HT.out (by rw [List.append_nil]; exact hSt); rwa [List.append_nil] at this
    ·rw [h, <- hl, e1]; simp [xqs])
   by_cases hmn : m < n
   ·have x3 : (m : Int) < (n : Int) := by omega
    obtain ⟨X, t, eR, lX, lt, sX, st⟩ := hR.one (by omega) (by omega)
    have hc := HSYM.out (X.length + t.length) A X t [] dk wr (Nat.le_refl _) (by rw [e1, eR]; simp) hz1 S1.out (by omega) sX st (by omega) lt n a m n hz2 e2 (by omega) (by rw [eR] at lR; simp at lR; omega)
    rw [<- eR] at hc
    have HC := iH hc
    clear hc HL e1 e2 hF hR hSt hl hz1 hz2 lR eR lX lt sX st S1 hm
    go_wp2_with (go_at_fn 186; refine HC.out.mono ?_; rintro e w' ⟨rfl, d', hd', S'⟩)
    have HG := iH (HE.out d' hd')
    have SA : Aside (SWK enc k w0 blk off d' w') := S'
    clear hd' S' HE HC
    go_wp2
    go_roundg (n - B)
    case measure => omega
    case rel => exact ⟨B, d', by go_num, by omega, by omega, Nat.le_refl _, SA, HG⟩
   have x3 : ¬ (m : Int) < (n : Int) := by omega
   have HG := iH (HE.out dk (by rw [e1, srt_self HT.out (hR.small (by omega))]; simp))
   clear HL e1 e2 hF hR hSt hl hz1 hz2 lR hm HE
   go_wp2
   go_roundg (n - B)
   case measure => omega
   case rel => exact ⟨B, dk, by go_num, by omega, by omega, Nat.le_refl _, S1, HG⟩
  have x1 : ¬ (bs : Int) < (n : Int) := by omega
  go_wp2
  go_end0
  obtain ⟨h1, h2, h3⟩ := HL.out
  exact ⟨rfl, dk, srt_is HT.out (h1.small (by have := HS.out; omega)) h2, S1.out⟩
end Go.Proofs.YticiofkiffgclaaGreat
namespace Go.Proofs.YticiofkiffgclaaGreat
open Go.RowKit
def RdI (w : World) (v : Value) (l : List Int) : Prop :=
 ∃ a c, v = .slice a l.length c /\ l.length <= c /\ c <= maxLen /\ (a = none -> c = 0) /\
  (l ≠ [] -> ∃ b o, a = some ⟨b, o, none⟩ /\ ∀ i, i < l.length -> w.cell? ⟨b, o + i, none⟩ = some (.int .i64 (l.getD i 0)))
theorem RdI.kept {w w' : World} {v : Value} {l : List Int} {bs : List Nat} (h : RdI w v l) (hk : Kept w w' bs) (hb : ∀ b, v.ownBlock = some b -> b ∉ bs) : RdI w' v l := by
 obtain ⟨a, c, rfl, hc, hm, ha, hl⟩ := h
 refine ⟨a, c, rfl, hc, hm, ha, fun hne => ?_⟩
 obtain ⟨b, o, rfl, hcell⟩ := hl hne
 exact ⟨b, o, rfl, fun i hi => hk.cell (p := ⟨b, o + i, none⟩) (hb b rfl) (hcell i hi)⟩
theorem RdI.keep {w w' : World} {v : Value} {l : List Int} (h : RdI w v l) (hk : Kept w w' []) : RdI w' v l := h.kept hk (by simp)
theorem RdI.nil (w : World) : RdI w (.slice none 0 0) [] := ⟨none, 0, rfl, Nat.le_refl _, by unfold maxLen; omega, fun _ => rfl, fun h => absurd rfl h⟩
theorem RdI.len {w : World} {v : Value} {l : List Int} (h : RdI w v l) : l.length <= 9223372036854775807 := by
 obtain ⟨a, c, _, h1, h2, _⟩ := h
 unfold maxLen at h2; omega
theorem mem_take_succ {l : List Int} {k : Nat} {x : Int} (hk : k < l.length) (h1 : x ∉ l.take k) (h2 : l[k] ≠ x) : x ∉ l.take (k + 1) := by
 rw [List.take_succ_eq_append_getElem hk, List.mem_append]
 rintro (h | h)
 ·exact h1 h
 exact h2 (List.mem_singleton.1 h).symm
theorem mem_whole {l : List Int} {k : Nat} {x : Int} (hk : l.length <= k) (h : x ∉ l.take k) : x ∉ l := by
 rwa [List.take_of_length_le hk] at h
theorem retb {a b : Bool} (h : a = b) : Ending.returned (.bool a) = .returned (.bool b) := by rw [h]
theorem has_any (v : Value) (l : List Int) (x : Int) (w : World) (h : RdI w v l) :
 Calls Tryz.prog 98 #[v, .int .i64 x] w fun e w' => e = .returned (.bool (decide (x ∈ l))) /\ w = w' := by
 have hlen := h.len
 obtain ⟨a, c, rfl, hc, hm, _, hl⟩ := h
 by_cases hne : l = []
 ·subst hne
  clear hl
  go_enter Tryz.func98, Tryz.ntmps98
  go_wp2
  go_loop [5] (fun t => t = .int .i64 0) (fun _ => 0)
  case atStart => rfl
  case round =>
  subst hrel
  go_wp2
  go_ret
  exact ⟨retb (by simp), rfl⟩
 ·obtain ⟨b, o, rfl, hcell⟩ := hl hne
  have C := iH hcell
  clear hcell hl
  go_enter Tryz.func98, Tryz.ntmps98
  go_wp2
  go_loop [5] (fun t => ∃ k : Nat, t = .int .i64 k /\ k <= l.length /\ x ∉ l.take k) (fun t => l.length - (intOf t).toNat)
  case atStart => exact ⟨0, rfl, Nat.zero_le _, by simp⟩
  case round =>
  obtain ⟨k, rfl, hk, hx⟩ := hrel
  have Hx := iH hx; clear hx
  by_cases hlt : k < l.length
  ·have c1 := C.out k hlt
   have x1 : (k : Int) < (l.length : Int) := by omega
   by_cases he : l[k] = x
   ·have x2 : (l[k] == x) = true := by simpa using he
    have Hm := iH (show x ∈ l by rw [<- he]; exact List.getElem_mem hlt)
    clear he
    go_wp2
    go_ret
    exact ⟨retb (by simp [Hm.out]), rfl⟩
   have x2 : (l[k] == x) = false := by simpa using he
   have He := iH he; clear he
   go_wp2
   go_round
   case rel => exact ⟨k + 1, by go_num, by omega, mem_take_succ hlt Hx.out He.out⟩
   case measure => simp [intOf]; omega
  have x1 : ¬ (k : Int) < (l.length : Int) := by omega
  have Hm := iH (mem_whole (by omega) Hx.out)
  go_wp2
  go_ret
  exact ⟨retb (by simp [Hm.out]), rfl⟩
theorem index_any (v : Value) (l : List Int) (x : Int) (w : World) (h : RdI w v l) :
 Calls Tryz.prog 226 #[v, .int .i64 x] w fun e w' => ∃ r : Int, e = .returned (.int .i64 r) /\ (0 <= r ↔ x ∈ l) /\ w = w' := by
 have hlen := h.len
 obtain ⟨a, c, rfl, hc, hm, _, hl⟩ := h
 by_cases hne : l = []
 ·subst hne
  clear hl
  go_enter Tryz.func226, Tryz.ntmps226
  go_wp2
  go_loop [8] (fun t => t = .int .i64 0) (fun _ => 0)
  case atStart => rfl
  case round =>
  subst hrel
  go_wp2
  go_ret
  exact ⟨_, rfl, by simp, rfl⟩
 ·obtain ⟨b, o, rfl, hcell⟩ := hl hne
  have C := iH hcell
  clear hcell hl
  go_enter Tryz.func226, Tryz.ntmps226
  go_wp2
  go_loop [8] (fun t => ∃ k : Nat, t = .int .i64 k /\ k <= l.length /\ x ∉ l.take k) (fun t => l.length - (intOf t).toNat)
  case atStart => exact ⟨0, rfl, Nat.zero_le _, by simp⟩
  case round =>
  obtain ⟨k, rfl, hk, hx⟩ := hrel
  have Hx := iH hx; clear hx
  by_cases hlt : k < l.length
  ·have c1 := C.out k hlt
   have x1 : (k : Int) < (l.length : Int) := by omega
   by_cases he : l[k] = x
   ·have x2 : (x == l[k]) = true := by simpa using he.symm
    have Hm := iH (show x ∈ l by rw [<- he]; exact List.getElem_mem hlt)
    clear he
    go_wp2
    go_ret
    exact ⟨_, rfl, iff_of_true (by omega) Hm.out, rfl⟩
   have x2 : (x == l[k]) = false := by rw [beq_eq_false_iff_ne]; exact fun h => he h.symm
   have He := iH he; clear he
   go_wp2
   go_round
   case rel => exact ⟨k + 1, by go_num, by omega, mem_take_succ hlt Hx.out He.out⟩
   case measure => simp [intOf]; omega
  have x1 : ¬ (k : Int) < (l.length : Int) := by omega
  have Hm := iH (mem_whole (by omega) Hx.out)
  go_wp2
  go_ret
  exact ⟨_, rfl, iff_of_false (by omega) Hm.out, rfl⟩
theorem contains_any (v : Value) (l : List Int) (x : Int) (w : World) (h : RdI w v l) :
 Calls Tryz.prog 213 #[v, .int .i64 x] w fun e w' => e = .returned (.bool (decide (x ∈ l))) /\ w = w' := by
 go_enter Tryz.func213, Tryz.ntmps213
 go_wp2_with fail
 refine (index_any v l x w h).mono ?_
 rintro e w1 ⟨r, rfl, hr, rfl⟩
 have Hr := iH hr; clear hr
 go_wp2
 go_ret
 exact ⟨retb (by simp [Hr.out]), rfl⟩
theorem ints_no {l m : List Int} {k : Nat} (h1 : k < l.length) (h2 : k < m.length) (h : (l[k] != m[k]) = true) : (l == m) = false := by
 rw [beq_eq_false_iff_ne]
 rintro rfl
 simp at h
theorem ints_step {l m : List Int} {k : Nat} (ht : l.take k = m.take k) (h1 : k < l.length) (h2 : k < m.length) (h : (l[k] != m[k]) = false) : l.take (k + 1) = m.take (k + 1) := by
 rw [List.take_succ_eq_append_getElem h1, List.take_succ_eq_append_getElem h2, ht]
 have : l[k] = m[k] := by simpa using h
 rw [this]
theorem ints_whole {l m : List Int} {k : Nat} (h1 : l.length <= k) (h2 : l.length = m.length) (h : l.take k = m.take k) : (l == m) = true := by
 rw [List.take_of_length_le h1, List.take_of_length_le (by omega)] at h
 simpa using h
theorem ints_any (va vb : Value) (l m : List Int) (w : World) (ha : RdI w va l) (hb : RdI w vb m) :
 Calls Tryz.prog 115 #[va, vb] w fun e w' => e = .returned (.bool (l == m)) /\ Kept w w' [] := by
 have hlen1 := ha.len; have hlen2 := hb.len
 obtain ⟨a, c, rfl, hc, _, _, hla⟩ := ha
 obtain ⟨b, d, rfl, hd, _, _, hlb⟩ := hb
 by_cases hlen : l.length = m.length
 ·by_cases hne : l = []
  ·subst hne
   obtain rfl : m = [] := List.eq_nil_of_length_eq_zero (by simpa using hlen.symm)
   clear hla hlb hlen
   go_enter Tryz.func115, Tryz.ntmps115
   go_wp2
   go_loop [5] (fun t => t = .int .i64 0) (fun _ => 0)
   case atStart => rfl
   case round =>
   subst hrel
   go_wp2
   go_ret
   exact ⟨retb (by simp), Kept.refl _ _⟩
  obtain ⟨ab, ao, rfl, hca⟩ := hla hne
  obtain ⟨bb, bo, rfl, hcb⟩ := hlb (by rintro rfl; exact hne (List.eq_nil_of_length_eq_zero (by simpa using hlen)))
  have Hl := iH hlen
  have h1 : ((l.length : Int) != (m.length : Int)) = false := by simp; omega
  have h2 : m.length <= l.length := by omega
  have h3 : l.length <= m.length := by omega
  have Ca := iH hca; have Cb := iH hcb
  clear hca hcb hla hlb hlen
  go_enter Tryz.func115, Tryz.ntmps115
  go_wp2
  go_loopw [5] (fun t wr => ∃ k : Nat, k <= l.length /\ t = .int .i64 k /\ l.take k = m.take k /\ ∃ q, wr = w.drewN q) (fun t _ => l.length - (intOf t).toNat)
  case atStart => exact ⟨0, Nat.zero_le _, rfl, rfl, 0, rfl⟩
  case round =>
  obtain ⟨k, hk, rfl, heq, q, rfl⟩ := hrel
  have He := iH heq; clear heq
  by_cases hlt : k < l.length
  ·have c1 := Ca.out k hlt
   have c2 := Cb.out k (by omega)
   have hltm : k < m.length := by omega
   have x1 : (k : Int) < (l.length : Int) := by omega
   have x2 : (k : Int) < (m.length : Int) := by omega
   go_wp2
   go_quiet (fail)
   go_wp2
   ·go_ret
    exact ⟨retb (ints_no hlt hltm (by assumption)).symm, ((Kept.refl w []).drewN _).drewN _⟩
   go_roundw
   case rel => exact ⟨k + 1, by omega, by go_num, ints_step He.out hlt hltm (by assumption), q + nq, rfl⟩
   case measure => simp [intOf]; omega
  have x1 : ¬ (k : Int) < (l.length : Int) := by omega
  have Hf := iH (ints_whole (by omega) Hl.out He.out)
  go_wp2
  go_ret
  exact ⟨retb Hf.out.symm, (Kept.refl w []).drewN _⟩
 ·have h0 : (l == m) = false := by rw [beq_eq_false_iff_ne]; rintro rfl; exact hlen rfl
  have h1 : ((l.length : Int) != (m.length : Int)) = true := by rw [bne_iff_ne]; omega
  have H0 := iH h0; clear h0 hla hlb
  go_enter Tryz.func115, Tryz.ntmps115
  go_wp2
  go_ret
  exact ⟨retb (by rw [H0.out]), Kept.refl _ _⟩
end Go.Proofs.YticiofkiffgclaaGreat
