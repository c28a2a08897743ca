/-
 Proved: whatever the arguments are, carrierlaw15.QueueKeeps answers true and leaves its arguments as they were. No condition.
-/
import Derived.Test.YticiofkiffgclaaGreatQu0
import Derived.Test.YticiofkiffgclaaGreatQu42
import Derived.Test.YticiofkiffgclaaGreatQu37
import Derived.Laws.StructEq
import Derived.Test.YticiofkiffgclaaGreatRows
import Derived.Test.YticiofkiffgclaaGreatChecked
import Derived.ProofKit
import Derived.OpenShut
import Derived.ChangeOld
import Derived.Below
set_option linter.unusedVariables false
set_option maxHeartbeats 16000000
set_option maxRecDepth 100000
namespace Go.Proofs.YticiofkiffgclaaGreat.queueKeeps
open Go.ChangeShapes Go.WideShapes Go.ChangeAt Go.RowKit
theorem own : ownKnob Tryz.prog.godebug = none := by kernel_rfl
theorem laidOut : laidOutB Tryz.prog = true := by kernel_rfl
theorem bq_keep {w0 w w' : World} {a : Hk} {h m hx k : Nat} (b : Bq w0 w a h m hx k) (kp : Kept w w' []) : Bq w0 w' a h m hx k := by
 obtain ⟨st, q, O1, O2, b, z, hl⟩ := b
 exact ⟨st, q, O1, O2, b.keep kp, z, hl⟩
theorem bq_kept {w0 w : World} {a : Hk} {h m hx k : Nat} (b : Bq w0 w a h m hx k) : Kept w0 w [] := by
 obtain ⟨st, q, O1, O2, b, z, hl⟩ := b
 exact b.k0
theorem dget_any {w : World} {B h m : Nat} {st : List Nat} {q : Qs} {O : Nat -> Prop} (s : DS w B h m st q O) {k : Nat} (z : SzQ k q) (n : Int) : Calls Tryz.prog 33 #[.pointer (some ⟨h, 5, none⟩), .int .i64 n] w fun e w' => ∃ (y : Tk) (g : Bool), e = .returned (.tuple #[.agg y.cs, .bool g]) /\ y.pl = tckP q n /\ RdT w' y.op y.l /\ Kept w w' [] := by
 obtain ⟨d, v, xs, kq, e0, e1, e2, e3, rfl⟩ := s.ex
 have l1 : xs.length <= 1000 := by have := z.ok.okp.size; rw [<- e1, List.length_map] at this; omega
 refine (rkget_any kq.dq.ticks l1 n).mono ?_
 rintro e w' ⟨y, rfl, h1, h2, h3⟩
 refine ⟨y, _, rfl, ?_, h2, h3⟩
 rw [h1, e1]
 rfl
theorem ksown_any {w : World} {B : Nat} {a : Hk} {st : List Nat} {q : Qs} {O : Nat -> Prop} (s : KS w B a st q O) {k : Nat} (z : SzQ k q) (hk : k <= 1000) : Calls Tryz.prog 27 #[.pointer (some ⟨a.hs, 0, none⟩)] w fun e w' => ∃ v', e = .returned v' /\ OwnE w' w.heap.size 50 v' (srt byId (pre q.l 3)) /\ Kept w w' [] := by
 obtain ⟨b, u, d, xs, kq, g, e1, e2, rfl⟩ := s.ex
 exact all_any kq.sp (z.tabs hk)
def RkS (w1 w : World) (a : Hk) (h m hx : Nat) (st : List Nat) (q1 q : Qs) (v : Value) (C : Nat) (L : List Ev) : Prop :=
 ∃ O1 O2, Bs w1 w a h m hx st st q1 q O1 O2 /\ OwnE w C 50 v L /\ ∀ k, O1 k -> v.ownBlock ≠ some k
theorem RkS.c {w1 w : World} {a : Hk} {h m hx : Nat} {st : List Nat} {q1 q : Qs} {v : Value} {C : Nat} {L : List Ev} (r : RkS w1 w a h m hx st q1 q v C L) : ∃ O1, KS w w1.heap.size a st q1 O1 /\ ∀ q' w', KPost w w1.heap.size a st O1 q' w' -> RkS w1 w' a h m hx st q' q v C L := by
 obtain ⟨O1, O2, b, o, n⟩ := r
 refine ⟨O1, b.ks, fun q' w' p => ?_⟩
 obtain ⟨O', b', t, -, -⟩ := b.code p
 refine ⟨O', O2, b', yqB o t.1 (fun g hg ho => n g ho hg), fun k hk e => ?_⟩
 rcases t.2 k hk with h1 | h1
 ·exact n k h1 e
 have := (o.lt k e).2; omega
theorem RkS.keep {w1 w w' : World} {a : Hk} {h m hx : Nat} {st : List Nat} {q1 q : Qs} {v : Value} {C : Nat} {L : List Ev} (r : RkS w1 w a h m hx st q1 q v C L) (k : Kept w w' []) : RkS w1 w' a h m hx st q1 q v C L := by
 obtain ⟨O1, O2, b, o, n⟩ := r
 exact ⟨O1, O2, b.keep k, yqB o (Fo.ofKept k (fun _ => False)) (fun _ _ h => h), n⟩
theorem RkS.box {w1 w : World} {a : Hk} {h m hx : Nat} {st : List Nat} {q1 q : Qs} {v : Value} {C : Nat} {L : List Ev} (r : RkS w1 w a h m hx st q1 q v C L) : w.heap[hx]? = some (.cells #[.pointer (some ⟨a.p, 0, none⟩), .pointer (some ⟨m, 0, none⟩), .pointer (some ⟨a.h, 0, none⟩), .pointer (some ⟨h, 0, none⟩)] runT (0, 0)) := by
 obtain ⟨O1, O2, b, o, n⟩ := r
 exact b.hx
theorem want_here {st : List Nat} {q : Qs} {k : Nat} {e : Ev} (hw : wantB st q e = true) (he : e ∈ allE q) : e ∈ srt byId (pre (rotK st k q).l 3) := srtQ_mem.2 (rotK_keeps hw (srtQ_mem.1 he) k).1
theorem want_of {st : List Nat} {q : Qs} {e : Ev} (h : stAt st e.tx = 1 ∨ (stAt st e.tx = 2 /\ ∃ x ∈ q.cs, xqv (tckP q x.la).M (tckP q x.la).l e.tx = false)) : wantB st q e = true := by
 unfold wantB
 rcases h with h | ⟨h, x, hx, hs⟩
 ·rw [h]; rfl
 rw [h, Bool.or_eq_true, Bool.and_eq_true]
 exact .inr ⟨rfl, List.any_eq_true.2 ⟨x, hx, by rw [hs]; rfl⟩⟩
theorem ev_eqT (x0 y0 : Int) (x1 y1 : Int) (x2 y2 : ByteArray) (x3 y3 : Int) (x4 y4 : Int) (x5 y5 : Int) (x6 y6 : Int) (x7 y7 : ByteArray) : ∃ r : Bool, (∀ w : World, (binOp .eql 50 (.agg #[.int .i64 y0, .int .i64 y1, .string y2, .int .i64 y3, .int .i64 y4, .int .u8 y5, .int .i64 y6, .string y7]) (.agg #[.int .i64 x0, .int .i64 x1, .string x2, .int .i64 x3, .int .i64 x4, .int .u8 x5, .int .i64 x6, .string x7])).run Tryz.prog w = .ok (.bool r) w) /\ ((⟨y0, y1, y2, y3, y4, y5, y6, y7⟩ : Ev) = ⟨x0, x1, x2, x3, x4, x5, x6, x7⟩ -> r = true) := by
 by_cases h : (⟨y0, y1, y2, y3, y4, y5, y6, y7⟩ : Ev) = ⟨x0, x1, x2, x3, x4, x5, x6, x7⟩
 ·simp only [Ev.mk.injEq] at h
  obtain ⟨rfl, rfl, rfl, rfl, rfl, rfl, rfl, rfl⟩ := h
  refine ⟨true, fun w => ?_, fun _ => rfl⟩
  rw [run_eql_struct]
  go_simp
 refine ⟨false, fun w => ?_, fun e => absurd e h⟩
 simp only [Ev.mk.injEq] at h
 have bt : ∀ {a b : ByteArray}, a.toList = b.toList -> a = b := fun {a b} e => by
  rw [ByteArray.toList_eq, ByteArray.toList_eq] at e
  exact ByteArray.ext (Array.toList_inj.1 e)
 have H := iH h
 have BT := iH (fun (a b : ByteArray) => bt (a := a) (b := b))
 clear h bt
 rw [run_eql_struct]
 go_simp
 intro h0 h1 h2 h3 h4 h5 h6 h7
 exact H.out ⟨h0, h1, BT.out _ _ h2, h3, h4, h5, h6, BT.out _ _ h7⟩
theorem walk (a0 : Option Addr) (len cap : Nat) (f : Nat -> ActQ) (a1 : Int) (W : World) (w0 : IsActsQ W W.heap.size a0 len f /\ len <= maxLen) (w1 : (Lit.int .u8 a1).wf = true) :
  Calls Tryz.prog 5 #[.slice a0 len cap, .int .u8 a1] W fun e w' => e = .returned (.bool true) /\ Below W.heap.size W w' := by
 have HA := iH w0.1
 have hlm : len <= 9223372036854775807 := by have := w0.2; unfold maxLen at this; omega
 clear w0
 have hb := bounds_u8 w1
 obtain ⟨r5, hr5⟩ : ∃ r5 : Nat, a1 % 5 = (r5 : Int) := ⟨(a1 % 5).toNat, by omega⟩
 have hr5t : a1.tmod 5 = (r5 : Int) := by rw [Int.tmod_eq_emod_of_nonneg (by omega)]; exact hr5
 have hr55 : r5 < 5 := by omega
 have w5 : wrap64 (r5 : Int) = (r5 : Int) := by unfold wrap64; omega
 have A5 := iH (And.intro hr5 (And.intro hr5t w5)); have R55 := iH hr55
 clear w1 hb hr5 hr5t w5 hr55
 by_cases hg : 80 < len
 ·have xg : (80 : Int) < (len : Int) := by omega
  go_enter Tryz.func5, Tryz.ntmps5
  go_wp2_with fail
  refine (early_any W).mono ?_
  rintro e w1 ⟨rfl, k1⟩
  have K1 := iH k1; clear k1
  go_wp2_with fail
  refine (early_any w1).mono ?_
  rintro e w2 ⟨rfl, k2⟩
  have K2 := iH (K1.out.trans k2 (by simp)); clear k2
  go_wp2
  go_ret
  exact ⟨rfl, K2.out.below (Nat.le_refl _) (by simp)⟩
 ·have xg : ¬ (80 : Int) < (len : Int) := by omega
  go_enter Tryz.func5, Tryz.ntmps5
  go_wp2_with fail
  refine (early_any W).mono ?_
  rintro e w1 ⟨rfl, k1⟩
  have K1 := iH k1; clear k1
  go_wp2_with fail
  refine (start_any w1).mono ?_
  rintro e w2 ⟨a, h, m, hx, rfl, b2⟩
  have B2 := iH b2; clear b2
  go_wp2
  go_loopw [6] (fun s5 wr => ∃ i : Nat, s5 = .int .i64 i /\ i <= len /\ Hid (Bq w1 wr a h m hx i)) (fun s5 _ => len - (intOf s5).toNat)
  case atStart => exact ⟨0, rfl, Nat.zero_le _, B2⟩
  case round =>
  obtain ⟨i, rfl, hi, BE⟩ := hrel
  have BK := iH (K1.out.trans (bq_kept BE.out) (by simp))
  by_cases hlt : i < len
  ·have x1 : (i : Int) < (len : Int) := by omega
   obtain ⟨b, o, e0, -, hf⟩ := HA.out.kept BK.out (by omega)
   subst e0
   have at0 := hf i hlt
   have D0 := do_any BE.out (show i < 1000 by omega) (f i) at0.d8 at0.i8 at0.o8 at0.wa
   obtain ⟨c0, c1, c2, c3, -, -, -, -⟩ := at0
   generalize f i = x at D0 c0 c1 c2 c3
   obtain ⟨D, U, Ky, N⟩ := x
   simp only [ActQ.cs] at D0 c0 c1 c2 c3
   have DD := iH D0
   clear D0 hf
   go_wp2_with fail
   refine DD.out.mono ?_
   rintro e w5 ⟨rfl, b5⟩
   have B5 := iH b5; clear b5 c0 c1 c2 c3
   go_wp2
   go_roundw
   case rel => exact ⟨i + 1, by go_num, by omega, B5⟩
   case measure => simp [intOf]; omega
  have x1 : ¬ (i : Int) < (len : Int) := by omega
  obtain ⟨st, q, O1, O2, b, z, hl⟩ := BE.out
  have BA := iH b; have ZA := iH z; have HI := iH (show i <= 1000 by omega)
  obtain ⟨u0, u1, u2, u3⟩ := xqd b.hx
  clear b z hl
  go_wp2_with fail
  refine (lkC (yqM BA.out.ks)).mono ?_
  rintro e w3 ⟨rfl, p⟩
  have B3 := iH (BA.out.keep p)
  clear p u0 u1 u2 u3
  go_wp2_with fail
  refine (ksown_any B3.out.ks ZA.out HI.out).mono ?_
  rintro e w4 ⟨va, rfl, oa, p⟩
  obtain ⟨L, hL⟩ : ∃ L, L = allE q := ⟨_, rfl⟩
  have oa : OwnE w4 w3.heap.size 50 va L := by rw [hL]; exact oa
  have RK := iH (show RkS w1 w4 a h m hx st (rotK st 0 q) q va w3.heap.size L from ⟨O1, O2, B3.out.keep p, oa, fun k hk e => by have := (B3.out.ks.lt k hk).2; have := (oa.lt k e).1; omega⟩)
  have HL := iH hL
  have hll : L.length <= 16000 := by have := ZA.out.all.1; rw [<- hL] at this; have := HI.out; omega
  clear p oa hL
  obtain ⟨hr5, hr5t, w5⟩ := A5.out
  go_wp2
  go_loopw [8] (fun s8 wr => ∃ k : Nat, s8 = .int .i64 k /\ k <= r5 /\ Hid (RkS w1 wr a h m hx st (rotK st k q) q va w3.heap.size L)) (fun s8 _ => r5 - (intOf s8).toNat)
  case atStart => exact ⟨0, rfl, Nat.zero_le _, RK⟩
  case round =>
  obtain ⟨k, rfl, hk2, KR⟩ := hrel
  by_cases hlk : k < r5
  ·as_aux_lemma =>
   have nx2 : (k : Int) < (r5 : Int) := by omega
   obtain ⟨Ok, ks, fk⟩ := KR.out.c
   have RT := iH (krot_any ks (ZA.out.rotK (st := st) k) HI.out); have FK := iH fk
   obtain ⟨u0, u1, u2, u3⟩ := xqd KR.out.box
   clear ks fk
   go_wp2_with fail
   refine RT.out.mono ?_
   rintro e w5x ⟨rfl, p⟩
   have R5 := iH (show RkS w1 w5x a h m hx st (rotK st (k + 1) q) q va w3.heap.size L from FK.out _ _ p)
   clear p u0 u1 u2 u3
   go_wp2
   go_roundw
   case rel => exact ⟨k + 1, by go_num, by omega, R5⟩
   case measure => simp [intOf]; omega
  as_aux_lemma =>
  have nx2 : ¬ (k : Int) < (r5 : Int) := by omega
  obtain ⟨Ok, ks, -⟩ := KR.out.c
  have KSk := iH ks
  obtain ⟨u0, u1, u2, u3⟩ := xqd KR.out.box
  clear ks
  go_wp2_with fail
  refine (lkC (yqM KSk.out)).mono ?_
  rintro e w6 ⟨rfl, p⟩
  have R6 := iH (KR.out.keep p); have KS6 := iH (KSk.out.keep p)
  clear p u0 u1 u2 u3
  go_wp2_with fail
  refine (ksall_any KS6.out (ZA.out.rotK (st := st) k) HI.out).mono ?_
  rintro e w7 ⟨vb, rfl, rb, p⟩
  obtain ⟨M, hM⟩ : ∃ M, M = srt byId (pre (rotK st k q).l 3) := ⟨_, rfl⟩
  rw [<- hM] at rb
  have HW := iH (show ∀ e ∈ L, wantB st q e = true -> e ∈ M from fun e he hw => by rw [hM]; rw [HL.out] at he; exact want_here hw he)
  have hml : M.length <= 16000 := by have := (ZA.out.rotK (st := st) k).all.1; unfold allE at this; rw [<- hM] at this; have := HI.out; omega
  obtain ⟨O7, O7b, b7, o7, -⟩ := (R6.out.keep p)
  have B7 := iH b7
  obtain ⟨ua, ca, ea⟩ := o7.rd.shape3
  subst ea
  obtain ⟨ub, cb, eb⟩ := rb.shape3
  subst eb
  have RA := iH o7.rd; have RB := iH rb
  obtain ⟨ut, ct, uc, cc, ur, cr, lk⟩ := b7.ds.look
  have LK := iH lk
  have few := ZA.out.ok.okc.few
  clear p hM rb b7 o7 lk hr5 hr5t w5
  go_wp2
  go_loopw [10] (fun s10 wr => ∃ j : Nat, s10 = .int .i64 j /\ j <= L.length /\ Hid (Kept w7 wr [])) (fun s10 _ => L.length - (intOf s10).toNat)
  case atStart => exact ⟨0, rfl, Nat.zero_le _, iH (Kept.refl _ _)⟩
  case round =>
  obtain ⟨j, rfl, hj2, KR3⟩ := hrel
  by_cases hlj : j < L.length
  ·as_aux_lemma =>
   have nx3 : (j : Int) < (L.length : Int) := by omega
   obtain ⟨x, hx2⟩ : ∃ x, L[j]? = some x := ⟨_, List.getElem?_eq_getElem hlj⟩
   have HXM := iH (HW.out x (List.mem_of_getElem? hx2))
   obtain ⟨g1, o1, eg, -⟩ := RA.out.eight hx2
   subst eg
   have RX := iH (fun (V : World) (hV : Kept w7 V []) => by obtain ⟨g, o, e, h⟩ := (RA.out.kept hV (by simp)).eight hx2; simp only [Option.some.injEq, Addr.mk.injEq] at e; obtain ⟨rfl, rfl, -⟩ := e; exact h)
   obtain ⟨sx, hsx⟩ : ∃ sx, sx = stAt st x.tx := ⟨_, rfl⟩
   obtain ⟨wb, hwb⟩ : ∃ wb : Bool, ((sx : Int) == 1) = wb := ⟨_, rfl⟩
   obtain ⟨wc, hwc⟩ : ∃ wc : Bool, ((sx : Int) == 2) = wc := ⟨_, rfl⟩
   have SXX := iH hsx; have WB := iH hwb; have WC := iH hwc
   have WN := iH (fun h => want_of (st := st) (q := q) (e := x) h)
   obtain ⟨x0, x1, x2, x3, x4, x5, x6, x7⟩ := x
   simp only at RX SXX
   clear hx2 hsx hwb hwc
   go_wp2
   go_loopw [11, 12] (fun s11 s12 wr => ∃ (k2 : Nat) (bb : Bool), s12 = .int .i64 k2 /\ s11 = .bool bb /\ k2 <= M.length /\ RowKit.Hid (∀ t, t < k2 -> M[t]? = some ⟨x0, x1, x2, x3, x4, x5, x6, x7⟩ -> bb = true) /\ Hid (Kept w7 wr [])) (fun _ s12 _ => M.length - (intOf s12).toNat)
   case atStart => exact ⟨0, false, rfl, rfl, Nat.zero_le _, iH (fun t ht => absurd ht (Nat.not_lt_zero _)), KR3⟩
   case round =>
   obtain ⟨k2, bb, rfl, rfl, hk3, HB, KR4⟩ := hrel
   by_cases hl4 : k2 < M.length
   ·as_aux_lemma =>
    have nx4 : (k2 : Int) < (M.length : Int) := by omega
    obtain ⟨y, hy2⟩ : ∃ y, M[k2]? = some y := ⟨_, List.getElem?_eq_getElem hl4⟩
    obtain ⟨y0, y1, y2, y3, y4, y5, y6, y7⟩ := y
    obtain ⟨g3, o3, eg3, s0, s1, s2, s3, s4, s5, s6, s7⟩ := (RB.out.kept KR4.out (by simp)).eight hy2
    subst eg3
    obtain ⟨r0, r1, r2, r3, r4, r5x, r6, r7⟩ := RX.out wr KR4.out
    obtain ⟨rr, EQ, hrr⟩ := ev_eqT x0 y0 x1 y1 x2 y2 x3 y3 x4 y4 x5 y5 x6 y6 x7 y7
    have HRR := iH hrr; have HY := iH hy2
    clear hrr hy2
    cases bb with
    | true =>
    go_upto_region 22 with fail
    go_region
    go_wp2
    have KX := iH KR4.out.drew
    go_roundw
    case rel => exact ⟨k2 + 1, true, by go_num, rfl, by omega, iH (fun _ _ _ => rfl), KX⟩
    case measure => simp [intOf]; omega
    | false =>
     go_upto_region 22 with fail
     go_region
     go_wp2
     have KX := iH KR4.out.drew
     go_roundw
     case rel => exact ⟨k2 + 1, rr, by go_num, rfl, by omega, iH (fun t ht h => by
    by_cases e : t = k2
    ·subst e
     exact HRR.out (Option.some.inj (HY.out.symm.trans h))
    ·exact absurd (HB.out t (by omega) h) (by decide)), KX⟩
     case measure => simp [intOf]; omega
   as_aux_lemma =>
   have nx4 : ¬ (k2 : Int) < (M.length : Int) := by omega
   have HS := iH (show ⟨x0, x1, x2, x3, x4, x5, x6, x7⟩ ∈ M -> bb = true from fun hm => by obtain ⟨t, ht⟩ := List.mem_iff_getElem?.1 hm; exact HB.out t (by obtain ⟨h, -⟩ := List.getElem?_eq_some_iff.1 ht; omega) ht)
   have hwb := WB.out
   go_upto_region 23 with fail
   refine wp_region_held_drew (S := fun Z => Kept w7 Z []) (by kernel_rfl) (KR4.out.drew) (fun hJ => ?_)
   refine wx 0 87 (.pointer (some ⟨hx, 0, none⟩)) rfl hJ ?_
   refine wx 1 88 (.pointer (some ⟨hx, 0, none⟩)) rfl hJ ?_
   refine wx 2 89 (.pointer (some ⟨hx, 1, none⟩)) rfl hJ ?_
   refine wx 3 90 (.pointer (some ⟨m, 0, none⟩)) rfl hJ ?_ (hy := fun V hV => by (obtain ⟨u0, u1, u2, u3⟩ := xqd (B7.out.keep hV).hx; go_simp))
   refine wx 4 91 (.slice (some ⟨g1, o1, none⟩) L.length ca) rfl hJ ?_
   refine wx 5 92 (.int .i64 j) rfl hJ ?_
   refine wx 6 93 (.pointer (some ⟨g1, o1 + j * 8, none⟩)) rfl hJ ?_
   refine wx 7 94 (.pointer (some ⟨g1, o1 + j * 8 + 1, none⟩)) rfl hJ ?_
   refine wx 8 95 (.int .i64 x1) rfl hJ ?_ (hy := fun V hV => by (obtain ⟨r0, r1, r2, r3, r4, r5x, r6, r7⟩ := RX.out V hV; go_simp))
   refine wr1 9 rfl (fun K hK => ?_)
   go_simp
   go_at_call 32
   refine ((show Calls Tryz.prog 32 #[.pointer (some ⟨m, 0, none⟩), .int .i64 x1] wr.drew fun e w' => e = .returned (.int .u8 (sx : Nat)) /\ wr.drew = w' from by rw [SXX.out]; exact dstate_any (B7.out.keep KR4.out.drew).ds x1)).mono ?_
   rintro e wz ⟨rfl, hw⟩
   subst hw
   clear hJ
   go_wp2_with fail
   refine hK.out _ _ (KR4.out.drew) (fun hJ => ?_)
   clear hK K
   refine wx 10 97 (.bool wb) rfl hJ ?_
   refine wx 11 13 (.bool wb) rfl hJ ?_
   refine wd ?_
   clear hJ
   have KR4d := iH KR4.out.drew
   clear hwb
   go_wp2
   go_loopw [13, 14] (fun s13 s14 wr => ∃ (k5 : Nat) (b5 : Bool), s14 = .int .i64 k5 /\ s13 = .bool b5 /\ k5 <= q.cs.length /\ RowKit.Hid (b5 = true -> wantB st q ⟨x0, x1, x2, x3, x4, x5, x6, x7⟩ = true) /\ Hid (Kept w7 wr [])) (fun _ s14 _ => q.cs.length - (intOf s14).toNat)
   case atStart => exact ⟨0, wb, rfl, rfl, Nat.zero_le _, iH (fun h => WN.out (.inl (by have := WB.out; rw [h, beq_iff_eq] at this; rw [<- SXX.out]; omega))), KR4d⟩
   case round =>
   obtain ⟨k5, b5, rfl, rfl, hk5, HQ, KR5⟩ := hrel
   have lk5 := LK.out wr KR5.out
   obtain ⟨-, q7, -, d7⟩ := lk5
   obtain ⟨u0, u1, u2, u3⟩ := xqd (B7.out.keep KR5.out).hx
   by_cases hl5 : k5 < q.cs.length
   ·as_aux_lemma =>
    have nx5 : (k5 : Int) < (q.cs.length : Int) := by omega
    obtain ⟨c, hc2⟩ : ∃ c, q.cs[k5]? = some c := ⟨_, List.getElem?_eq_getElem hl5⟩
    obtain ⟨g2, eg2, -⟩ := d7.at hc2
    subst eg2
    have CC := iH (fun (V : World) (hV : Kept w7 V []) => (LK.out V hV).2.2.2.three hc2)
    have CM := iH (List.mem_of_getElem? hc2)
    obtain ⟨c0, c1, c2⟩ := c
    simp only at CC
    clear hc2 d7
    go_upto_region 27 with fail
    go_cut [15, 16] (fun sb so wx => ∃ (wq : World) (zt : Nat) (y0 y1 : Int) (y2 : Option Addr) (y3 : Nat) (y4 : List Int) (y5 : Int), wq = wx /\ sb = .pointer (some ⟨zt, 0, none⟩) /\ RowKit.Hid (Kept w7 wq []) /\ RowKit.Hid (wq.heap[zt]? = some (.cells #[.int .i64 y0, .int .i64 y1, .slice y2 y4.length y3, .int .i64 y5] 38 (0, 0))) /\ RowKit.Hid (RdT wq (.slice y2 y4.length y3) y4) /\ RowKit.Hid ((⟨y0, y1, y4, y5⟩ : Pt) = tckP q c1))
    case first =>
     obtain ⟨w30, hw30⟩ : ∃ w', w' = wr.drew := ⟨_, rfl⟩
     have K30 := iH (show Kept w7 w30 [] by rw [hw30]; exact KR5.out.drew)
     refine wp_region_held_drew (S := fun Z => Kept w7 Z []) (by kernel_rfl) (by rw [<- hw30]; exact K30.out) (fun hJ => ?_)
     rw [<- hw30] at hJ ⊢
     clear hw30
     refine wx 0 112 (.pointer (some ⟨hx, 0, none⟩)) rfl hJ ?_
     refine wx 1 113 (.pointer (some ⟨hx, 0, none⟩)) rfl hJ ?_
     refine wx 2 114 (.pointer (some ⟨hx, 3, none⟩)) rfl hJ ?_
     refine wx 3 115 (.pointer (some ⟨h, 0, none⟩)) rfl hJ ?_ (hy := fun V hV => by (obtain ⟨u0, u1, u2, u3⟩ := xqd (B7.out.keep hV).hx; go_simp))
     refine wx 4 116 (.pointer (some ⟨h, 0, none⟩)) rfl hJ ?_
     refine wx 5 117 (.pointer (some ⟨h, 5, none⟩)) rfl hJ ?_
     refine wx 6 118 (.pointer (some ⟨hx, 0, none⟩)) rfl hJ ?_
     refine wx 7 119 (.pointer (some ⟨hx, 0, none⟩)) rfl hJ ?_
     refine wx 8 120 (.pointer (some ⟨hx, 3, none⟩)) rfl hJ ?_
     refine wx 9 121 (.pointer (some ⟨h, 0, none⟩)) rfl hJ ?_ (hy := fun V hV => by (obtain ⟨u0, u1, u2, u3⟩ := xqd (B7.out.keep hV).hx; go_simp))
     refine wx 10 122 (.pointer (some ⟨h, 0, none⟩)) rfl hJ ?_
     refine wx 11 123 (.pointer (some ⟨h, 7, none⟩)) rfl hJ ?_
     refine wx 12 124 (.pointer (some ⟨h, 7, none⟩)) rfl hJ ?_
     refine wx 13 125 (.slice (some ⟨g2, 0, none⟩) q.cs.length cc) rfl hJ ?_ (hy := fun V hV => by (obtain ⟨-, q7, -⟩ := LK.out V hV; go_simp))
     refine wx 14 126 (.int .i64 k5) rfl hJ ?_
     refine wx 15 127 (.pointer (some ⟨g2, k5 * 3, none⟩)) rfl hJ ?_
     refine wx 16 128 (.pointer (some ⟨g2, k5 * 3 + 1, none⟩)) rfl hJ ?_
     refine wx 17 129 (.int .i64 c1) rfl hJ ?_ (hy := fun V hV => by (obtain ⟨p0, p1, p2⟩ := CC.out V hV; go_simp))
     refine wpAnyH_ready (rs := [18, 22]) (by kernel_rfl) (by simp) ?_
     refine (AllReadyH.cons (o := _) rfl (fun K hK => ?_) (AllReadyH.cons (o := _) rfl (fun K hK => ?_) AllReadyH.nil))
     ·go_simp
      go_at_call 33
      refine (dget_any (B7.out.keep K30.out).ds ZA.out c1).mono ?_
      rintro e w31 ⟨y, gb, rfl, hpl, hry, p⟩
      obtain ⟨y0, y1, y2, y3, y4, y5⟩ := y
      simp only [Tk.cs, Tk.op] at *
      have HPL := iH hpl; have RY31 := iH hry
      have K31 := iH (K30.out.trans p (by simp))
      clear p hJ hpl hry
      go_wp2_with fail
      refine hK.out _ _ K31.out (fun hJ => ?_)
      clear hK K
      refine wx 19 111 (.tuple #[.agg #[.int .i64 y0, .int .i64 y1, .slice y2 y4.length y3, .int .i64 y5], .bool gb]) rfl hJ ?_
      refine wx 20 131 (.agg #[.int .i64 y0, .int .i64 y1, .slice y2 y4.length y3, .int .i64 y5]) rfl hJ ?_
      refine wx 21 132 (.bool gb) rfl hJ ?_
      refine wr1 22 rfl (fun K hK => ?_)
      go_simp
      refine hK.out _ _ (K31.out.alloc zT4) (fun hJ => ?_)
      clear hK K
      obtain ⟨zt, hz⟩ : ∃ z, z = w31.heap.size := ⟨_, rfl⟩
      obtain ⟨w32, hw32⟩ : ∃ w', w' = w31.alloc zT4 := ⟨_, rfl⟩
      have p : Kept w31 w32 [] := by rw [hw32]; exact (Kept.refl w31 []).alloc zT4
      have GT32 := iH (show w32.heap[zt]? = some zT4 by rw [hw32, hz]; exact heap_alloc_new w31 _)
      have K32 := iH (K31.out.trans p (by simp))
      have HZT := iH (show w7.heap.size <= zt by rw [hz]; exact K31.out.size)
      have RY32 := iH (RY31.out.keep p)
      rw [<- hw32, <- hz]
      have hJ := K32.out
      clear hw32 hz p
      refine wr1 23 rfl (fun K hK => ?_)
      obtain ⟨w33, hw33⟩ : ∃ w', w' = xqo w32 zt 0 [.int .i64 y0, .int .i64 y1, .slice y2 y4.length y3, .int .i64 y5] := ⟨_, rfl⟩
      have K33 := iH (show Kept w7 w33 [] by rw [hw33]; exact xqr K32.out HZT.out _)
      have HW33 := iH hw33
      have ff : Fo (fun y => y = zt) w32 w33 := by rw [hw33]; exact xqu (O := fun k => k = zt) _ w32 0 (Fo.refl _ w32) (.inl rfl)
      have GT33 := iH (show w33.heap[zt]? = some (.cells #[.int .i64 y0, .int .i64 y1, .slice y2 y4.length y3, .int .i64 y5] 38 (0, 0)) by rw [hw33]; exact xqH GT32.out rfl)
      have RY33 := iH (RY32.out.fo ff (xqK GT32.out (by decide)))
      clear hw33 ff
      obtain ⟨x0', x1', x2', x3'⟩ := xqc GT32.out
      obtain ⟨f0, f1, f2, f3⟩ := xqf GT32.out
      go_simp
      refine hK.out _ (xqo w32 zt 0 [.int .i64 y0, .int .i64 y1, .slice y2 y4.length y3, .int .i64 y5]) (by rw [<- HW33.out]; exact K33.out) (fun hJ => ?_)
      clear hK K
      rw [<- HW33.out] at hJ ⊢
      clear x0' x1' x2' x3' f0 f1 f2 f3
      refine wx 24 16 (.bool gb) rfl hJ ?_
      refine wd ?_
      clear hJ
      go_wp2_with fail
      go_meet
      exact ⟨w33, zt, y0, y1, y2, y3, y4, y5, rfl, rfl, K33, GT33, RY33, HPL⟩
     go_simp
     refine hK.out _ _ (K30.out.alloc zT4) (fun hJ => ?_)
     clear hK K
     obtain ⟨zt, hz⟩ : ∃ z, z = w30.heap.size := ⟨_, rfl⟩
     obtain ⟨w31, hw31⟩ : ∃ w', w' = w30.alloc zT4 := ⟨_, rfl⟩
     have p : Kept w30 w31 [] := by rw [hw31]; exact (Kept.refl w30 []).alloc zT4
     have GT31 := iH (show w31.heap[zt]? = some zT4 by rw [hw31, hz]; exact heap_alloc_new w30 _)
     have K31 := iH (K30.out.trans p (by simp))
     have HZT := iH (show w7.heap.size <= zt by rw [hz]; exact K30.out.size)
     rw [<- hw31, <- hz]
     have hJ := K31.out
     clear hw31 hz p
     refine wr1 18 rfl (fun K hK => ?_)
     go_simp
     go_at_call 33
     refine (dget_any (B7.out.keep K31.out).ds ZA.out c1).mono ?_
     rintro e w32 ⟨y, gb, rfl, hpl, hry, p⟩
     obtain ⟨y0, y1, y2, y3, y4, y5⟩ := y
     simp only [Tk.cs, Tk.op] at *
     have HPL := iH hpl; have RY32 := iH hry
     have K32 := iH (K31.out.trans p (by simp))
     have GT32 := iH (p.heap (by simp) GT31.out)
     clear p hJ hpl hry
     go_wp2_with fail
     refine hK.out _ _ K32.out (fun hJ => ?_)
     clear hK K
     refine wx 19 111 (.tuple #[.agg #[.int .i64 y0, .int .i64 y1, .slice y2 y4.length y3, .int .i64 y5], .bool gb]) rfl hJ ?_
     refine wx 20 131 (.agg #[.int .i64 y0, .int .i64 y1, .slice y2 y4.length y3, .int .i64 y5]) rfl hJ ?_
     refine wx 21 132 (.bool gb) rfl hJ ?_
     refine wr1 23 rfl (fun K hK => ?_)
     obtain ⟨w33, hw33⟩ : ∃ w', w' = xqo w32 zt 0 [.int .i64 y0, .int .i64 y1, .slice y2 y4.length y3, .int .i64 y5] := ⟨_, rfl⟩
     have K33 := iH (show Kept w7 w33 [] by rw [hw33]; exact xqr K32.out HZT.out _)
     have HW33 := iH hw33
     have ff : Fo (fun y => y = zt) w32 w33 := by rw [hw33]; exact xqu (O := fun k => k = zt) _ w32 0 (Fo.refl _ w32) (.inl rfl)
     have GT33 := iH (show w33.heap[zt]? = some (.cells #[.int .i64 y0, .int .i64 y1, .slice y2 y4.length y3, .int .i64 y5] 38 (0, 0)) by rw [hw33]; exact xqH GT32.out rfl)
     have RY33 := iH (RY32.out.fo ff (xqK GT32.out (by decide)))
     clear hw33 ff
     obtain ⟨x0', x1', x2', x3'⟩ := xqc GT32.out
     obtain ⟨f0, f1, f2, f3⟩ := xqf GT32.out
     go_simp
     refine hK.out _ (xqo w32 zt 0 [.int .i64 y0, .int .i64 y1, .slice y2 y4.length y3, .int .i64 y5]) (by rw [<- HW33.out]; exact K33.out) (fun hJ => ?_)
     clear hK K
     rw [<- HW33.out] at hJ ⊢
     clear x0' x1' x2' x3' f0 f1 f2 f3
     refine wx 24 16 (.bool gb) rfl hJ ?_
     refine wd ?_
     clear hJ
     go_wp2_with fail
     go_meet
     exact ⟨w33, zt, y0, y1, y2, y3, y4, y5, rfl, rfl, K33, GT33, RY33, HPL⟩
    case' rest => obtain ⟨w40, zt, y0, y1, y2, y3, y4, y5, rfl, rfl, K40, GZ0, RZ0, HPL⟩ := hcut
    clear u0 u1 u2 u3 q7
    obtain ⟨sb, hsb⟩ : ∃ sb, sb = xqv y1 y4 x1 := ⟨_, rfl⟩
    have SB := iH hsb
    clear hsb
    go_upto_region 28 with fail
    obtain ⟨w41, hw41⟩ : ∃ w', w' = w40.drew := ⟨_, rfl⟩
    have K41 := iH (show Kept w7 w41 [] by rw [hw41]; exact K40.out.drew)
    have GZ := iH (show w41.heap[zt]? = some (.cells #[.int .i64 y0, .int .i64 y1, .slice y2 y4.length y3, .int .i64 y5] 38 (0, 0)) by rw [hw41]; exact GZ0.out)
    have RZ := iH (show RdT w41 (.slice y2 y4.length y3) y4 by rw [hw41]; exact RZ0.out.keep (Kept.refl w40 []).drew)
    cases b5 with
    | true =>
    as_aux_lemma =>
    refine wp_region_held_drew (S := fun Z => Kept w41 Z []) (by kernel_rfl) (by rw [<- hw41]; exact Kept.refl _ _) (fun hJ => ?_)
    rw [<- hw41] at hJ ⊢
    clear hw41
    refine wx 0 133 (.bool true) rfl hJ ?_
    refine wx 1 134 (.bool true) rfl hJ ?_
    refine wn 2 135 rfl hJ ?_
    refine wn 3 136 rfl hJ ?_
    refine wn 4 137 rfl hJ ?_
    refine wn 5 138 rfl hJ ?_
    refine wn 6 139 rfl hJ ?_
    refine wn 7 140 rfl hJ ?_
    refine wn 8 141 rfl hJ ?_
    refine wn 9 142 rfl hJ ?_
    refine wn 10 143 rfl hJ ?_
    refine wn 11 144 rfl hJ ?_
    refine wn 12 145 rfl hJ ?_
    refine wn 13 146 rfl hJ ?_
    refine wn 14 147 rfl hJ ?_
    refine wn 15 148 rfl hJ ?_
    refine wn 16 149 rfl hJ ?_
    refine wn 17 150 rfl hJ ?_
    refine wn 18 151 rfl hJ ?_
    refine wn 19 152 rfl hJ ?_
    refine wn 20 153 rfl hJ ?_
    refine wn 21 154 rfl hJ ?_
    refine wn 22 155 rfl hJ ?_
    refine wn 23 156 rfl hJ ?_
    refine wx 24 157 (.bool true) rfl hJ ?_
    refine wx 25 13 (.bool true) rfl hJ ?_
    refine wd ?_
    clear hJ
    go_wp2
    have KX := iH (K41.out)
    go_roundw
    case rel => exact ⟨k5 + 1, true, by go_num, rfl, by omega, iH (HQ.out), KX⟩
    case measure => simp [intOf]; omega
    | false =>
    have hwc := WC.out
    cases wc with
    | false =>
    as_aux_lemma =>
    refine wp_region_held_drew (S := fun Z => Kept w41 Z []) (by kernel_rfl) (by rw [<- hw41]; exact Kept.refl _ _) (fun hJ => ?_)
    rw [<- hw41] at hJ ⊢
    clear hw41
    refine wx 0 133 (.bool false) rfl hJ ?_
    refine wx 1 134 (.bool false) rfl hJ ?_
    refine wx 2 135 (.pointer (some ⟨hx, 0, none⟩)) rfl hJ ?_
    refine wx 3 136 (.pointer (some ⟨hx, 0, none⟩)) rfl hJ ?_
    refine wx 4 137 (.pointer (some ⟨hx, 1, none⟩)) rfl hJ ?_
    refine wx 5 138 (.pointer (some ⟨m, 0, none⟩)) rfl hJ ?_ (hy := fun V hV => by (obtain ⟨u0, u1, u2, u3⟩ := xqd (B7.out.keep (K41.out.trans hV (by simp))).hx; go_simp))
    refine wx 6 139 (.slice (some ⟨g1, o1, none⟩) L.length ca) rfl hJ ?_
    refine wx 7 140 (.int .i64 j) rfl hJ ?_
    refine wx 8 141 (.pointer (some ⟨g1, o1 + j * 8, none⟩)) rfl hJ ?_
    refine wx 9 142 (.pointer (some ⟨g1, o1 + j * 8 + 1, none⟩)) rfl hJ ?_
    refine wx 10 143 (.int .i64 x1) rfl hJ ?_ (hy := fun V hV => by (obtain ⟨r0, r1, r2, r3, r4, r5x, r6, r7⟩ := RX.out V (K41.out.trans hV (by simp)); go_simp))
    refine wr1 11 rfl (fun K hK => ?_)
    go_simp
    go_at_call 32
    refine ((show Calls Tryz.prog 32 #[.pointer (some ⟨m, 0, none⟩), .int .i64 x1] w41 fun e w' => e = .returned (.int .u8 (sx : Nat)) /\ w41 = w' from by rw [SXX.out]; exact dstate_any (B7.out.keep K41.out).ds x1)).mono ?_
    rintro e wz ⟨rfl, hw⟩
    subst hw
    clear hJ
    go_wp2_with fail
    refine hK.out _ _ (Kept.refl w41 []) (fun hJ => ?_)
    clear hK K
    refine wx 12 145 (.bool false) rfl hJ ?_
    refine wx 13 146 (.bool false) rfl hJ ?_
    refine wn 14 147 rfl hJ ?_
    refine wn 15 148 rfl hJ ?_
    refine wn 16 149 rfl hJ ?_
    refine wn 17 150 rfl hJ ?_
    refine wn 18 151 rfl hJ ?_
    refine wn 19 152 rfl hJ ?_
    refine wn 20 153 rfl hJ ?_
    refine wn 21 154 rfl hJ ?_
    refine wn 22 155 rfl hJ ?_
    refine wx 23 156 (.bool false) rfl hJ ?_
    refine wx 24 157 (.bool false) rfl hJ ?_
    refine wx 25 13 (.bool false) rfl hJ ?_
    refine wd ?_
    clear hJ
    go_wp2
    have KX := iH (K41.out)
    go_roundw
    case rel => exact ⟨k5 + 1, false, by go_num, rfl, by omega, iH (HQ.out), KX⟩
    case measure => simp [intOf]; omega
    | true =>
    as_aux_lemma =>
    refine wp_region_held_drew (S := fun Z => Kept w41 Z []) (by kernel_rfl) (by rw [<- hw41]; exact Kept.refl _ _) (fun hJ => ?_)
    rw [<- hw41] at hJ ⊢
    clear hw41
    refine wx 0 133 (.bool false) rfl hJ ?_
    refine wx 1 134 (.bool false) rfl hJ ?_
    refine wx 2 135 (.pointer (some ⟨hx, 0, none⟩)) rfl hJ ?_
    refine wx 3 136 (.pointer (some ⟨hx, 0, none⟩)) rfl hJ ?_
    refine wx 4 137 (.pointer (some ⟨hx, 1, none⟩)) rfl hJ ?_
    refine wx 5 138 (.pointer (some ⟨m, 0, none⟩)) rfl hJ ?_ (hy := fun V hV => by (obtain ⟨u0, u1, u2, u3⟩ := xqd (B7.out.keep (K41.out.trans hV (by simp))).hx; go_simp))
    refine wx 6 139 (.slice (some ⟨g1, o1, none⟩) L.length ca) rfl hJ ?_
    refine wx 7 140 (.int .i64 j) rfl hJ ?_
    refine wx 8 141 (.pointer (some ⟨g1, o1 + j * 8, none⟩)) rfl hJ ?_
    refine wx 9 142 (.pointer (some ⟨g1, o1 + j * 8 + 1, none⟩)) rfl hJ ?_
    refine wx 10 143 (.int .i64 x1) rfl hJ ?_ (hy := fun V hV => by (obtain ⟨r0, r1, r2, r3, r4, r5x, r6, r7⟩ := RX.out V (K41.out.trans hV (by simp)); go_simp))
    refine wr1 11 rfl (fun K hK => ?_)
    go_simp
    go_at_call 32
    refine ((show Calls Tryz.prog 32 #[.pointer (some ⟨m, 0, none⟩), .int .i64 x1] w41 fun e w' => e = .returned (.int .u8 (sx : Nat)) /\ w41 = w' from by rw [SXX.out]; exact dstate_any (B7.out.keep K41.out).ds x1)).mono ?_
    rintro e wz ⟨rfl, hw⟩
    subst hw
    clear hJ
    go_wp2_with fail
    refine hK.out _ _ (Kept.refl w41 []) (fun hJ => ?_)
    clear hK K
    refine wx 12 145 (.bool true) rfl hJ ?_
    refine wx 13 146 (.bool true) rfl hJ ?_
    refine wx 14 147 (.pointer (some ⟨zt, 1, none⟩)) rfl hJ ?_
    refine wx 15 148 (.agg #[.int .i64 y1, .slice y2 y4.length y3]) rfl hJ ?_ (hy := fun V hV => by (obtain ⟨t0, t1, t2, t3⟩ := xqc (hV.heap (by simp) GZ.out); go_simp))
    refine wx 16 149 (.slice (some ⟨g1, o1, none⟩) L.length ca) rfl hJ ?_
    refine wx 17 150 (.int .i64 j) rfl hJ ?_
    refine wx 18 151 (.pointer (some ⟨g1, o1 + j * 8, none⟩)) rfl hJ ?_
    refine wx 19 152 (.pointer (some ⟨g1, o1 + j * 8 + 1, none⟩)) rfl hJ ?_
    refine wx 20 153 (.int .i64 x1) rfl hJ ?_ (hy := fun V hV => by (obtain ⟨r0, r1, r2, r3, r4, r5x, r6, r7⟩ := RX.out V (K41.out.trans hV (by simp)); go_simp))
    refine wr1 21 rfl (fun K hK => ?_)
    go_simp
    go_at_call 34
    refine ((show Calls Tryz.prog 34 #[.agg #[.int .i64 y1, .slice y2 y4.length y3], .int .i64 x1] w41 fun e w' => e = .returned (.bool sb) /\ Kept w41 w' [] from by rw [SB.out]; exact rsees_any y1 x1 _ y4 w41 RZ.out.1)).mono ?_
    rintro e w42 ⟨rfl, p⟩
    have K42 := iH p
    clear p hJ
    go_wp2_with fail
    refine hK.out _ _ K42.out (fun hJ => ?_)
    clear hK K
    refine wx 22 155 (.bool (!sb)) rfl hJ ?_
    refine wx 23 156 (.bool (!sb)) rfl hJ ?_
    refine wx 24 157 (.bool (!sb)) rfl hJ ?_
    refine wx 25 13 (.bool (!sb)) rfl hJ ?_
    refine wd ?_
    clear hJ
    go_wp2
    have KX := iH (K41.out.trans K42.out (by simp))
    go_roundw
    case rel => exact ⟨k5 + 1, (!sb), by go_num, rfl, by omega, iH (fun hs => WN.out (.inr ⟨by have := WC.out; rw [beq_iff_eq] at this; rw [<- SXX.out]; omega, ⟨c0, c1, c2⟩, CM.out, by rw [<- HPL.out, <- SB.out]; simpa using hs⟩)), KX⟩
    case measure => simp [intOf]; omega
   as_aux_lemma =>
   have nx5 : ¬ (k5 : Int) < (q.cs.length : Int) := by omega
   clear d7
   cases b5 with
   | true =>
   have hbb : bb = true := HS.out (HXM.out (HQ.out rfl))
   subst hbb
   go_wp2
   go_roundw
   case rel => exact ⟨j + 1, by go_num, by omega, KR5⟩
   case measure => simp [intOf]; omega
   | false =>
   go_wp2
   go_roundw
   case rel => exact ⟨j + 1, by go_num, by omega, KR5⟩
   case measure => simp [intOf]; omega
  as_aux_lemma =>
  have nx3 : ¬ (j : Int) < (L.length : Int) := by omega
  go_wp2
  go_ret
  exact ⟨rfl, (K1.out.trans (B7.out.k0.trans KR3.out (by simp)) (by simp)).below (Nat.le_refl _) (by simp)⟩
theorem lifted (os : Os) (started : os.Started) (H : Type) (enc : TypeId × Value -> H) :
  ReturnsInHanded {} Tryz.checked os 5 .any (Rows.queueKeepsSpec.pre6 enc Tryz.prog Tryz.f5 Rows.queueKeepsRow.domain false) (Rows.queueKeepsSpec.post enc Tryz.prog Tryz.f5 false true false false) := by
 refine returnsInHanded_of_change (C := Tryz.checked) own started (by kernel_rfl) Tryz.func5
  (ChangeSpec.witness6 (enc := enc) (C := Tryz.checked) false ⟨#[], #[.slice none 0 0, .int .u8 0], []⟩ 8 (by kernel_rfl) (by kernel_rfl) (by kernel_rfl) (by kernel_rfl)) ?_
 intro W base args ds gs before hval0 hW hcnd _
 have hval : ∀ (j : Nat) t v, Tryz.f5.params[j]? = some t -> args[j]? = some v -> Value.okWide Tryz.prog W .any base t v := hval0
 have hW' := hW
 obtain ⟨p, q, hA0, hV, rfl, hfz, hnd⟩ := hW
 have hA : DataW.TrodAll enc Tryz.prog W 0 (fun _ => true) true Tryz.f5.params.toList args.toList ds p := hA0
 rw [Tryz.params5] at hA hval
 obtain ⟨v0, vs0, d0, ds0, p0, q0, hargs, rfl, rfl, h0, r0⟩ := trodAll_cons hA
 obtain ⟨v1, vs1, d1, ds1, p1, q1, rfl, rfl, rfl, h1, r1⟩ := trodAll_cons r0
 obtain ⟨rfl, rfl, rfl⟩ := trodAll_nil r1
 obtain rfl : args = #[v0, v1] := by cases args; simp_all
 obtain ⟨rfl, rfl⟩ := trodVars_none hV
 obtain ⟨a0, len0, cap0, rfl⟩ := okWide_slice Tryz.underlying22 (hval 0 22 v0 rfl rfl)
 have k0 := h0
 have lt0 : ∀ x ∈ p0, x.block < W.heap.size := by obtain ⟨m, hm⟩ := k0; exact DataW.trod_lt m _ _ _ hm
 obtain ⟨z0, w0⟩ : ∃ f, IsActsQ W W.heap.size a0 len0 f /\ len0 <= maxLen := by
  obtain ⟨fuel, hf⟩ := h0
  exact actsq_open (by simpa [Value.cells] using hf)
 obtain ⟨a1, rfl, rfl, rfl, w1⟩ := open_int Tryz.underlying5 (hval 1 5 v1 rfl rfl) h1
 clear hA0 hval0
 refine (walk a0 len0 cap0 z0 a1 W w0 w1).mono fun e W' ⟨he, bel⟩ => ?_
 subst he
 exact ⟨_, rfl, _, _, _, [], _, [], hW', trodAll_mk1 (shut_bool Tryz.underlying4 _), (trodAll_cons_mk (Below.trod laidOut (by kernel_rfl) (of_decide_eq_true (by kernel_rfl)) k0 bel lt0) (trodAll_cons_mk (shut_int Tryz.underlying5 w1) trodAll_mk0)), rfl, bel.frame _, fun h => by cases h⟩
theorem over : Rows.queueKeepsRow.holds Tryz.pinned (OpenSpec.ofChange Rows.queueKeepsSpec) :=
 OpenClaim.holds_of_wide 5 Tryz.f5 rfl rfl rfl rfl rfl rfl rfl ⟨rfl, rfl, rfl, rfl, rfl⟩ rfl rfl rfl rfl rfl (by kernel_rfl) Tryz.func5 (by kernel_rfl)
  (of_decide_eq_true (by kernel_rfl)) (by unfold Func.isWrapper; first | (rw [if_pos (by decide +kernel)]; kernel_rfl) | (rw [if_neg (by decide +kernel)]; exact ⟨rfl, rfl⟩))
  (fun os started H enc _ => lifted os started H enc)
theorem proved : Rows.QueueKeepsSaid :=
 over
end Go.Proofs.YticiofkiffgclaaGreat.queueKeeps
namespace Go.Proofs.YticiofkiffgclaaGreat
theorem queueKeeps_holds : Rows.QueueKeepsSaid := queueKeeps.proved
#print axioms queueKeeps_holds
end Go.Proofs.YticiofkiffgclaaGreat
