/-
  Proved: whatever the arguments are, carrierlaw15.QueueRetries answers true and leaves its arguments as they were. No condition.
-/
import Derived.Test.YticiofkiffgclaaGreatNr48
import Derived.Test.YticiofkiffgclaaGreatRows
import Derived.Test.YticiofkiffgclaaGreatChecked
import Derived.ProofKit
import Derived.OpenShut
import Derived.ChangeOld
import Derived.Below
namespace Go.Proofs.YticiofkiffgclaaGreat.queueRetries
open Go.ChangeShapes Go.WideShapes Go.ChangeAt Go.RowKit
set_option linter.unusedVariables false

theorem own : ownKnob Tryz.prog.godebug = none := by kernel_rfl
theorem laidOut : laidOutB Tryz.prog = true := by kernel_rfl

def Kz (w0 w : World) (a : Hk) (st : List Nat) (q : Qs) (z : Nat) (c : Array Value) : Prop := Kept w0 w [] ∧ w.heap[z]? = some (.cells c 50 (0, 0)) ∧ ∃ O, KS w w0.heap.size a st q O ∧ ¬ O z
theorem Kz.keep {w0 w w' : World} {a : Hk} {st : List Nat} {q : Qs} {z : Nat} {c : Array Value} (h : Kz w0 w a st q z c) (k : Kept w w' []) : Kz w0 w' a st q z c := by
  obtain ⟨k0, g, O, s, n⟩ := h
  exact ⟨k0.trans k (by simp), k.heap (by simp) g, O, s.keep k, n⟩
theorem kz_post {w0 w w' : World} {a : Hk} {st : List Nat} {q q' : Qs} {O : Nat → Prop} {z : Nat} {c : Array Value} (k0 : Kept w0 w []) (g : w.heap[z]? = some (.cells c 50 (0, 0))) (s : KS w w0.heap.size a st q O) (n : ¬ O z) (p : KPost w w0.heap.size a st O q' w') : Kz w0 w' a st q' z c := by
  have hk := (Kh.post s k0 p).2
  obtain ⟨O', s', t⟩ := p
  exact ⟨hk, t.1.heap n g, O', s', fun h => (t.2 z h).elim n (fun h2 => by have := heap_lt g; omega)⟩
theorem kz_mpost {w0 w w' : World} {a : Hk} {st' : List Nat} {q : Qs} {O : Nat → Prop} {z : Nat} {c : Array Value} (k0 : Kept w0 w []) (g : w.heap[z]? = some (.cells c 50 (0, 0))) (n : ¬ O z) (p : MPost w w0.heap.size a st' q O w') : Kz w0 w' a st' q z c :=
  ⟨(Kh.mpost k0 p).2, p.2.heap g (by decide), O, p.1, n⟩
def tX : ByteArray := ⟨#[120]⟩
theorem rt_nE : nxtE ⟨tb1 1 2 5 tX, 0, [pt1, pt2], [⟨qa, 1, 0⟩, ⟨qb, 1, 0⟩], [], 2⟩ qa = 0 := by
  unfold nxtE
  rw [(cA 1 0 1 0).1]
  rfl

set_option maxHeartbeats 8000000 in
set_option maxRecDepth 100000 in
theorem walk (a0 : Int) (a1 : Bool) (w0 : (Lit.int .u8 a0).wf = true) (W : World) :
    Calls Tryz.prog 6 #[.int .u8 a0, .bool a1] W fun e w' => e = .returned (.bool true) ∧ Below W.heap.size W w' := by
  have hb := bounds_u8 w0
  have h0 : 0 ≤ a0 := hb.1
  have h1 : a0 ≤ 255 := by omega
  have ew : wrap64 a0 = a0 := by simp only [wrap64]; omega
  have ew1 : wrap64 (a0 - 1) = a0 - 1 := by simp only [wrap64]; omega
  have AT := Lib.hid h0
  clear w0 hb
  go_enter Tryz.func6, Tryz.ntmps6
  go_wp2_with fail
  refine (early_any W).mono ?_
  rintro e w1 ⟨rfl, k1⟩
  have K1 := Lib.hid k1; clear k1
  go_wp2_with fail
  refine (kh_new K1.out).mono ?_
  rintro e w2 ⟨p, rfl, k2, hn⟩
  have HN := Lib.hid (hn.out w2 (Kept.refl _ _)); clear k2 hn
  go_wp2_with fail
  refine HN.out.mono ?_
  rintro e w3 ⟨a, rfl, rfl, c, k3⟩
  obtain ⟨⟨O3, s3⟩, k3⟩ := c
  have S3 := Lib.hid s3; have K3 := Lib.hid k3
  have Z3 := Lib.hid SzQ.new
  clear s3 k3 HN
  have C4 := ktck_any S3.out Z3.out (by omega) (by simp) 0
  rw [show addE Qs.new.ps ((([] : List Nat).length : Int) + 1) (opens []) 0 = 0 from rfl, show tckQ Qs.new ((([] : List Nat).length : Int) + 1) (opens []) 0 = tckQ Qs.new 1 [] 0 from rfl, show addP Qs.new.ps ((([] : List Nat).length : Int) + 1) (opens []) 0 = pt1 from rfl] at C4
  have C4 := Lib.hid C4
  go_wp2_with fail
  refine C4.out.mono ?_
  rintro e w4 ⟨y4, rfl, -, -, px⟩
  obtain ⟨⟨O4, s4⟩, k4⟩ := Kh.post S3.out K3.out px
  have S4 := Lib.hid s4; have K4 := Lib.hid k4
  have Z4 := Lib.hid (show SzQ 1 (tckQ Qs.new 1 [] 0) from Z3.out.tck 0 (by omega) (by simp))
  clear px s4 k4 C4
  have C5 := krgs_any S4.out Z4.out (by omega) qa
  rw [rt_reg.1, rt_reg.2.1] at C5
  have C5 := Lib.hid C5
  go_wp2_with fail
  refine C5.out.mono ?_
  rintro e w5 ⟨rfl, px⟩
  obtain ⟨⟨O5, s5⟩, k5⟩ := Kh.post S4.out K4.out px
  have S5 := Lib.hid s5; have K5 := Lib.hid k5
  have Z5 := Lib.hid (show SzQ 1 ⟨fun _ => [], 0, [pt1], [⟨qa, 1, 0⟩], [], 1⟩ from by have := Z4.out.rgs qa; rw [rt_reg.2.1] at this; exact this)
  clear px s5 k5 C5
  have C6 := krgs_any S5.out Z5.out (by omega) qb
  rw [rt_reg.2.2.1, rt_reg.2.2.2] at C6
  have C6 := Lib.hid C6
  go_wp2_with fail
  refine C6.out.mono ?_
  rintro e w6 ⟨rfl, px⟩
  obtain ⟨⟨O6, s6⟩, k6⟩ := Kh.post S5.out K5.out px
  have S6 := Lib.hid s6; have K6 := Lib.hid k6
  have Z6 := Lib.hid (show SzQ 1 ⟨fun _ => [], 0, [pt1], [⟨qa, 1, 0⟩, ⟨qb, 1, 0⟩], [], 1⟩ from by have := Z5.out.rgs qb; rw [rt_reg.2.2.2] at this; exact this)
  clear px s6 k6 C6
  have C7 := Lib.hid (show Calls Tryz.prog 18 #[.pointer (some ⟨a.p, 0, none⟩)] w6 fun e w' => e = .returned (.tuple #[.int .i64 1, .int .i64 0]) ∧ MPost w6 W.heap.size a [1] _ O6 w' from kbegin_any S6.out (by simp))
  go_wp2_with fail
  refine C7.out.mono ?_
  rintro e w7 ⟨rfl, px⟩
  obtain ⟨⟨O7, s7⟩, k7⟩ := Kh.mpost K6.out px
  have S7 := Lib.hid s7; have K7 := Lib.hid k7
  clear px s7 k7 C7
  have C8 := kwri_any S7.out Z6.out (by omega) 1 1 2 5 tX
  rw [rt_wri, show (wriV ⟨fun _ => [], 0, [pt1], [⟨qa, 1, 0⟩, ⟨qb, 1, 0⟩], [], 1⟩ 1 1 2 5 tX).cs = #[.int .i64 1, .int .i64 1, .string ⟨#[]⟩, .int .i64 0, .int .i64 1, .int .u8 2, .int .i64 5, .string ⟨#[120]⟩] from rfl] at C8
  have C8 := Lib.hid C8
  go_wp2_with fail
  refine C8.out.mono ?_
  rintro e w8 ⟨rfl, px⟩
  obtain ⟨⟨O8, s8⟩, k8⟩ := Kh.post S7.out K7.out px
  have Z8 := Lib.hid (show SzQ 2 ⟨tb1 1 2 5 tX, 0, [pt1], [⟨qa, 1, 0⟩, ⟨qb, 1, 0⟩], [], 2⟩ from by have := (Z6.out.wri (x := 1) (by omega) (by omega) 1 2 5 tX).1; rw [rt_wri] at this; exact this)
  obtain ⟨z, hz⟩ : ∃ z, z = w8.heap.size := ⟨_, rfl⟩
  obtain ⟨w9, hw9⟩ : ∃ w9, w9 = w8.alloc (.cells #[.int .i64 1, .int .i64 1, .string ⟨#[]⟩, .int .i64 0, .int .i64 1, .int .u8 2, .int .i64 5, .string ⟨#[120]⟩] 50) := ⟨_, rfl⟩
  have kz : Kz W w9 a [1] ⟨tb1 1 2 5 tX, 0, [pt1], [⟨qa, 1, 0⟩, ⟨qb, 1, 0⟩], [], 2⟩ z #[.int .i64 1, .int .i64 1, .string ⟨#[]⟩, .int .i64 0, .int .i64 1, .int .u8 2, .int .i64 5, .string ⟨#[120]⟩] := by
    have k : Kept w8 w9 [] := by rw [hw9]; exact (Kept.refl w8 []).alloc _
    exact ⟨k8.trans k (by simp), by rw [hw9, hz]; exact heap_alloc_new w8 _, O8, s8.keep k, fun h => by have := (s8.lt z h).2; omega⟩
  have X9 := Lib.hid kz; have HW9 := Lib.hid hw9; have HZ := Lib.hid hz
  clear px s8 k8 C8 kz hw9 hz
  obtain ⟨k9, g9, O9, s9, n9⟩ := X9.out
  have S9 := Lib.hid s9; have KG9 := Lib.hid (And.intro k9 (And.intro g9 n9))
  clear k9 g9 s9 n9
  have C10 := (show Calls Tryz.prog 21 #[.pointer (some ⟨a.p, 0, none⟩), .int .i64 1] w9 fun e w' => e = .returned (.int .i64 0) ∧ MPost w9 W.heap.size a [2] _ O9 w' from kcommit_any S9.out 1 (wf_i64 (by omega)))
  have C10 := Lib.hid C10
  go_wp2_with fail
  rw [← HW9.out, ← HZ.out]
  refine C10.out.mono ?_
  rintro e w10 ⟨rfl, px⟩
  have X10 := Lib.hid (kz_mpost KG9.out.1 KG9.out.2.1 KG9.out.2.2 px)
  clear px C10
  obtain ⟨k10, g10, O10, s10, n10⟩ := X10.out
  have S10 := Lib.hid s10; have KG10 := Lib.hid (And.intro k10 (And.intro g10 n10))
  clear k10 g10 s10 n10
  have C11 := ktck_any S10.out Z8.out (by omega) (by simp) 0
  rw [show (([2] : List Nat).length : Int) + 1 = 2 from rfl, show opens [2] = [] from rfl, show addE [pt1] 2 [] 0 = 0 from (rt_tck2 1 2 5 tX).1, (rt_tck2 1 2 5 tX).2] at C11
  have C11 := Lib.hid C11
  go_wp2_with fail
  refine C11.out.mono ?_
  rintro e w11 ⟨y11, rfl, -, -, px⟩
  have X11 := Lib.hid (kz_post KG10.out.1 KG10.out.2.1 S10.out KG10.out.2.2 px)
  have Z11 := Lib.hid (show SzQ 3 ⟨tb1 1 2 5 tX, 0, [pt1, pt2], [⟨qa, 1, 0⟩, ⟨qb, 1, 0⟩], [], 2⟩ from by have := Z8.out.tck (M := 2) (l := []) 0 (by omega) (by simp); rw [(rt_tck2 1 2 5 tX).2] at this; exact this)
  clear px C11
  obtain ⟨k11, g11, O11, s11, n11⟩ := X11.out
  have S11 := Lib.hid s11; have KG11 := Lib.hid (And.intro k11 (And.intro g11 n11))
  clear k11 g11 s11 n11
  have C12 := knxt_any S11.out Z11.out qa
  rw [show nxtE ⟨tb1 1 2 5 tX, 0, [pt1, pt2], [⟨qa, 1, 0⟩, ⟨qb, 1, 0⟩], [], 2⟩ qa = 0 from rt_nE, (rt_next 1 2 5 tX).2] at C12
  have C12 := Lib.hid C12
  go_wp2_with fail
  refine C12.out.mono ?_
  rintro e w12 ⟨y12, rfl, -, -, px⟩
  have X12 := Lib.hid (kz_post KG11.out.1 KG11.out.2.1 S11.out KG11.out.2.2 px)
  have Z12 := Lib.hid (show SzQ 3 (q5 1 2 5 tX) from by have := Z11.out.nxt qa; rw [(rt_next 1 2 5 tX).2] at this; exact this)
  clear px C12
  obtain ⟨k12, g12, O12, s12, n12⟩ := X12.out
  have S12 := Lib.hid s12; have KG12 := Lib.hid (And.intro k12 (And.intro g12 n12))
  clear k12 g12 s12 n12
  have C13 := krty_any S12.out Z12.out (by omega) qa 1 a0
  rw [(rt_retry 1 2 5 tX a0).1, (rt_retry 1 2 5 tX a0).2.1] at C13
  have C13 := Lib.hid C13
  obtain ⟨yg0, yg1, yg2, yg3, yg4, yg5, yg6, yg7⟩ := ev_cells KG12.out.2.1
  go_wp2_with fail
  refine C13.out.mono ?_
  rintro e w13 ⟨rfl, px⟩
  have X13 := Lib.hid (kz_post KG12.out.1 KG12.out.2.1 S12.out KG12.out.2.2 px)
  have Z13 := Lib.hid (show SzQ 3 (q6 1 2 5 tX a0) from by have := Z12.out.rty [2] qa 1 a0; rw [(rt_retry 1 2 5 tX a0).2.1] at this; exact this)
  clear px C13
  obtain ⟨k13, g13, O13, s13, n13⟩ := X13.out
  have S13 := Lib.hid s13; have KG13 := Lib.hid (And.intro k13 (And.intro g13 n13))
  clear k13 g13 s13 n13
  have C14 := krty_any S13.out Z13.out (by omega) qa 1 a0
  rw [(rt_retry 1 2 5 tX a0).2.2.1, (rt_retry 1 2 5 tX a0).2.2.2.1] at C14
  have C14 := Lib.hid C14
  clear yg0 yg1 yg2 yg3 yg4 yg5 yg6 yg7
  obtain ⟨yg0, yg1, yg2, yg3, yg4, yg5, yg6, yg7⟩ := ev_cells KG13.out.2.1
  go_wp2_with fail
  refine C14.out.mono ?_
  rintro e w14 ⟨rfl, px⟩
  have X14 := Lib.hid (kz_post KG13.out.1 KG13.out.2.1 S13.out KG13.out.2.2 px)
  have Z14 := Lib.hid (Z13.out)
  clear px C14
  obtain ⟨k14, g14, O14, s14, n14⟩ := X14.out
  have S14 := Lib.hid s14; have KG14 := Lib.hid (And.intro k14 (And.intro g14 n14))
  clear k14 g14 s14 n14
  have C15 := krty_any S14.out Z14.out (by omega) qa 2 a0
  rw [(rt_retry 1 2 5 tX a0).2.2.2.2.1, (rt_retry 1 2 5 tX a0).2.2.2.2.2.1] at C15
  have C15 := Lib.hid C15
  clear yg0 yg1 yg2 yg3 yg4 yg5 yg6 yg7
  obtain ⟨yg0, yg1, yg2, yg3, yg4, yg5, yg6, yg7⟩ := ev_cells KG14.out.2.1
  go_wp2_with fail
  refine C15.out.mono ?_
  rintro e w15 ⟨rfl, px⟩
  have X15 := Lib.hid (kz_post KG14.out.1 KG14.out.2.1 S14.out KG14.out.2.2 px)
  have Z15 := Lib.hid (Z14.out)
  clear px C15
  obtain ⟨k15, g15, O15, s15, n15⟩ := X15.out
  have S15 := Lib.hid s15; have KG15 := Lib.hid (And.intro k15 (And.intro g15 n15))
  clear k15 g15 s15 n15
  have C16 := krty_any S15.out Z15.out (by omega) qb 1 a0
  rw [(rt_retry 1 2 5 tX a0).2.2.2.2.2.2.1, (rt_retry 1 2 5 tX a0).2.2.2.2.2.2.2] at C16
  have C16 := Lib.hid C16
  clear yg0 yg1 yg2 yg3 yg4 yg5 yg6 yg7
  obtain ⟨yg0, yg1, yg2, yg3, yg4, yg5, yg6, yg7⟩ := ev_cells KG15.out.2.1
  go_wp2_with fail
  refine C16.out.mono ?_
  rintro e w16 ⟨rfl, px⟩
  have X16 := Lib.hid (kz_post KG15.out.1 KG15.out.2.1 S15.out KG15.out.2.2 px)
  have Z16 := Lib.hid (Z15.out)
  clear px C16
  obtain ⟨k16, g16, O16, s16, n16⟩ := X16.out
  have S16 := Lib.hid s16; have KG16 := Lib.hid (And.intro k16 (And.intro g16 n16))
  clear k16 g16 s16 n16
  have C17 := kfns_any S16.out Z16.out qa
  rw [(rt_fin 1 2 5 tX a0).1, (rt_fin 1 2 5 tX a0).2] at C17
  generalize finN (q6 1 2 5 tX a0).cs qa = fn at C17
  have C17 := Lib.hid C17
  clear yg0 yg1 yg2 yg3 yg4 yg5 yg6 yg7
  go_wp2_with fail
  refine C17.out.mono ?_
  rintro e w17 ⟨rfl, px⟩
  have X17 := Lib.hid (kz_post KG16.out.1 KG16.out.2.1 S16.out KG16.out.2.2 px)
  have Z17 := Lib.hid (show SzQ 3 (q7 1 2 5 tX a0) from by have := Z16.out.fns qa; rw [(rt_fin 1 2 5 tX a0).2] at this; exact this)
  clear px C17
  obtain ⟨k17, g17, O17, s17, n17⟩ := X17.out
  have S17 := Lib.hid s17; have KG17 := Lib.hid (And.intro k17 (And.intro g17 n17))
  clear k17 g17 s17 n17
  have C18 := (show Calls Tryz.prog 18 #[.pointer (some ⟨a.p, 0, none⟩)] w17 fun e w' => e = .returned (.tuple #[.int .i64 2, .int .i64 0]) ∧ MPost w17 W.heap.size a [2, 1] _ O17 w' from kbegin_any S17.out (by simp))
  have C18 := Lib.hid C18
  go_wp2_with fail
  refine C18.out.mono ?_
  rintro e w18 ⟨rfl, px⟩
  have X18 := Lib.hid (kz_mpost KG17.out.1 KG17.out.2.1 KG17.out.2.2 px)
  clear px C18
  obtain ⟨k18, g18, O18, s18, n18⟩ := X18.out
  have S18 := Lib.hid s18; have KG18 := Lib.hid (And.intro k18 (And.intro g18 n18))
  clear k18 g18 s18 n18
  have C19 := kmnt_any S18.out Z17.out (by omega) 2 (a0 - 1)
  rw [(rt_maint 1 2 5 tX a0).1, (rt_maint 1 2 5 tX a0).2.1] at C19
  have C19 := Lib.hid C19
  go_wp2_with fail
  refine C19.out.mono ?_
  rintro e w19 ⟨v19, rfl, ow, px⟩
  have X19 := Lib.hid (kz_post KG18.out.1 KG18.out.2.1 S18.out KG18.out.2.2 px)
  have Z19 := Lib.hid (show SzQ 4 (q7 1 2 5 tX a0) from Z17.out.mono (by omega))
  obtain ⟨u19, c19, hv19⟩ := ow.shape
  subst hv19
  clear px C19 ow
  obtain ⟨k19, g19, O19, s19, n19⟩ := X19.out
  have S19 := Lib.hid s19; have KG19 := Lib.hid (And.intro k19 (And.intro g19 n19))
  clear k19 g19 s19 n19
  have C20 := kmnt_any S19.out Z19.out (by omega) 2 a0
  rw [(rt_maint 1 2 5 tX a0).2.2.1, (rt_maint 1 2 5 tX a0).2.2.2] at C20
  have C20 := Lib.hid C20
  go_wp2_with fail
  refine C20.out.mono ?_
  rintro e w20 ⟨v20, rfl, ow, px⟩
  have X20 := Lib.hid (kz_post KG19.out.1 KG19.out.2.1 S19.out KG19.out.2.2 px)
  have Z20 := Lib.hid (show SzQ 5 (q8 1 2 5 tX) from by have := Z19.out.mnt (x := 2) (by omega) a0; rw [(rt_maint 1 2 5 tX a0).2.2.2] at this; exact this)
  obtain ⟨u20, c20, hv20⟩ := ow.shape
  subst hv20
  clear px C20 ow
  obtain ⟨k20, g20, O20, s20, n20⟩ := X20.out
  have S20 := Lib.hid s20; have KG20 := Lib.hid (And.intro k20 (And.intro g20 n20))
  clear k20 g20 s20 n20
  have C21 := (show Calls Tryz.prog 21 #[.pointer (some ⟨a.p, 0, none⟩), .int .i64 2] w20 fun e w' => e = .returned (.int .i64 0) ∧ MPost w20 W.heap.size a [2, 2] _ O20 w' from kcommit_any S20.out 2 (wf_i64 (by omega)))
  have C21 := Lib.hid C21
  go_wp2_with fail
  refine C21.out.mono ?_
  rintro e w21 ⟨rfl, px⟩
  have X21 := Lib.hid (kz_mpost KG20.out.1 KG20.out.2.1 KG20.out.2.2 px)
  clear px C21
  obtain ⟨k21, g21, O21, s21, n21⟩ := X21.out
  have S21 := Lib.hid s21; have KG21 := Lib.hid (And.intro k21 (And.intro g21 n21))
  clear k21 g21 s21 n21
  have C22 := ktck_any S21.out Z20.out (by omega) (by simp) a0
  rw [show (([2, 2] : List Nat).length : Int) + 1 = 3 from rfl, show opens [2, 2] = [] from rfl, show addE (q8 1 2 5 tX).ps 3 [] a0 = 0 from (rt_tck3 1 2 5 tX AT.out).1, (rt_tck3 1 2 5 tX AT.out).2] at C22
  have C22 := Lib.hid C22
  go_wp2_with fail
  refine C22.out.mono ?_
  rintro e w22 ⟨y22, rfl, -, -, px⟩
  have X22 := Lib.hid (kz_post KG21.out.1 KG21.out.2.1 S21.out KG21.out.2.2 px)
  have Z22 := Lib.hid (show SzQ 6 (q9 1 2 5 tX a0) from by have := Z20.out.tck (M := 3) (l := []) a0 (by omega) (by simp); rw [(rt_tck3 1 2 5 tX AT.out).2] at this; exact this)
  clear px C22
  cases a1 with
  | false =>
    obtain ⟨k22, g22, O22, s22, n22⟩ := X22.out
    have S22 := Lib.hid s22; have KG22 := Lib.hid (And.intro k22 (And.intro g22 n22))
    clear k22 g22 s22 n22
    have C23 := knxt_any S22.out Z22.out qa
    rw [(rt_own 1 2 5 tX a0).2.1] at C23
    generalize nxtE (q9 1 2 5 tX a0) qa = E23 at C23
    have C23 := Lib.hid C23
    go_wp2_with fail
    refine C23.out.mono ?_
    rintro e w23 ⟨y23, rfl, -, -, px⟩
    have X23 := Lib.hid (kz_post KG22.out.1 KG22.out.2.1 S22.out KG22.out.2.2 px)
    have Z23 := Lib.hid (show SzQ 6 { q9 1 2 5 tX a0 with cs := [⟨qa, 2, 3⟩, ⟨qb, 1, 0⟩] } from by have := Z22.out.nxt qa; rw [(rt_own 1 2 5 tX a0).2.1] at this; exact this)
    clear px C23
    obtain ⟨k23, g23, O23, s23, n23⟩ := X23.out
    have C24 := kbat_any s23 Z23.out (by omega) qa
    rw [(rt_own 1 2 5 tX a0).2.2.1, (rt_own 1 2 5 tX a0).2.2.2] at C24
    have C24 := Lib.hid C24
    have K23 := Lib.hid k23; have G23 := Lib.hid g23
    clear k23 g23 s23 n23
    go_wp2_with fail
    refine C24.out.mono ?_
    rintro e w24 ⟨v24, rfl, ow, k24⟩
    obtain ⟨g, c, cur, hv, -, hgc, hcel⟩ := ow.hit (i := 0) (x := re2 1 2 5 tX) rfl
    subst hv
    have K24 := Lib.hid (K23.out.trans k24 (by simp))
    have S24 := Lib.hid (And.intro hgc (k24.heap (by simp) G23.out))
    have HC := Lib.hid (fun (V : World) (hV : V.heap[g]? = some (.cells cur 50 (0, 0))) => hcel V (by rw [hV, hgc]))
    clear k24 hgc hcel ow C24
    go_upto_region 31 with fail
    refine wp_region_held_drew (S := fun Z => Z.heap[g]? = some (.cells cur 50 (0, 0)) ∧ Z.heap[z]? = some (.cells #[.int .i64 1, .int .i64 1, .string ⟨#[]⟩, .int .i64 0, .int .i64 1, .int .u8 2, .int .i64 5, .string ⟨#[120]⟩] 50 (0, 0))) (by kernel_rfl) (show w24.drew.heap[g]? = some (.cells cur 50 (0, 0)) ∧ w24.drew.heap[z]? = some (.cells #[.int .i64 1, .int .i64 1, .string ⟨#[]⟩, .int .i64 0, .int .i64 1, .int .u8 2, .int .i64 5, .string ⟨#[120]⟩] 50 (0, 0)) from S24.out) (fun hHeld => ?_)
    refine wpAnyH_take (i := 0) (oi := _) (v := .int .i64 0) rfl (by kernel_rfl) (by kernel_rfl) (by kernel_rfl) (fun _ _ _ h => h) (Or.inl ⟨by rfl, fun V hV => by go_simp⟩) hHeld ?_
    change wpAnyH _ _ _ _ _ _ _ (Act.put _ (some 111) _) _
    simp only [Act.put, List.setIfInBounds_toArray, List.set_cons_zero, List.set_cons_succ]
    refine wpAnyH_take (i := 1) (oi := _) (v := .bool true) rfl (by kernel_rfl) (by kernel_rfl) (by kernel_rfl) (fun _ _ _ h => h) (Or.inl ⟨by rfl, fun V hV => by go_simp⟩) hHeld ?_
    change wpAnyH _ _ _ _ _ _ _ (Act.put _ (some 112) _) _
    simp only [Act.put, List.setIfInBounds_toArray, List.set_cons_zero, List.set_cons_succ]
    refine wpAnyH_take (i := 2) (oi := _) (v := .bool true) rfl (by kernel_rfl) (by kernel_rfl) (by kernel_rfl) (fun _ _ _ h => h) (Or.inl ⟨by rfl, fun V hV => by go_simp⟩) hHeld ?_
    change wpAnyH _ _ _ _ _ _ _ (Act.put _ (some 113) _) _
    simp only [Act.put, List.setIfInBounds_toArray, List.set_cons_zero, List.set_cons_succ]
    refine wpAnyH_take (i := 3) (oi := _) (v := .slice (some ⟨g, 0, none⟩) 1 c) rfl (by kernel_rfl) (by kernel_rfl) (by kernel_rfl) (fun _ _ _ h => h) (Or.inl ⟨by rfl, fun V hV => by go_simp⟩) hHeld ?_
    change wpAnyH _ _ _ _ _ _ _ (Act.put _ (some 114) _) _
    simp only [Act.put, List.setIfInBounds_toArray, List.set_cons_zero, List.set_cons_succ]
    refine wpAnyH_take (i := 4) (oi := _) (v := .int .i64 1) rfl (by kernel_rfl) (by kernel_rfl) (by kernel_rfl) (fun _ _ _ h => h) (Or.inl ⟨by rfl, fun V hV => by go_simp⟩) hHeld ?_
    change wpAnyH _ _ _ _ _ _ _ (Act.put _ (some 115) _) _
    simp only [Act.put, List.setIfInBounds_toArray, List.set_cons_zero, List.set_cons_succ]
    refine wpAnyH_take (i := 5) (oi := _) (v := .bool true) rfl (by kernel_rfl) (by kernel_rfl) (by kernel_rfl) (fun _ _ _ h => h) (Or.inl ⟨by rfl, fun V hV => by go_simp⟩) hHeld ?_
    change wpAnyH _ _ _ _ _ _ _ (Act.put _ (some 116) _) _
    simp only [Act.put, List.setIfInBounds_toArray, List.set_cons_zero, List.set_cons_succ]
    refine wpAnyH_take (i := 6) (oi := _) (v := .bool true) rfl (by kernel_rfl) (by kernel_rfl) (by kernel_rfl) (fun _ _ _ h => h) (Or.inl ⟨by rfl, fun V hV => by go_simp⟩) hHeld ?_
    change wpAnyH _ _ _ _ _ _ _ (Act.put _ (some 117) _) _
    simp only [Act.put, List.setIfInBounds_toArray, List.set_cons_zero, List.set_cons_succ]
    refine wpAnyH_take (i := 7) (oi := _) (v := .bool true) rfl (by kernel_rfl) (by kernel_rfl) (by kernel_rfl) (fun _ _ _ h => h) (Or.inl ⟨by rfl, fun V hV => by go_simp⟩) hHeld ?_
    change wpAnyH _ _ _ _ _ _ _ (Act.put _ (some 118) _) _
    simp only [Act.put, List.setIfInBounds_toArray, List.set_cons_zero, List.set_cons_succ]
    refine wpAnyH_take (i := 8) (oi := _) (v := .slice (some ⟨g, 0, none⟩) 1 c) rfl (by kernel_rfl) (by kernel_rfl) (by kernel_rfl) (fun _ _ _ h => h) (Or.inl ⟨by rfl, fun V hV => by go_simp⟩) hHeld ?_
    change wpAnyH _ _ _ _ _ _ _ (Act.put _ (some 119) _) _
    simp only [Act.put, List.setIfInBounds_toArray, List.set_cons_zero, List.set_cons_succ]
    refine wpAnyH_take (i := 9) (oi := _) (v := .pointer (some ⟨g, 0, none⟩)) rfl (by kernel_rfl) (by kernel_rfl) (by kernel_rfl) (fun _ _ _ h => h) (Or.inl ⟨by rfl, fun V hV => by go_simp⟩) hHeld ?_
    change wpAnyH _ _ _ _ _ _ _ (Act.put _ (some 120) _) _
    simp only [Act.put, List.setIfInBounds_toArray, List.set_cons_zero, List.set_cons_succ]
    refine wpAnyH_take (i := 10) (oi := _) (v := .pointer (some ⟨g, 0, none⟩)) rfl (by kernel_rfl) (by kernel_rfl) (by kernel_rfl) (fun _ _ _ h => h) (Or.inl ⟨by rfl, fun V hV => by go_simp⟩) hHeld ?_
    change wpAnyH _ _ _ _ _ _ _ (Act.put _ (some 121) _) _
    simp only [Act.put, List.setIfInBounds_toArray, List.set_cons_zero, List.set_cons_succ]
    refine wpAnyH_take (i := 11) (oi := _) (v := .int .i64 1) rfl (by kernel_rfl) (by kernel_rfl) (by kernel_rfl) (fun _ _ _ h => h) (Or.inl ⟨by rfl, fun V hV => by (obtain ⟨q0, q1, q2, q3, q4, q5, q6, q7⟩ := HC.out V hV.1; simp only [re2, Nat.zero_mul, Nat.zero_add] at q0 q1 q2 q3 q4 q5 q6 q7; clear hV; go_simp)⟩) hHeld ?_
    change wpAnyH _ _ _ _ _ _ _ (Act.put _ (some 122) _) _
    simp only [Act.put, List.setIfInBounds_toArray, List.set_cons_zero, List.set_cons_succ]
    refine wpAnyH_take (i := 12) (oi := _) (v := .pointer (some ⟨z, 0, none⟩)) rfl (by kernel_rfl) (by kernel_rfl) (by kernel_rfl) (fun _ _ _ h => h) (Or.inl ⟨by rfl, fun V hV => by go_simp⟩) hHeld ?_
    change wpAnyH _ _ _ _ _ _ _ (Act.put _ (some 123) _) _
    simp only [Act.put, List.setIfInBounds_toArray, List.set_cons_zero, List.set_cons_succ]
    refine wpAnyH_take (i := 13) (oi := _) (v := .int .i64 1) rfl (by kernel_rfl) (by kernel_rfl) (by kernel_rfl) (fun _ _ _ h => h) (Or.inl ⟨by rfl, fun V hV => by (obtain ⟨q0, q1, q2, q3, q4, q5, q6, q7⟩ := ev_cells hV.2; clear hV; go_simp)⟩) hHeld ?_
    change wpAnyH _ _ _ _ _ _ _ (Act.put _ (some 124) _) _
    simp only [Act.put, List.setIfInBounds_toArray, List.set_cons_zero, List.set_cons_succ]
    refine wpAnyH_take (i := 14) (oi := _) (v := .bool true) rfl (by kernel_rfl) (by kernel_rfl) (by kernel_rfl) (fun _ _ _ h => h) (Or.inl ⟨by rfl, fun V hV => by go_simp⟩) hHeld ?_
    change wpAnyH _ _ _ _ _ _ _ (Act.put _ (some 125) _) _
    simp only [Act.put, List.setIfInBounds_toArray, List.set_cons_zero, List.set_cons_succ]
    refine wpAnyH_take (i := 15) (oi := _) (v := .bool true) rfl (by kernel_rfl) (by kernel_rfl) (by kernel_rfl) (fun _ _ _ h => h) (Or.inl ⟨by rfl, fun V hV => by go_simp⟩) hHeld ?_
    change wpAnyH _ _ _ _ _ _ _ (Act.put _ (some 126) _) _
    simp only [Act.put, List.setIfInBounds_toArray, List.set_cons_zero, List.set_cons_succ]
    refine wpAnyH_take (i := 16) (oi := _) (v := .bool true) rfl (by kernel_rfl) (by kernel_rfl) (by kernel_rfl) (fun _ _ _ h => h) (Or.inl ⟨by rfl, fun V hV => by go_simp⟩) hHeld ?_
    change wpAnyH _ _ _ _ _ _ _ (Act.put _ (some 127) _) _
    simp only [Act.put, List.setIfInBounds_toArray, List.set_cons_zero, List.set_cons_succ]
    refine wpAnyH_take (i := 17) (oi := _) (v := .slice (some ⟨g, 0, none⟩) 1 c) rfl (by kernel_rfl) (by kernel_rfl) (by kernel_rfl) (fun _ _ _ h => h) (Or.inl ⟨by rfl, fun V hV => by go_simp⟩) hHeld ?_
    change wpAnyH _ _ _ _ _ _ _ (Act.put _ (some 128) _) _
    simp only [Act.put, List.setIfInBounds_toArray, List.set_cons_zero, List.set_cons_succ]
    refine wpAnyH_take (i := 18) (oi := _) (v := .pointer (some ⟨g, 0, none⟩)) rfl (by kernel_rfl) (by kernel_rfl) (by kernel_rfl) (fun _ _ _ h => h) (Or.inl ⟨by rfl, fun V hV => by go_simp⟩) hHeld ?_
    change wpAnyH _ _ _ _ _ _ _ (Act.put _ (some 129) _) _
    simp only [Act.put, List.setIfInBounds_toArray, List.set_cons_zero, List.set_cons_succ]
    refine wpAnyH_take (i := 19) (oi := _) (v := .pointer (some ⟨g, 0 + 3, none⟩)) rfl (by kernel_rfl) (by kernel_rfl) (by kernel_rfl) (fun _ _ _ h => h) (Or.inl ⟨by rfl, fun V hV => by go_simp⟩) hHeld ?_
    change wpAnyH _ _ _ _ _ _ _ (Act.put _ (some 130) _) _
    simp only [Act.put, List.setIfInBounds_toArray, List.set_cons_zero, List.set_cons_succ]
    refine wpAnyH_take (i := 20) (oi := _) (v := .int .i64 1) rfl (by kernel_rfl) (by kernel_rfl) (by kernel_rfl) (fun _ _ _ h => h) (Or.inl ⟨by rfl, fun V hV => by (obtain ⟨q0, q1, q2, q3, q4, q5, q6, q7⟩ := HC.out V hV.1; simp only [re2, Nat.zero_mul, Nat.zero_add] at q0 q1 q2 q3 q4 q5 q6 q7; clear hV; go_simp)⟩) hHeld ?_
    change wpAnyH _ _ _ _ _ _ _ (Act.put _ (some 131) _) _
    simp only [Act.put, List.setIfInBounds_toArray, List.set_cons_zero, List.set_cons_succ]
    refine wpAnyH_take (i := 21) (oi := _) (v := .bool true) rfl (by kernel_rfl) (by kernel_rfl) (by kernel_rfl) (fun _ _ _ h => h) (Or.inl ⟨by rfl, fun V hV => by go_simp⟩) hHeld ?_
    change wpAnyH _ _ _ _ _ _ _ (Act.put _ (some 132) _) _
    simp only [Act.put, List.setIfInBounds_toArray, List.set_cons_zero, List.set_cons_succ]
    refine wpAnyH_take (i := 22) (oi := _) (v := .bool true) rfl (by kernel_rfl) (by kernel_rfl) (by kernel_rfl) (fun _ _ _ h => h) (Or.inl ⟨by rfl, fun V hV => by go_simp⟩) hHeld ?_
    change wpAnyH _ _ _ _ _ _ _ (Act.put _ (some 133) _) _
    simp only [Act.put, List.setIfInBounds_toArray, List.set_cons_zero, List.set_cons_succ]
    refine wpAnyH_take (i := 23) (oi := _) (v := .bool true) rfl (by kernel_rfl) (by kernel_rfl) (by kernel_rfl) (fun _ _ _ h => h) (Or.inl ⟨by rfl, fun V hV => by go_simp⟩) hHeld ?_
    change wpAnyH _ _ _ _ _ _ _ (Act.put _ (some 134) _) _
    simp only [Act.put, List.setIfInBounds_toArray, List.set_cons_zero, List.set_cons_succ]
    refine wpAnyH_take (i := 24) (oi := _) (v := .slice (some ⟨g, 0, none⟩) 1 c) rfl (by kernel_rfl) (by kernel_rfl) (by kernel_rfl) (fun _ _ _ h => h) (Or.inl ⟨by rfl, fun V hV => by go_simp⟩) hHeld ?_
    change wpAnyH _ _ _ _ _ _ _ (Act.put _ (some 135) _) _
    simp only [Act.put, List.setIfInBounds_toArray, List.set_cons_zero, List.set_cons_succ]
    refine wpAnyH_take (i := 25) (oi := _) (v := .pointer (some ⟨g, 0, none⟩)) rfl (by kernel_rfl) (by kernel_rfl) (by kernel_rfl) (fun _ _ _ h => h) (Or.inl ⟨by rfl, fun V hV => by go_simp⟩) hHeld ?_
    change wpAnyH _ _ _ _ _ _ _ (Act.put _ (some 136) _) _
    simp only [Act.put, List.setIfInBounds_toArray, List.set_cons_zero, List.set_cons_succ]
    refine wpAnyH_take (i := 26) (oi := _) (v := .pointer (some ⟨g, 0 + 1, none⟩)) rfl (by kernel_rfl) (by kernel_rfl) (by kernel_rfl) (fun _ _ _ h => h) (Or.inl ⟨by rfl, fun V hV => by go_simp⟩) hHeld ?_
    change wpAnyH _ _ _ _ _ _ _ (Act.put _ (some 137) _) _
    simp only [Act.put, List.setIfInBounds_toArray, List.set_cons_zero, List.set_cons_succ]
    refine wpAnyH_take (i := 27) (oi := _) (v := .int .i64 2) rfl (by kernel_rfl) (by kernel_rfl) (by kernel_rfl) (fun _ _ _ h => h) (Or.inl ⟨by rfl, fun V hV => by (obtain ⟨q0, q1, q2, q3, q4, q5, q6, q7⟩ := HC.out V hV.1; simp only [re2, Nat.zero_mul, Nat.zero_add] at q0 q1 q2 q3 q4 q5 q6 q7; clear hV; go_simp)⟩) hHeld ?_
    change wpAnyH _ _ _ _ _ _ _ (Act.put _ (some 138) _) _
    simp only [Act.put, List.setIfInBounds_toArray, List.set_cons_zero, List.set_cons_succ]
    refine wpAnyH_take (i := 28) (oi := _) (v := .bool true) rfl (by kernel_rfl) (by kernel_rfl) (by kernel_rfl) (fun _ _ _ h => h) (Or.inl ⟨by rfl, fun V hV => by go_simp⟩) hHeld ?_
    change wpAnyH _ _ _ _ _ _ _ (Act.put _ (some 139) _) _
    simp only [Act.put, List.setIfInBounds_toArray, List.set_cons_zero, List.set_cons_succ]
    refine wpAnyH_take (i := 29) (oi := _) (v := .bool true) rfl (by kernel_rfl) (by kernel_rfl) (by kernel_rfl) (fun _ _ _ h => h) (Or.inl ⟨by rfl, fun V hV => by go_simp⟩) hHeld ?_
    change wpAnyH _ _ _ _ _ _ _ (Act.put _ (some 140) _) _
    simp only [Act.put, List.setIfInBounds_toArray, List.set_cons_zero, List.set_cons_succ]
    refine wpAnyH_take (i := 30) (oi := _) (v := .bool true) rfl (by kernel_rfl) (by kernel_rfl) (by kernel_rfl) (fun _ _ _ h => h) (Or.inl ⟨by rfl, fun V hV => by go_simp⟩) hHeld ?_
    change wpAnyH _ _ _ _ _ _ _ (Act.put _ (some 141) _) _
    simp only [Act.put, List.setIfInBounds_toArray, List.set_cons_zero, List.set_cons_succ]
    refine wpAnyH_take (i := 31) (oi := _) (v := .slice (some ⟨g, 0, none⟩) 1 c) rfl (by kernel_rfl) (by kernel_rfl) (by kernel_rfl) (fun _ _ _ h => h) (Or.inl ⟨by rfl, fun V hV => by go_simp⟩) hHeld ?_
    change wpAnyH _ _ _ _ _ _ _ (Act.put _ (some 142) _) _
    simp only [Act.put, List.setIfInBounds_toArray, List.set_cons_zero, List.set_cons_succ]
    refine wpAnyH_take (i := 32) (oi := _) (v := .pointer (some ⟨g, 0, none⟩)) rfl (by kernel_rfl) (by kernel_rfl) (by kernel_rfl) (fun _ _ _ h => h) (Or.inl ⟨by rfl, fun V hV => by go_simp⟩) hHeld ?_
    change wpAnyH _ _ _ _ _ _ _ (Act.put _ (some 143) _) _
    simp only [Act.put, List.setIfInBounds_toArray, List.set_cons_zero, List.set_cons_succ]
    refine wpAnyH_take (i := 33) (oi := _) (v := .pointer (some ⟨g, 0 + 6, none⟩)) rfl (by kernel_rfl) (by kernel_rfl) (by kernel_rfl) (fun _ _ _ h => h) (Or.inl ⟨by rfl, fun V hV => by go_simp⟩) hHeld ?_
    change wpAnyH _ _ _ _ _ _ _ (Act.put _ (some 144) _) _
    simp only [Act.put, List.setIfInBounds_toArray, List.set_cons_zero, List.set_cons_succ]
    refine wpAnyH_take (i := 34) (oi := _) (v := .agg #[.int .i64 5, .string ⟨#[120]⟩]) rfl (by kernel_rfl) (by kernel_rfl) (by kernel_rfl) (fun _ _ _ h => h) (Or.inl ⟨by rfl, fun V hV => by (obtain ⟨q0, q1, q2, q3, q4, q5, q6, q7⟩ := HC.out V hV.1; simp only [re2, Nat.zero_mul, Nat.zero_add] at q0 q1 q2 q3 q4 q5 q6 q7; clear hV; simp only [tX] at q7; go_simp)⟩) hHeld ?_
    change wpAnyH _ _ _ _ _ _ _ (Act.put _ (some 145) _) _
    simp only [Act.put, List.setIfInBounds_toArray, List.set_cons_zero, List.set_cons_succ]
    refine wpAnyH_take (i := 35) (oi := _) (v := .pointer (some ⟨z, 6, none⟩)) rfl (by kernel_rfl) (by kernel_rfl) (by kernel_rfl) (fun _ _ _ h => h) (Or.inl ⟨by rfl, fun V hV => by go_simp⟩) hHeld ?_
    change wpAnyH _ _ _ _ _ _ _ (Act.put _ (some 146) _) _
    simp only [Act.put, List.setIfInBounds_toArray, List.set_cons_zero, List.set_cons_succ]
    refine wpAnyH_take (i := 36) (oi := _) (v := .agg #[.int .i64 5, .string ⟨#[120]⟩]) rfl (by kernel_rfl) (by kernel_rfl) (by kernel_rfl) (fun _ _ _ h => h) (Or.inl ⟨by rfl, fun V hV => by (obtain ⟨q0, q1, q2, q3, q4, q5, q6, q7⟩ := ev_cells hV.2; clear hV; go_simp)⟩) hHeld ?_
    change wpAnyH _ _ _ _ _ _ _ (Act.put _ (some 147) _) _
    simp only [Act.put, List.setIfInBounds_toArray, List.set_cons_zero, List.set_cons_succ]
    refine wpAnyH_take (i := 37) (oi := _) (v := .bool true) rfl (by kernel_rfl) (by kernel_rfl) (by kernel_rfl) (fun _ _ _ h => h) (Or.inl ⟨by rfl, fun V hV => by go_simp⟩) hHeld ?_
    change wpAnyH _ _ _ _ _ _ _ (Act.put _ (some 148) _) _
    simp only [Act.put, List.setIfInBounds_toArray, List.set_cons_zero, List.set_cons_succ]
    refine wpAnyH_take (i := 38) (oi := _) (v := .bool true) rfl (by kernel_rfl) (by kernel_rfl) (by kernel_rfl) (fun _ _ _ h => h) (Or.inl ⟨by rfl, fun V hV => by go_simp⟩) hHeld ?_
    change wpAnyH _ _ _ _ _ _ _ (Act.put _ (some 149) _) _
    simp only [Act.put, List.setIfInBounds_toArray, List.set_cons_zero, List.set_cons_succ]
    refine wpAnyH_take (i := 39) (oi := _) (v := .bool true) rfl (by kernel_rfl) (by kernel_rfl) (by kernel_rfl) (fun _ _ _ h => h) (Or.inl ⟨by rfl, fun V hV => by go_simp⟩) hHeld ?_
    change wpAnyH _ _ _ _ _ _ _ (Act.put _ (some 4) _) _
    simp only [Act.put, List.setIfInBounds_toArray, List.set_cons_zero, List.set_cons_succ]
    refine wpAnyH_done (by kernel_rfl) ?_ _
    clear hHeld
    go_wp2
    go_ret
    exact ⟨rfl, K24.out.drew.below (Nat.le_refl _) (by simp)⟩
  | true =>
    obtain ⟨k22, g22, O22, s22, n22⟩ := X22.out
    have S22 := Lib.hid s22; have KG22 := Lib.hid (And.intro k22 (And.intro g22 n22))
    clear k22 g22 s22 n22
    have C23 := knxt_any S22.out Z22.out qb
    rw [(rt_other 1 2 5 tX a0).2.1] at C23
    generalize nxtE (q9 1 2 5 tX a0) qb = E23 at C23
    have C23 := Lib.hid C23
    go_wp2_with fail
    refine C23.out.mono ?_
    rintro e w23 ⟨y23, rfl, -, -, px⟩
    have X23 := Lib.hid (kz_post KG22.out.1 KG22.out.2.1 S22.out KG22.out.2.2 px)
    have Z23 := Lib.hid (show SzQ 6 { q9 1 2 5 tX a0 with cs := [⟨qa, 2, 0⟩, ⟨qb, 1, 2⟩] } from by have := Z22.out.nxt qb; rw [(rt_other 1 2 5 tX a0).2.1] at this; exact this)
    clear px C23
    obtain ⟨k23, g23, O23, s23, n23⟩ := X23.out
    have S23 := Lib.hid s23; have KG23 := Lib.hid (And.intro k23 (And.intro g23 n23))
    clear k23 g23 s23 n23
    have C24 := kfns_any S23.out Z23.out qb
    rw [(rt_other 1 2 5 tX a0).2.2.2] at C24
    generalize finN _ qb = fn2 at C24
    generalize finE _ qb = fe2 at C24
    have C24 := Lib.hid C24
    go_wp2_with fail
    refine C24.out.mono ?_
    rintro e w24 ⟨rfl, px⟩
    have X24 := Lib.hid (kz_post KG23.out.1 KG23.out.2.1 S23.out KG23.out.2.2 px)
    have Z24 := Lib.hid (show SzQ 6 { q9 1 2 5 tX a0 with cs := [⟨qa, 2, 0⟩, ⟨qb, 2, 0⟩] } from by have := Z23.out.fns qb; rw [(rt_other 1 2 5 tX a0).2.2.2] at this; exact this)
    clear px C24
    obtain ⟨k24, g24, O24, s24, n24⟩ := X24.out
    have S24 := Lib.hid s24; have KG24 := Lib.hid (And.intro k24 (And.intro g24 n24))
    clear k24 g24 s24 n24
    have C25 := knxt_any S24.out Z24.out qb
    rw [(rt_others 1 2 5 tX a0).2.1] at C25
    generalize nxtE _ qb = E25 at C25
    have C25 := Lib.hid C25
    go_wp2_with fail
    refine C25.out.mono ?_
    rintro e w25 ⟨y25, rfl, -, -, px⟩
    have X25 := Lib.hid (kz_post KG24.out.1 KG24.out.2.1 S24.out KG24.out.2.2 px)
    have Z25 := Lib.hid (show SzQ 6 { q9 1 2 5 tX a0 with cs := [⟨qa, 2, 0⟩, ⟨qb, 2, 3⟩] } from by have := Z24.out.nxt qb; rw [(rt_others 1 2 5 tX a0).2.1] at this; exact this)
    clear px C25
    obtain ⟨k25, g25, O25, s25, n25⟩ := X25.out
    have C26 := kbat_any s25 Z25.out (by omega) qb
    rw [(rt_others 1 2 5 tX a0).2.2.1, (rt_others 1 2 5 tX a0).2.2.2] at C26
    have C26 := Lib.hid C26
    have K25 := Lib.hid k25
    clear k25 g25 s25 n25
    go_wp2_with fail
    refine C26.out.mono ?_
    rintro e w26 ⟨v26, rfl, ow, k26⟩
    obtain ⟨u26, c26, hv26⟩ := ow.shape
    subst hv26
    have K26 := Lib.hid (K25.out.trans k26 (by simp))
    clear k26 ow C26
    go_wp2
    go_ret
    exact ⟨rfl, K26.out.below (Nat.le_refl _) (by simp)⟩

set_option maxRecDepth 100000 in
theorem lifted (os : Os) (started : os.Started) (H : Type) (enc : TypeId × Value → H) :
    ReturnsInHanded {} Tryz.checked os 6 .any (Rows.queueRetriesSpec.pre6 enc Tryz.prog Tryz.f6 Rows.queueRetriesRow.domain false) (Rows.queueRetriesSpec.post enc Tryz.prog Tryz.f6 false true false false) := by
  refine returnsInHanded_of_change (C := Tryz.checked) own started (by kernel_rfl) Tryz.func6
    (ChangeSpec.witness6 (enc := enc) (C := Tryz.checked) false ⟨#[], #[.int .u8 0, .bool false], []⟩ 8 (by kernel_rfl) (by kernel_rfl) (by kernel_rfl) (by kernel_rfl)) ?_
  intro W base args ds gs before hval0 hW hcnd _
  have hval : ∀ (j : Nat) t v, Tryz.f6.params[j]? = some t → args[j]? = some v → Value.okWide Tryz.prog W .any base t v := hval0
  have hW' := hW
  obtain ⟨p, q, hA0, hV, rfl, hfz, hnd⟩ := hW
  have hA : DataW.TrodAll enc Tryz.prog W 0 (fun _ => true) true Tryz.f6.params.toList args.toList ds p := hA0
  rw [Tryz.params6] at hA hval
  obtain ⟨v0, vs0, d0, ds0, p0, q0, hargs, rfl, rfl, h0, r0⟩ := trodAll_cons hA
  obtain ⟨v1, vs1, d1, ds1, p1, q1, rfl, rfl, rfl, h1, r1⟩ := trodAll_cons r0
  obtain ⟨rfl, rfl, rfl⟩ := trodAll_nil r1
  obtain rfl : args = #[v0, v1] := by cases args; simp_all
  obtain ⟨rfl, rfl⟩ := trodVars_none hV
  obtain ⟨a0, rfl, rfl, rfl, w0⟩ := open_int Tryz.underlying5 (hval 0 5 v0 rfl rfl) h0
  obtain ⟨a1, rfl, rfl, rfl⟩ := open_bool Tryz.underlying4 (hval 1 4 v1 rfl rfl) h1
  clear hA0 hval0
  simp only [List.append_nil] at hW'
  refine (walk a0 a1 w0 W).mono fun e W' ⟨he, bel⟩ => ?_
  subst he
  exact ⟨_, rfl, _, _, _, [], _, [], hW', trodAll_mk1 (shut_bool Tryz.underlying4 _), (trodAll_cons_mk (shut_int Tryz.underlying5 w0) (trodAll_cons_mk (shut_bool Tryz.underlying4 a1) trodAll_mk0)), rfl, bel.frame _, fun h => by cases h⟩

theorem over : Rows.queueRetriesRow.holds Tryz.pinned (OpenSpec.ofChange Rows.queueRetriesSpec) :=
  OpenClaim.holds_of_wide 6 Tryz.f6 rfl rfl rfl rfl rfl rfl rfl ⟨rfl, rfl, rfl, rfl, rfl⟩ rfl rfl rfl rfl rfl (by kernel_rfl) Tryz.func6 (by kernel_rfl)
    (of_decide_eq_true (by kernel_rfl)) (by unfold Func.isWrapper; first | (rw [if_pos (by decide +kernel)]; kernel_rfl) | (rw [if_neg (by decide +kernel)]; exact ⟨rfl, rfl⟩))
    (fun os started H enc _ => lifted os started H enc)

theorem proved : Rows.QueueRetriesSaid :=
  over
end Go.Proofs.YticiofkiffgclaaGreat.queueRetries

namespace Go.Proofs.YticiofkiffgclaaGreat
theorem queueRetries_holds : Rows.QueueRetriesSaid := queueRetries.proved
#print axioms queueRetries_holds
end Go.Proofs.YticiofkiffgclaaGreat

