/-
  Proved: whatever the arguments are, carrierlaw08.RelReads answers true and leaves its arguments as they were. No condition.
-/
import Derived.Test.YtdjhcdgehmpikaaQi
import Derived.ProofKit
import Derived.OpenShut
import Derived.ChangeOld
import Derived.Below
namespace Go.Proofs.Ytdjhcdgehmpikaa.relReads
open Go.ChangeShapes Go.WideShapes Go.ChangeAt Go.RowKit
set_option linter.unusedVariables false

theorem own : ownKnob Try.prog.godebug = none := by kernel_rfl
theorem laidOut : laidOutB Try.prog = true := by kernel_rfl

structure Reads (T : List Tab) (n : Nat) : Prop where
  ln : T.length = 3
  on : ∀ t ∈ T, One1 t
  fw : Few n T

theorem Reads.start : Reads (List.replicate 3 noTab) 0 := ⟨rfl, fun t ht => by
  obtain rfl := List.eq_of_mem_replicate ht
  exact fun k => ⟨fun r hr => by simp [noTab] at hr, by simp [noTab]⟩, few_none 0 3⟩

theorem Reads.step {w : World} {B p r n : Nat} {O : Nat → Prop} {st : List Nat} {T : List Tab} (h : Reads T n) (s : Sto w B p r O st T) (kind : Nat) (tb key : Int) (txt : ByteArray) : Reads (runT [1] V1 kind tb key txt T) (n + 1) := by
  refine ⟨by rw [runT_length]; exact h.ln, ?_, runT_few h.fw _ _ _ _ _ _⟩
  unfold runT
  split
  · exact h.on
  · split
    · rename_i t ht
      intro u hu
      rcases List.mem_or_eq_of_mem_set hu with h1 | h1
      · exact h.on u h1
      · subst h1
        exact (h.on t (List.mem_of_getElem? ht)).run (s.facts ht).2 kind key txt
    · exact h.on

theorem wf_mod6 (x : Nat) : (Lit.int .i64 ((x : Int).tmod 6)).wf = true := by
  have h1 := Int.tmod_lt_of_pos (x : Int) (by decide : (0 : Int) < 6)
  have h2 := Int.lt_tmod_of_pos (x : Int) (by decide : (0 : Int) < 6)
  exact wf_i64 (by omega)

section
variable {T : List Tab} {t : Tab} {i : Nat}
theorem rd_E6 (h : T[i]? = some t) (key : Int) (txt : ByteArray) : runE [1] V1 6 i key txt T = 0 := by rw [runE, if_neg (by omega), Int.toNat_natCast, h]; rfl
theorem rd_R6 (h : T[i]? = some t) (key : Int) (txt : ByteArray) : runR [1] V1 6 i key txt T = scanR (sees [1] V1) t.ks t.F := by rw [runR, if_neg (by omega), Int.toNat_natCast, h]; rfl
theorem rd_T6 (h : T[i]? = some t) (key : Int) (txt : ByteArray) : runT [1] V1 6 i key txt T = T := by rw [runT_at h]; exact set_same h
theorem rd_E5 (h : T[i]? = some t) (key : Int) (txt : ByteArray) : runE [1] V1 5 i key txt T = (getH [1] V1 key t).e := by rw [runE, if_neg (by omega), Int.toNat_natCast, h]; rfl
theorem rd_R5 (h : T[i]? = some t) (key : Int) (txt : ByteArray) : runR [1] V1 5 i key txt T = (getH [1] V1 key t).rows := by rw [runR, if_neg (by omega), Int.toNat_natCast, h]; rfl
theorem rd_T5 (h : T[i]? = some t) (key : Int) (txt : ByteArray) : runT [1] V1 5 i key txt T = T := by
  rw [runT_at h]
  have : (runH [1] V1 5 key txt t).tab = t := by
    show (getH [1] V1 key t).tab = t
    unfold getH
    split
    · split <;> rfl
    · rfl
  rw [this]
  exact set_same h
end

theorem take_count {R : List (Int × ByteArray)} {k : Nat} {q : Int} {x : Int × ByteArray} (h : R[k]? = some x) :
    ((R.take (k + 1)).filter (fun y => y.1 == q)).length = ((R.take k).filter (fun y => y.1 == q)).length + if x.1 = q then 1 else 0 := by
  rw [List.take_add_one, h, List.filter_append, List.length_append]
  by_cases e : x.1 = q
  · simp [e]
  · simp [e]

set_option maxHeartbeats 1600000 in
set_option maxRecDepth 100000 in
theorem walk (a0 : Option Addr) (len0 cap0 : Nat) (f0 : Nat → ActD) (a1 a2 a3 : Int) (W : World) (w0 : IsActs W W.heap.size a0 len0 f0 ∧ len0 ≤ maxLen) (w1 : (Lit.int .u8 a1).wf = true) (w2 : (Lit.int .u8 a2).wf = true) (w3 : (Lit.int .u8 a3).wf = true) :
    Calls Try.prog 9 #[.slice a0 len0 cap0, .int .u8 a1, .int .u8 a2, .int .u8 a3] W fun e w' => e = .returned (.bool true) ∧ Below W.heap.size W w' := by
  obtain ⟨b1a, b1b⟩ := bounds_u8 w1
  obtain ⟨b2a, b2b⟩ := bounds_u8 w2
  obtain ⟨b3a, b3b⟩ := bounds_u8 w3
  obtain ⟨tt, h3⟩ : ∃ n : Nat, a3.tmod 3 = n := ⟨(a3.tmod 3).toNat, by have := Int.tmod_nonneg 3 b3a; omega⟩
  have htt : tt < 3 := by have := Int.tmod_lt_of_pos a3 (show (0 : Int) < 3 by omega); omega
  obtain ⟨q6, h6⟩ : ∃ n : Nat, a2.tmod 6 = n := ⟨(a2.tmod 6).toNat, by have := Int.tmod_nonneg 6 b2a; omega⟩
  have hq6 : q6 < 6 := by have := Int.tmod_lt_of_pos a2 (show (0 : Int) < 6 by omega); omega
  have HWT : Hid ((Lit.int .i64 (tt : Int)).wf = true) := Lib.hid (wf_i64 (by omega))
  have HWQ : Hid ((Lit.int .i64 (q6 : Int)).wf = true) := Lib.hid (wf_i64 (by omega))
  have HWA : Hid ((Lit.int .i64 a1).wf = true) := Lib.hid (wf_i64 (by omega))
  clear w1 w2 w3
  have A0 := Lib.hid w0
  clear w0
  go_enter Try.func9, Try.ntmps9
  go_wp2_with fail
  refine (row_any W).mono ?_
  rintro e w2 ⟨rfl, hk⟩
  have K2 := Lib.hid hk
  have sm0 := Lib.hid (small_any (cap := cap0) (A0.out.1.below (Kept.below hk (Nat.le_refl _) (by simp))) A0.out.2)
  clear hk
  go_wp2_with fail
  refine sm0.out.mono ?_
  rintro e w3 ⟨s0, rfl, h80, rfl⟩
  cases s0
  · go_wp2_with fail
    refine (row_any w2).mono ?_
    rintro e w4 ⟨rfl, hk⟩
    have K4 := Lib.hid (K2.out.trans hk (by simp))
    clear hk
    go_wp2
    go_ret
    exact ⟨rfl, K4.out.below (Nat.le_refl _) (by simp)⟩
  have L0 := Lib.hid (h80 rfl)
  have hl0 : len0 ≤ 80 := L0.out
  clear h80
  go_wp2_with fail
  refine (mnew_any w2).mono ?_
  rintro e w3 ⟨p, b, v1, rfl, hm, hk⟩
  have M3 := Lib.hid hm; have K3 := Lib.hid (K2.out.trans hk (by simp)); have Z2 := Lib.hid K2.out.size
  clear hm hk sm0
  go_wp2_with fail
  refine (relnew_any M3.out 3).mono ?_
  rintro e w4 ⟨r, O4, rfl, s, hk, _⟩
  have S4 : Hid (Sto w4 w2.heap.size p r O4 [] (List.replicate 3 noTab)) := Lib.hid s
  have B4 := Lib.hid (show Below W.heap.size W w4 from (K3.out.trans hk (by simp)).below (Nat.le_refl _) (by simp))
  clear s hk
  have c : Calls Try.prog 16 #[.pointer (some ⟨p, 0, none⟩)] w4 fun e w' => e = .returned (.tuple #[.int .i64 1, .int .i64 0]) ∧ ∃ O', Sto w' w2.heap.size p r O' [1] (List.replicate 3 noTab) ∧ Stp O4 O' w4 w' := begin_sto S4.out (by decide) (by decide)
  go_wp2_with fail
  refine c.mono ?_
  rintro e w5 ⟨rfl, O5, s, f⟩
  have S5 := Lib.hid s; have B5 := Lib.hid (B4.out.trans ((S4.out.below f.1).mono Z2.out))
  clear s f c
  have c : Calls Try.prog 28 #[.pointer (some ⟨p, 0, none⟩)] w5 fun e w' => ∃ u c, e = .returned (.agg #[.int .i64 2, .slice u 1 c]) ∧ Vo w' (.slice u 1 c) [1] ∧ Kept w5 w' [] := now_sto S5.out
  go_wp2_with fail
  refine c.mono ?_
  rintro e x6 ⟨u6, d6, rfl, vo, hk⟩
  obtain ⟨w6, hW⟩ : ∃ w6, w6 = x6.alloc (.cells #[.int .i64 2, .slice u6 1 d6, .int .i64 1] 51) := ⟨_, rfl⟩
  obtain ⟨g1, hg⟩ : ∃ g1, g1 = x6.heap.size := ⟨_, rfl⟩
  have V6 : Hid (Bv w6 g1 2 1 (.slice u6 1 d6) [1]) := Lib.hid (by rw [hW, hg]; exact Bv.make vo)
  have k : Kept w5 w6 [] := by rw [hW]; exact hk.alloc _
  have S6 := Lib.hid (S5.out.keep k); have B6 := Lib.hid (B5.out.trans ((k.below (B := w2.heap.size) S5.out.size (by simp)).mono Z2.out))
  clear vo hk k c
  go_wp2
  rw [← hW, ← hg]
  clear hW hg
  go_loopw [14] (fun t wr => ∃ (i : Nat) (O : Nat → Prop) (T : List Tab), t = .int .i64 i ∧ i ≤ len0 ∧ Sto wr w2.heap.size p r O [1] T ∧ Reads T i ∧ Bv wr g1 2 1 (.slice u6 1 d6) [1] ∧ Below W.heap.size W wr) (fun t _ => len0 - (intOf t).toNat)
  case atStart => exact ⟨0, O5, _, rfl, Nat.zero_le _, S6.out, Reads.start, V6.out, B6.out⟩
  case round =>
    obtain ⟨i, O, T, rfl, hi, hs, hrd, hv, hb⟩ := hrel
    have S := Lib.hid hs; have RD := Lib.hid hrd; have V := Lib.hid hv; have BW := Lib.hid hb
    clear hs hrd hv hb S4 S5 S6 V6 B4 B5 B6
    by_cases hlt : i < len0
    · obtain ⟨ab, ao, rfl, hx⟩ := A0.out.1 (by omega)
      have X := hx i hlt
      generalize f0 i = x at X
      have YY := Lib.hid (ActS.make V.out X BW.out)
      obtain ⟨d, who, kind, table, key, txt⟩ := x
      have AB := Lib.hid X
      have hk8 : kind < 256 := X.k8
      have hw8 : who < 256 := X.w8
      have x1 : (i : Int) < (len0 : Int) := by omega
      obtain ⟨kd, hkd⟩ : ∃ kd : Nat, (kind : Int).tmod 4 = (kd : Int) := ⟨((kind : Int).tmod 4).toNat, by have := Int.tmod_nonneg 4 (show (0 : Int) ≤ kind by omega); omega⟩
      have hkd4 : kd < 4 := by have := Int.tmod_lt_of_pos (kind : Int) (show (0 : Int) < 4 by omega); omega
      obtain ⟨wd, hwd⟩ : ∃ wd : Nat, (who : Int).tmod 3 = (wd : Int) := ⟨((who : Int).tmod 3).toNat, by have := Int.tmod_nonneg 3 (show (0 : Int) ≤ who by omega); omega⟩
      have hwd3 : wd < 3 := by have := Int.tmod_lt_of_pos (who : Int) (show (0 : Int) < 3 by omega); omega
      have HWD : Hid ((Lit.int .i64 (wd : Int)).wf = true) := Lib.hid (wf_i64 (by omega))
      have CRR : Hid (∀ U, Kept wr U [] → Calls Try.prog 21 #[.pointer (some ⟨r, 0, none⟩), .agg #[.int .i64 2, .slice u6 1 d6, .int .i64 1], .agg #[.int .u8 (1 + (kd : Int)), .int .i64 wd, .int .i64 (key.tmod 5), .string txt]] U fun e w' => RunPost U w2.heap.size p r O [1] (runE [1] V1 (1 + kd) wd (key.tmod 5) txt T) (runR [1] V1 (1 + kd) wd (key.tmod 5) txt T) (runT [1] V1 (1 + kd) wd (key.tmod 5) txt T) e w') := Lib.hid (fun U hU => run_any (S.out.keep hU) 2 1 u6 1 d6 [1] (V.out.keep hU).2 (by decide) (1 + kd) wd HWD.out (key.tmod 5) txt (wf_mod5 key) i RD.out.fw (by omega))
      have k8 : Kept wr wr.drew [] := (Kept.refl wr []).drew
      have yy := YY.out.keep k8
      have wk : IntKind.u8.wrap (1 + (kd : Int)) = 1 + (kd : Int) := by rcases (show kd = 0 ∨ kd = 1 ∨ kd = 2 ∨ kd = 3 by omega) with rfl | rfl | rfl | rfl <;> rfl
      have wk2 : IntKind.i64.wrap (wd : Int) = (wd : Int) := by rcases (show wd = 0 ∨ wd = 1 ∨ wd = 2 by omega) with rfl | rfl | rfl <;> rfl
      unfold ActS at yy
      simp only at yy
      clear X hx
      go_wp2_with fail
      go_region_held3 (fun U => ((U.cell? ⟨g1, 0, none⟩ = some (.int .i64 2) ∧ U.cell? ⟨g1, 1, none⟩ = some (.slice u6 1 d6)) ∧ U.cell? ⟨g1, 2, none⟩ = some (.int .i64 1)) ∧ (((U.cell? ⟨ab, ao + i * 6 + 1, none⟩ = some (.int .u8 who) ∧ U.cell? ⟨ab, ao + i * 6 + 2, none⟩ = some (.int .u8 kind)) ∧ U.cell? ⟨ab, ao + i * 6 + 4, none⟩ = some (.int .i64 key)) ∧ U.cell? ⟨ab, ao + i * 6 + 5, none⟩ = some (.string txt))) (exact yy)
        (first
          | (go_at_call 21; refine (CRR.out _ ?_).mono ?_; exact k8; rintro e w8 ⟨v8, rfl, _, O8, s8, f8⟩; have S8 := Lib.hid s8; have B8 := Lib.hid ((BW.out.trans ((k8.below (B := w2.heap.size) S.out.size (by simp)).mono Z2.out)).trans (((S.out.keep k8).below f8.1).mono Z2.out)); have V8 := Lib.hid ((V.out.keep k8).sto (S.out.keep k8) f8.1); have yy := ActS.make V8.out AB.out B8.out; unfold ActS at yy; simp only at yy))
      clear s8 f8 yy k8
      go_wp2
      go_roundw
      case rel => exact ⟨i + 1, O8, _, by go_num, by omega, S8.out, RD.out.step S.out _ _ _ _, V8.out, B8.out⟩
      case measure => simp [intOf]; omega
    · have x1 : ¬ (i : Int) < (len0 : Int) := by omega
      have hi80 : i ≤ 900 := by omega
      obtain ⟨t, ht⟩ : ∃ t, T[tt]? = some t := ⟨_, List.getElem?_eq_getElem (by rw [RD.out.ln]; exact htt)⟩
      have HT := Lib.hid ht
      have HG := Lib.hid (get_scan (RD.out.on t (List.mem_of_getElem? ht)) (S.out.facts ht).1 (S.out.facts ht).2 q6)
      obtain ⟨R, hR⟩ : ∃ R, scanR (sees [1] V1) t.ks t.F = R := ⟨_, rfl⟩
      have HR := Lib.hid hR
      obtain ⟨ln, hln⟩ : ∃ ln, allLen t.F t.ks = ln := ⟨_, rfl⟩
      have HLN := Lib.hid hln
      obtain ⟨z0, z1, z2⟩ := V.out.cells
      have CR : Hid (Calls Try.prog 21 #[.pointer (some ⟨r, 0, none⟩), .agg #[.int .i64 2, .slice u6 1 d6, .int .i64 1], .agg #[.int .u8 6, .int .i64 tt, .int .i64 0, .string ⟨#[]⟩]] wr fun e w' => RunPost wr w2.heap.size p r O [1] 0 R T e w') := Lib.hid (by
        have := run_any S.out 2 1 u6 1 d6 [1] V.out.2 (by decide) 6 tt HWT.out 0 ⟨#[]⟩ (by decide) i RD.out.fw hi80
        rw [rd_E6 HT.out, rd_R6 HT.out, rd_T6 HT.out, HR.out] at this
        exact this)
      clear ht hR hln
      go_wp2_with fail
      refine CR.out.mono ?_
      rintro e w9 ⟨v9, rfl, ho, O9, s, f⟩
      obtain ⟨a9, c9, hv9⟩ := ownsRow_shape ho
      subst hv9
      have S9 := Lib.hid s; have B9 := Lib.hid (BW.out.trans ((S.out.below f.1).mono Z2.out)); have V9 := Lib.hid (V.out.sto S.out f.1)
      have W9 := Lib.hid (ownsRow_low ho (Nat.zero_le _))
      clear s f z0 z1 z2 ho CR
      have CH := Lib.hid (heaplen_sto S9.out HT.out HWT.out RD.out.fw hi80)
      rw [HLN.out] at CH
      go_wp2_with fail
      refine CH.out.mono ?_
      rintro e w' ⟨⟨h9, rfl, hl⟩, rfl⟩
      have hl9 := hl w9 (Kept.refl w9 [])
      have HL := Lib.hid hl
      clear hl CH
      go_wp2_with fail
      refine hl9.mono ?_
      rintro e w10 ⟨rfl, hk⟩
      have S10 := Lib.hid (S9.out.keep hk); have B10 := Lib.hid (B9.out.trans ((hk.below (B := w2.heap.size) S9.out.size (by simp)).mono Z2.out)); have V10 := Lib.hid (V9.out.keep hk)
      have W10 := Lib.hid (ownsRow_fr W9.out (Fr.ofKept hk 0 []) (by simp))
      clear hk hl9 HL
      obtain ⟨z0, z1, z2⟩ := V10.out.cells
      obtain ⟨G, hG⟩ : ∃ G, getH [1] V1 q6 t = G := ⟨_, rfl⟩
      have CR : Hid (Calls Try.prog 21 #[.pointer (some ⟨r, 0, none⟩), .agg #[.int .i64 2, .slice u6 1 d6, .int .i64 1], .agg #[.int .u8 5, .int .i64 tt, .int .i64 q6, .string ⟨#[]⟩]] w10 fun e w' => RunPost w10 w2.heap.size p r O9 [1] G.e G.rows T e w') := Lib.hid (by
        have := run_any S10.out 2 1 u6 1 d6 [1] V10.out.2 (by decide) 5 tt HWT.out q6 ⟨#[]⟩ HWQ.out i RD.out.fw hi80
        rw [rd_E5 HT.out, rd_R5 HT.out, rd_T5 HT.out, hG] at this
        exact this)
      rw [hG, HR.out] at HG
      clear hG
      go_wp2_with fail
      refine CR.out.mono ?_
      rintro e w11 ⟨v11, rfl, ho, O11, s, f⟩
      obtain ⟨a11, c11, hv11⟩ := ownsRow_shape ho
      subst hv11
      have S11 := Lib.hid s; have B11 := Lib.hid (B10.out.trans ((S10.out.below f.1).mono Z2.out)); have V11 := Lib.hid (V10.out.sto S10.out f.1)
      have W11 := Lib.hid (S10.out.row f.1 W10.out (by decide)); have X11 := Lib.hid (ownsRow_low ho (Nat.zero_le _))
      clear s f z0 z1 z2 ho CR
      obtain ⟨z0, z1, z2⟩ := V11.out.cells
      have CR : Hid (Calls Try.prog 21 #[.pointer (some ⟨r, 0, none⟩), .agg #[.int .i64 2, .slice u6 1 d6, .int .i64 1], .agg #[.int .u8 6, .int .i64 tt, .int .i64 a1, .string ⟨#[]⟩]] w11 fun e w' => RunPost w11 w2.heap.size p r O11 [1] 0 R T e w') := Lib.hid (by
        have := run_any S11.out 2 1 u6 1 d6 [1] V11.out.2 (by decide) 6 tt HWT.out a1 ⟨#[]⟩ HWA.out i RD.out.fw hi80
        rw [rd_E6 HT.out, rd_R6 HT.out, rd_T6 HT.out, HR.out] at this
        exact this)
      go_wp2_with fail
      refine CR.out.mono ?_
      rintro e w12 ⟨v12, rfl, ho, O12, s, f⟩
      obtain ⟨a12, c12, hv12⟩ := ownsRow_shape ho
      subst hv12
      have S12 := Lib.hid s; have B12 := Lib.hid (B11.out.trans ((S11.out.below f.1).mono Z2.out))
      have W12 := Lib.hid (S11.out.row f.1 W11.out (by decide)); have X12 := Lib.hid (S11.out.row f.1 X11.out (by decide)); have Y12 := Lib.hid (ownsRow_low ho (Nat.zero_le _))
      clear s f z0 z1 z2 ho CR W9 W10 W11 X11 V9 V10 V11 S9 S10 S11 B9 B10 B11
      obtain ⟨rn, hrn⟩ : ∃ rn, R.length = rn := ⟨_, rfl⟩
      have HRN := Lib.hid hrn
      have hrn9 : rn ≤ 9223372036854775807 := by
        rw [← hrn]
        rcases own_head W12.out with h | h <;> omega
      rw [hrn] at W12 Y12 ⊢
      clear hrn
      rcases HG.out with ⟨hg, hf⟩ | ⟨x, hg, hf⟩
      · subst hg
        have HF := Lib.hid hf
        simp only [List.length_nil] at X12 ⊢
        clear hf HG
        have CSAME : Hid (∀ U, Kept w12 U [] → Calls Try.prog 23 #[.slice a9 rn c9, .slice a12 rn c12] U fun e w' => e = .returned (.bool true) ∧ Kept w12 w' []) := Lib.hid (fun U hU =>
          (rrows_same (R := R) (by rw [HRN.out]; exact ownsRow_fr W12.out (Fr.ofKept hU 0 []) (by simp)) (by rw [HRN.out]; exact ownsRow_fr Y12.out (Fr.ofKept hU 0 []) (by simp))).mono (by rintro e w' ⟨rfl, k⟩; exact ⟨rfl, hU.trans k (by simp)⟩))
        have CHL : Hid (∀ U, Kept w12 U [] → Calls Try.prog 30 #[.pointer (some ⟨r, 0, none⟩), .int .i64 tt] U fun e w' => (∃ h : Nat, e = .returned (.pointer (some ⟨h, 0, none⟩)) ∧ ∀ V, Kept U V [] → Calls Try.prog 31 #[.pointer (some ⟨h, 0, none⟩)] V fun e w' => e = .returned (.int .i64 ln) ∧ Kept V w' []) ∧ U = w') := Lib.hid (fun U hU => by
          have := heaplen_sto (S12.out.keep hU) HT.out HWT.out RD.out.fw hi80
          rw [HLN.out] at this
          exact this)
        go_wp2_with fail
        go_loopw [23, 24] (fun s t wr => ∃ j : Nat, t = .int .i64 j ∧ s = .int .i64 (((R.take j).filter (fun y => y.1 == (q6 : Int))).length : Int) ∧ j ≤ rn ∧ Kept w12 wr []) (fun _ t _ => rn - (intOf t).toNat)
        case atStart => exact ⟨0, rfl, rfl, Nat.zero_le _, Kept.refl w12 []⟩
        case round =>
          obtain ⟨j, rfl, rfl, hj, hkw⟩ := hrel
          have K := Lib.hid hkw
          clear hkw
          by_cases hlt : j < rn
          · obtain ⟨⟨rk, rt⟩, hr⟩ : ∃ x, R[j]? = some x := ⟨_, List.getElem?_eq_getElem (by have := HRN.out; omega)⟩
            obtain ⟨g9, rfl, hc9, _⟩ := own_at W12.out (by omega)
            obtain ⟨y0, y1⟩ := rcl_cells (R := R) (k := j) (ownsRow_fr (show w12.ownsRow 0 55 2 (.slice (some ⟨g9, 0, none⟩) rn c9) R.length (rcl R) by rw [HRN.out]; exact W12.out) (Fr.ofKept K.out 0 []) (by simp)) hr
            have x1 : (j : Int) < (rn : Int) := by omega
            have TC := Lib.hid (take_count (q := (q6 : Int)) hr)
            obtain ⟨fc, hfc⟩ : ∃ fc, ((R.take j).filter (fun y => y.1 == (q6 : Int))).length = fc := ⟨_, rfl⟩
            have hfl : fc ≤ j := by rw [← hfc]; exact Nat.le_trans (List.length_filter_le _ _) (by simp; omega)
            rw [hfc] at TC ⊢
            have HFC := Lib.hid hfc
            have HRJ := Lib.hid hr
            clear hfc hr
            have hne : ¬ rk = (q6 : Int) := by
              intro e
              have hm : (rk, rt) ∈ R.filter (fun y => y.1 == (q6 : Int)) := List.mem_filter.2 ⟨List.mem_of_getElem? HRJ.out, by simpa using e⟩
              rw [HF.out] at hm
              simp at hm
            have TC2 : Hid (((R.take (j + 1)).filter (fun y => y.1 == (q6 : Int))).length = fc) := Lib.hid (by rw [TC.out, if_neg hne]; rfl)
            clear hc9
            go_wp2
            go_roundw
            case rel => exact ⟨j + 1, by go_num, by rw [TC2.out], by omega, K.out⟩
            case measure => simp [intOf]; omega
          · have x1 : ¬ (j : Int) < (rn : Int) := by omega
            have hall : ((R.take j).filter (fun y => y.1 == (q6 : Int))).length = 0 := by
              have := HRN.out
              rw [List.take_of_length_le (by omega), HF.out]; rfl
            rw [hall]
            clear hall
            go_wp2_with fail
            refine (CSAME.out _ K.out).mono ?_
            rintro e w13 ⟨rfl, k13⟩
            have K13 := Lib.hid k13
            have CC := CHL.out w13 k13
            clear k13
            go_wp2_with fail
            refine CC.mono ?_
            rintro e w' ⟨⟨h13, rfl, hl⟩, rfl⟩
            have hl13 := hl w13 (Kept.refl w13 [])
            clear hl CC
            go_wp2_with fail
            refine hl13.mono ?_
            rintro e w14 ⟨rfl, k14⟩
            have K14 := Lib.hid (K13.out.trans k14 (by simp))
            clear k14 hl13
            go_wp2
            go_ret
            exact ⟨rfl, B12.out.trans ((K14.out.below (B := w2.heap.size) S12.out.size (by simp)).mono Z2.out)⟩
      · subst hg
        have HF := Lib.hid hf
        simp only [List.length_cons, List.length_nil, Nat.zero_add] at X12 ⊢
        obtain ⟨g11, rfl, hc11, _⟩ := own_at X12.out (by decide)
        obtain ⟨gy0, gy1⟩ := rcl_cells (R := [((q6 : Int), x)]) (k := 0) X12.out rfl
        rw [Nat.zero_mul] at gy0 gy1
        have GC := Lib.hid (And.intro gy0 gy1)
        clear hf HG gy0 gy1
        have CSAME : Hid (∀ U, Kept w12 U [] → Calls Try.prog 23 #[.slice a9 rn c9, .slice a12 rn c12] U fun e w' => e = .returned (.bool true) ∧ Kept w12 w' []) := Lib.hid (fun U hU =>
          (rrows_same (R := R) (by rw [HRN.out]; exact ownsRow_fr W12.out (Fr.ofKept hU 0 []) (by simp)) (by rw [HRN.out]; exact ownsRow_fr Y12.out (Fr.ofKept hU 0 []) (by simp))).mono (by rintro e w' ⟨rfl, k⟩; exact ⟨rfl, hU.trans k (by simp)⟩))
        have CHL : Hid (∀ U, Kept w12 U [] → Calls Try.prog 30 #[.pointer (some ⟨r, 0, none⟩), .int .i64 tt] U fun e w' => (∃ h : Nat, e = .returned (.pointer (some ⟨h, 0, none⟩)) ∧ ∀ V, Kept U V [] → Calls Try.prog 31 #[.pointer (some ⟨h, 0, none⟩)] V fun e w' => e = .returned (.int .i64 ln) ∧ Kept V w' []) ∧ U = w') := Lib.hid (fun U hU => by
          have := heaplen_sto (S12.out.keep hU) HT.out HWT.out RD.out.fw hi80
          rw [HLN.out] at this
          exact this)
        go_wp2_with fail
        go_loopw [23, 24] (fun s t wr => ∃ j : Nat, t = .int .i64 j ∧ s = .int .i64 (((R.take j).filter (fun y => y.1 == (q6 : Int))).length : Int) ∧ j ≤ rn ∧ Kept w12 wr []) (fun _ t _ => rn - (intOf t).toNat)
        case atStart => exact ⟨0, rfl, rfl, Nat.zero_le _, Kept.refl w12 []⟩
        case round =>
          obtain ⟨j, rfl, rfl, hj, hkw⟩ := hrel
          have K := Lib.hid hkw
          clear hkw
          by_cases hlt : j < rn
          · obtain ⟨⟨rk, rt⟩, hr⟩ : ∃ x, R[j]? = some x := ⟨_, List.getElem?_eq_getElem (by have := HRN.out; omega)⟩
            obtain ⟨g9, rfl, hc9, _⟩ := own_at W12.out (by omega)
            obtain ⟨y0, y1⟩ := rcl_cells (R := R) (k := j) (ownsRow_fr (show w12.ownsRow 0 55 2 (.slice (some ⟨g9, 0, none⟩) rn c9) R.length (rcl R) by rw [HRN.out]; exact W12.out) (Fr.ofKept K.out 0 []) (by simp)) hr
            have x1 : (j : Int) < (rn : Int) := by omega
            have TC := Lib.hid (take_count (q := (q6 : Int)) hr)
            obtain ⟨fc, hfc⟩ : ∃ fc, ((R.take j).filter (fun y => y.1 == (q6 : Int))).length = fc := ⟨_, rfl⟩
            have hfl : fc ≤ j := by rw [← hfc]; exact Nat.le_trans (List.length_filter_le _ _) (by simp; omega)
            rw [hfc] at TC ⊢
            have HFC := Lib.hid hfc
            have HRJ := Lib.hid hr
            clear hfc hr
            by_cases hne : rk = (q6 : Int)
            · have hm : (rk, rt) ∈ R.filter (fun y => y.1 == (q6 : Int)) := List.mem_filter.2 ⟨List.mem_of_getElem? HRJ.out, by simpa using hne⟩
              rw [HF.out] at hm
              simp only [List.mem_cons, List.not_mem_nil, or_false, Prod.mk.injEq] at hm
              obtain ⟨-, rfl⟩ := hm
              have TC2 : Hid (((R.take (j + 1)).filter (fun y => y.1 == (q6 : Int))).length = fc + 1) := Lib.hid (by rw [TC.out, if_pos hne])
              have gg0 := K.out.cell (p := ⟨g11, 0, none⟩) (by simp) GC.out.1
              have gg1 := K.out.cell (p := ⟨g11, 1, none⟩) (by simp) GC.out.2
              subst hne
              go_wp2
              go_quiet (fail)
              go_wp2
              go_roundw
              case rel => exact ⟨j + 1, by go_num, by rw [TC2.out]; go_num, by omega, K.out.drewN _⟩
              case measure => simp [intOf]; omega
            · have TC2 : Hid (((R.take (j + 1)).filter (fun y => y.1 == (q6 : Int))).length = fc) := Lib.hid (by rw [TC.out, if_neg hne]; rfl)
              clear hc9
              go_wp2
              go_roundw
              case rel => exact ⟨j + 1, by go_num, by rw [TC2.out], by omega, K.out⟩
              case measure => simp [intOf]; omega
          · have x1 : ¬ (j : Int) < (rn : Int) := by omega
            have hall : ((R.take j).filter (fun y => y.1 == (q6 : Int))).length = 1 := by
              have := HRN.out
              rw [List.take_of_length_le (by omega), HF.out]; rfl
            rw [hall]
            clear hall
            go_wp2_with fail
            refine (CSAME.out _ K.out).mono ?_
            rintro e w13 ⟨rfl, k13⟩
            have K13 := Lib.hid k13
            have CC := CHL.out w13 k13
            clear k13
            go_wp2_with fail
            refine CC.mono ?_
            rintro e w' ⟨⟨h13, rfl, hl⟩, rfl⟩
            have hl13 := hl w13 (Kept.refl w13 [])
            clear hl CC
            go_wp2_with fail
            refine hl13.mono ?_
            rintro e w14 ⟨rfl, k14⟩
            have K14 := Lib.hid (K13.out.trans k14 (by simp))
            clear k14 hl13
            go_wp2
            go_ret
            exact ⟨rfl, B12.out.trans ((K14.out.below (B := w2.heap.size) S12.out.size (by simp)).mono Z2.out)⟩

set_option maxRecDepth 100000 in
theorem lifted (os : Os) (started : os.Started) (H : Type) (enc : TypeId × Value → H) :
    ReturnsInHanded {} Try.checked os 9 .any (Rows.relReadsSpec.pre6 enc Try.prog Try.f9 Rows.relReadsRow.domain false) (Rows.relReadsSpec.post enc Try.prog Try.f9 false true false false) := by
  refine returnsInHanded_of_change (C := Try.checked) own started (by kernel_rfl) Try.func9
    (ChangeSpec.witness6 (enc := enc) (C := Try.checked) false ⟨#[], #[.slice none 0 0, .int .u8 0, .int .u8 0, .int .u8 0], []⟩ 8 (by kernel_rfl) (by kernel_rfl) (by kernel_rfl) (by kernel_rfl)) ?_
  intro W base args ds gs before hval0 hW hcnd _
  have hval : ∀ (j : Nat) t v, Try.f9.params[j]? = some t → args[j]? = some v → Value.okWide Try.prog W .any base t v := hval0
  have hW' := hW
  obtain ⟨p, q, hA0, hV, rfl, hfz, hnd⟩ := hW
  have hA : DataW.TrodAll enc Try.prog W 0 (fun _ => true) true Try.f9.params.toList args.toList ds p := hA0
  rw [Try.params9] at hA hval
  obtain ⟨v0, vs0, d0, ds0, p0, q0, hargs, rfl, rfl, h0, r0⟩ := trodAll_cons hA
  obtain ⟨v1, vs1, d1, ds1, p1, q1, rfl, rfl, rfl, h1, r1⟩ := trodAll_cons r0
  obtain ⟨v2, vs2, d2, ds2, p2, q2, rfl, rfl, rfl, h2, r2⟩ := trodAll_cons r1
  obtain ⟨v3, vs3, d3, ds3, p3, q3, rfl, rfl, rfl, h3, r3⟩ := trodAll_cons r2
  obtain ⟨rfl, rfl, rfl⟩ := trodAll_nil r3
  obtain rfl : args = #[v0, v1, v2, v3] := by cases args; simp_all
  obtain ⟨rfl, rfl⟩ := trodVars_none hV
  obtain ⟨a0, len0, cap0, rfl⟩ := okWide_slice Try.underlying22 (hval 0 22 v0 rfl rfl)
  have k0 := h0
  have lt0 : ∀ x ∈ p0, x.block < W.heap.size := by obtain ⟨m, hm⟩ := k0; exact DataW.trod_lt m _ _ _ hm
  obtain ⟨z0, w0⟩ : ∃ f, IsActs W W.heap.size a0 len0 f ∧ len0 ≤ maxLen := by
    obtain ⟨fuel, hf⟩ := h0
    exact acts_open (by simpa [Value.cells] using hf)
  obtain ⟨a1, rfl, rfl, rfl, w1⟩ := open_int Try.underlying5 (hval 1 5 v1 rfl rfl) h1
  obtain ⟨a2, rfl, rfl, rfl, w2⟩ := open_int Try.underlying5 (hval 2 5 v2 rfl rfl) h2
  obtain ⟨a3, rfl, rfl, rfl, w3⟩ := open_int Try.underlying5 (hval 3 5 v3 rfl rfl) h3
  clear hA0 hval0
  refine (walk a0 len0 cap0 z0 a1 a2 a3 W w0 w1 w2 w3).mono fun e W' ⟨he, bel⟩ => ?_
  subst he
  exact ⟨_, rfl, _, _, _, [], _, [], hW', trodAll_mk1 (shut_bool Try.underlying4 _), (trodAll_cons_mk (Below.trod laidOut (by kernel_rfl) (of_decide_eq_true (by kernel_rfl)) k0 bel lt0) (trodAll_cons_mk (shut_int Try.underlying5 w1) (trodAll_cons_mk (shut_int Try.underlying5 w2) (trodAll_cons_mk (shut_int Try.underlying5 w3) trodAll_mk0)))), rfl, bel.frame _, fun h => by cases h⟩

theorem over : Rows.relReadsRow.holds Try.pinned (OpenSpec.ofChange Rows.relReadsSpec) :=
  OpenClaim.holds_of_wide 9 Try.f9 rfl rfl rfl rfl rfl rfl rfl ⟨rfl, rfl, rfl, rfl, rfl⟩ rfl rfl rfl rfl rfl (by kernel_rfl) Try.func9 (by kernel_rfl)
    (of_decide_eq_true (by kernel_rfl)) (by unfold Func.isWrapper; first | (rw [if_pos (by decide +kernel)]; kernel_rfl) | (rw [if_neg (by decide +kernel)]; exact ⟨rfl, rfl⟩))
    (fun os started H enc _ => lifted os started H enc)

theorem proved : Rows.RelReadsSaid :=
  over
end Go.Proofs.Ytdjhcdgehmpikaa.relReads

namespace Go.Proofs.Ytdjhcdgehmpikaa
theorem relReads_holds : Rows.RelReadsSaid := relReads.proved
#print axioms relReads_holds
end Go.Proofs.Ytdjhcdgehmpikaa

