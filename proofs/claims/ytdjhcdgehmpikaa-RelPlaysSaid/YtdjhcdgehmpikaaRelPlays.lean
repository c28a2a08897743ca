/-
  Proved: whatever the arguments are, carrierlaw08.RelPlays answers true and leaves its arguments as they were. No condition.
-/
import Derived.Test.YtdjhcdgehmpikaaMb
import Derived.ProofKit
import Derived.OpenShut
import Derived.ChangeOld
import Derived.Below
namespace Go.Proofs.Ytdjhcdgehmpikaa.relPlays
open Go.ChangeShapes Go.WideShapes Go.ChangeAt Go.RowKit
set_option linter.unusedVariables false

theorem own : ownKnob Try.prog.godebug = none := by kernel_rfl
theorem laidOut : laidOutB Try.prog = true := by kernel_rfl

set_option maxHeartbeats 3200000 in
set_option maxRecDepth 100000 in
theorem walk (n0 : Int) (a0 : Option Addr) (len0 cap0 : Nat) (f0 : Nat → ActD) (W : World) (wn : (Lit.int .i64 n0).wf = true) (w0 : IsActs W W.heap.size a0 len0 f0 ∧ len0 ≤ maxLen) :
    Calls Try.prog 3 #[.int .i64 n0, .slice a0 len0 cap0] W fun e w' => e = .returned (.bool true) ∧ Below W.heap.size W w' := by
  obtain ⟨nt, hnt⟩ : ∃ nt, n0.tmod 6 = nt := ⟨_, rfl⟩
  have A0 := Lib.hid w0
  clear w0 wn
  go_enter Try.func3, Try.ntmps3
  go_wp2_with fail
  refine (row_any W).mono ?_
  rintro e w2 ⟨rfl, hk⟩
  have K2 := Lib.hid hk
  have sm0 := Lib.hid (small_any (cap := cap0) (A0.out.1.below (Kept.below hk (Nat.le_refl _) (by simp))) A0.out.2)
  clear hk
  go_wp2_with fail
  refine sm0.out.mono ?_
  rintro e w3 ⟨s0, rfl, h80, rfl⟩
  cases s0
  · go_wp2_with fail
    refine (row_any w2).mono ?_
    rintro e w4 ⟨rfl, hk⟩
    have K4 := Lib.hid (K2.out.trans hk (by simp))
    clear hk
    go_wp2
    go_ret
    exact ⟨rfl, K4.out.below (Nat.le_refl _) (by simp)⟩
  have L0 := Lib.hid (h80 rfl)
  have hl0 : len0 ≤ 80 := L0.out
  clear h80
  go_wp2_with fail
  refine (mnew_any w2).mono ?_
  rintro e w3 ⟨p, b, v1, rfl, hm, hk⟩
  have M3 := Lib.hid hm; have K3 := Lib.hid (K2.out.trans hk (by simp)); have Z2 := Lib.hid K2.out.size; have Z3 := Lib.hid hk.size
  clear hm hk sm0
  obtain ⟨w4, hW⟩ : ∃ w4, w4 = w3.alloc (.cells #[.slice none 0 0] 30) := ⟨_, rfl⟩
  obtain ⟨q, hq⟩ : ∃ q, q = w3.heap.size := ⟨_, rfl⟩
  have k34 : Kept w3 w4 [] := by rw [hW]; exact (Kept.refl w3 []).alloc _
  have Q4 : Hid (Rm w4 w2.heap.size q (.slice none 0 0) []) := Lib.hid (by rw [hW, hq]; exact rnew w3 Z3.out)
  have M4 := Lib.hid (M3.out.keep k34)
  have K4 := Lib.hid (K3.out.trans k34 (by simp))
  clear k34
  have c : Calls Try.prog 13 #[.pointer (some ⟨p, 0, none⟩), .int .i64 nt] w4 fun e w' => ∃ r O, e = .returned (.pointer (some ⟨r, 0, none⟩)) ∧ Sto w' w2.heap.size p r O [] (List.replicate (cl nt) noTab) ∧ Kept w4 w' [] ∧ w4.heap.size ≤ r := relnew_any M4.out nt
  go_wp2_with fail
  rw [← hW, ← hq]
  clear hW hq hnt
  refine c.mono ?_
  rintro e w5 ⟨r, O5, rfl, s, hk, _⟩
  have S5 := Lib.hid s; have Q5 := Lib.hid (Q4.out.keep hk); have K5 := Lib.hid (K4.out.trans hk (by simp))
  clear s hk c
  have c : Calls Try.prog 14 #[.pointer (some ⟨q, 0, none⟩), .int .i64 nt] w5 fun e w' => ∃ zb, e = .returned (.pointer (some ⟨zb, 0, none⟩)) ∧ Rst w' w2.heap.size q zb [] (List.replicate (cl nt) []) ∧ Kept w5 w' [] := rrelnew_any Q5.out nt
  go_wp2_with fail
  refine c.mono ?_
  rintro e w6 ⟨zb, rfl, z, hk⟩
  have Z6 := Lib.hid z; have S6 := Lib.hid (S5.out.keep hk); have B6 := Lib.hid ((K5.out.trans hk (by simp)).below (B := W.heap.size) (Nat.le_refl _) (by simp))
  clear z hk c
  obtain ⟨ct, hct⟩ : ∃ ct, cl nt = ct := ⟨_, rfl⟩
  have hct4 := cl_le nt
  rw [hct] at S6 Z6 hct4
  have CT : Hid (∀ k, Calls Try.prog 15 #[.pointer (some ⟨r, 0, none⟩)] (w6.drewN k) fun e w' => e = .returned (.int .i64 (ct : Int)) ∧ w' = w6.drewN k) := Lib.hid (fun k => by
    refine (tables_sto (S6.out.keep ((Kept.refl w6 []).drewN k))).mono ?_
    rintro e w' ⟨rfl, rfl⟩
    exact ⟨by simp, rfl⟩)
  have c0 : ∃ a cap, w6.cell? ⟨zb, 0, none⟩ = some (.slice a ct cap) := by
    obtain ⟨v, zv, L, a, e⟩ := Z6.out
    obtain ⟨a0, cap, rfl, _, _⟩ := a.zc.shape
    have hL : L.length = ct := by have := congrArg List.length e; simpa using this.symm
    exact ⟨a0, cap, by rw [cell_of_row _ _ 0 _ _ _ a.zc.hr, ← hL]; rfl⟩
  obtain ⟨az, capz, c0⟩ := c0
  clear S5 Q5 Q4 M4 M3 K4 K5 hct
  go_wp2_with fail
  go_quiet ((go_at_call 15; exact Calls.quiet_of_same (CT.out _)))
  have P6 : Hid (∀ k, Pl W (w6.drewN k) w2.heap.size p r q zb O5 [] (List.replicate ct []) (List.replicate ct noTab) (.slice none 0 0) [] 0) := Lib.hid (fun k => (Pl.start (W := W) hct4.2 S6.out Z6.out B6.out Z2.out).keep ((Kept.refl w6 []).drewN k))
  clear c0 CT K2 K3 Z3 hct4 B6 Z6 S6
  obtain ⟨i0, hi0, hz0, hz1, hzb⟩ := info_parts Try.infoVw
  have I := Lib.hid (And.intro hi0 (And.intro hz0 (And.intro hz1 hzb)))
  clear hi0 hz0 hz1 hzb
  go_wp2
  go_loopw [10, 11] (fun s10 s11 wr => ∃ (i : Nat) (O : Nat → Prop) (st : List Nat) (T : List Fl) (TT : List Tab) (vl : List Vd), s11 = .int .i64 i ∧ i ≤ len0 ∧ Pl W wr w2.heap.size p r q zb O st T TT s10 vl i) (fun _ s11 _ => len0 - (intOf s11).toNat)
  case atStart => exact ⟨0, O5, [], _, _, [], rfl, Nat.zero_le _, P6.out _⟩
  case round =>
    obtain ⟨i, O, st, T, TT, vl, rfl, hi, hp⟩ := hrel
    have P := Lib.hid hp
    clear hp P6
    obtain ⟨va, vc, hval⟩ := ownsRow_shape P.out.vw.row
    subst hval
    obtain ⟨n, hn⟩ : ∃ n, vl.length = n := ⟨_, rfl⟩
    have HN := Lib.hid hn
    have hni : n ≤ 80 := by have := P.out.vln; omega
    rw [hn] at P ⊢
    clear hn
    by_cases hlt : i < len0
    · obtain ⟨ab, ao, rfl, hx⟩ := A0.out.1 (by omega)
      have X := (hx i hlt).frame (Kept.ofBelow P.out.bel [])
      generalize f0 i = x at X
      obtain ⟨d, who, kind, table, key, txt⟩ := x
      have XX := Lib.hid X
      have hd8 : d < 256 := X.d8
      have hk8 : kind < 256 := X.k8
      have hw8 : who < 256 := X.w8
      have x1 : (i : Int) < (len0 : Int) := by omega
      have e0 := X.c0; have e1 := X.c1; have e2 := X.c2; have e3 := X.c3; have e4 := X.c4; have e5 := X.c5
      simp only at e0 e1 e2 e3 e4 e5
      obtain ⟨wA, hwA⟩ : ∃ wA, wA = wr.alloc (.cells #[.int .u8 d, .int .u8 who, .int .u8 kind, .int .i64 table, .int .i64 key, .string txt] 41) := ⟨_, rfl⟩
      obtain ⟨xb, hxb⟩ : ∃ xb, xb = wr.heap.size := ⟨_, rfl⟩
      have kA : Kept wr wA [] := by rw [hwA]; exact (Kept.refl wr []).alloc _
      have gA : wA.heap[xb]? = some (.cells #[.int .u8 d, .int .u8 who, .int .u8 kind, .int .i64 table, .int .i64 key, .string txt] 41 (0, 0)) := by rw [hwA, hxb]; exact heap_alloc_new wr _
      have PA := Lib.hid (P.out.keep kA)
      have GA := Lib.hid gA
      have d0 : wA.cell? ⟨xb, 0, none⟩ = some (.int .u8 d) := by rw [cell_of_row _ _ 0 _ _ _ gA]; rfl
      have d1 : wA.cell? ⟨xb, 1, none⟩ = some (.int .u8 who) := by rw [cell_of_row _ _ 1 _ _ _ gA]; rfl
      have d2 : wA.cell? ⟨xb, 2, none⟩ = some (.int .u8 kind) := by rw [cell_of_row _ _ 2 _ _ _ gA]; rfl
      have d3 : wA.cell? ⟨xb, 3, none⟩ = some (.int .i64 table) := by rw [cell_of_row _ _ 3 _ _ _ gA]; rfl
      have d4 : wA.cell? ⟨xb, 4, none⟩ = some (.int .i64 key) := by rw [cell_of_row _ _ 4 _ _ _ gA]; rfl
      have d5 : wA.cell? ⟨xb, 5, none⟩ = some (.string txt) := by rw [cell_of_row _ _ 5 _ _ _ gA]; rfl
      obtain ⟨dr, hdr⟩ : ∃ dr : Nat, (d : Int).tmod 8 = (dr : Int) := ⟨((d : Int).tmod 8).toNat, by have := Int.tmod_nonneg 8 (show (0 : Int) ≤ d by omega); omega⟩
      have hdr8 : dr < 8 := by have := Int.tmod_lt_of_pos (d : Int) (show (0 : Int) < 8 by omega); omega
      clear X hx kA gA
      by_cases hb : dr = 0
      · subst hb
        go_wp2_with fail
        rw [← hwA, ← hxb]
        clear hwA hxb d0 d1 d2 d3 d4 d5 e0 e1 e2 e3 e4 e5 hdr
        have hsl := P.out.ln
        by_cases hf : 6 ≤ (opens st).length
        · refine (beginfull_sto PA.out.s (.inl hf)).mono ?_
          rintro e w' ⟨rfl, rfl⟩
          have cz := rbeginfull_st PA.out.z (.inl hf)
          go_wp2_with fail
          refine cz.mono ?_
          rintro e w3 ⟨rfl, k3⟩
          have P3 := Lib.hid ((PA.out.keep k3).up (Nat.le_succ i))
          clear k3 cz hf
          go_wp2
          go_roundw
          case rel => exact ⟨i + 1, O, st, T, TT, vl, by go_num, by omega, P3.out⟩
          case measure => simp [intOf]; omega
        · obtain ⟨id, hid⟩ : ∃ id : Int, (st.length : Int) + 1 = id := ⟨_, rfl⟩
          have hidw := Lib.hid (show (Lit.int .i64 id).wf = true from wf_i64 (by omega))
          have cb := begin_sto PA.out.s (by omega) (by omega)
          rw [hid] at cb
          refine cb.mono ?_
          rintro e w3 ⟨rfl, O3, s3, f3⟩
          have S3 := Lib.hid s3; have F3 := Lib.hid f3
          have cz := rbegin_st (PA.out.z.co PA.out.s f3.1) (by omega) (by omega)
          rw [hid] at cz
          clear cb hid s3 f3 hsl
          go_wp2_with fail
          refine cz.mono ?_
          rintro e w4 ⟨rfl, z4, f4⟩
          have P4 := Lib.hid (PA.out.begun S3.out F3.out z4 f4)
          have cn := rnow_st z4
          obtain ⟨mx, hmx⟩ : ∃ mx : Int, ((st ++ [1]).length : Int) + 1 = mx := ⟨_, rfl⟩
          obtain ⟨ol, hol⟩ : ∃ ol, (opens (st ++ [1])).length = ol := ⟨_, rfl⟩
          rw [hmx, hol] at cn
          have HOL := Lib.hid hol
          clear z4 f4 cz hmx hol hf
          go_wp2_with fail
          refine cn.mono ?_
          rintro e w5 ⟨u5, c5, rfl, ho5, k5⟩
          have V5 : Hid (Vo w5 (.slice u5 ol c5) (opens (st ++ [1]))) := Lib.hid (by
            have := ownsRow_low ho5 (Nat.zero_le _)
            unfold Vo
            rw [HOL.out]
            exact this)
          have kal : Kept w5 (w5.alloc (.cells #[.int .i64 mx, .slice u5 ol c5, .int .i64 id] 50)) [] := (Kept.refl w5 []).alloc _
          have P5 := Lib.hid ((P4.out.keep k5).keep kal)
          have V6 := Lib.hid (V5.out.keep kal)
          have SB := Lib.hid (src_vd (W := w5) ⟨mx, u5, ol, c5, opens (st ++ [1]), id⟩ rfl)
          have SZ := Lib.hid P5.out.s.size
          clear ho5 k5 cn kal
          go_wp2_with (at_builtin; refine wpList_append_all _ rfl (.tmp 86) (.tmp 91) 35 35 rfl w2.heap.size 50 i0 _ 3 40 Try.underlying35 I.out.1 I.out.2.1 I.out.2.2.1 I.out.2.2.2 rfl (.slice va n vc) n (vdl vl) rfl ?hown _ 1 (vdc ⟨mx, u5, ol, c5, opens (st ++ [1]), id⟩) rfl ?hsrc ?b1 ?b2 ?base ?next)
          case hown => have := P5.out.vw.row; rw [HN.out] at this; exact this
          case hsrc => exact SB.out
          case b1 => unfold maxLen; omega
          case b2 => omega
          case base => exact SZ.out
          case next =>
            intro v6 w6 ho6 _ hg6 _
            have P7 := Lib.hid (Pl.more P5.out (by have := P.out.vln; exact this) ⟨mx, u5, ol, c5, opens (st ++ [1]), id⟩ V6.out hidw.out (by rw [HN.out]; exact ho6) hg6)
            clear ho6 hg6
            go_wp2
            go_roundw
            case rel => exact ⟨i + 1, O3, st ++ [1], T, TT, _, by go_num, by omega, P7.out⟩
            case measure => simp [intOf]; omega
      · have y1 : ((dr : Int) == 0) = false := by rw [beq_eq_false_iff_ne]; omega
        by_cases hn0 : n = 0
        · subst hn0
          go_wp2_with fail
          rw [← hwA, ← hxb]
          clear hwA hxb d0 d1 d2 d3 d4 d5 e0 e1 e2 e3 e4 e5 hdr
          have hsl := P.out.ln
          by_cases hf : 6 ≤ (opens st).length
          · refine (beginfull_sto PA.out.s (.inl hf)).mono ?_
            rintro e w' ⟨rfl, rfl⟩
            have cz := rbeginfull_st PA.out.z (.inl hf)
            go_wp2_with fail
            refine cz.mono ?_
            rintro e w3 ⟨rfl, k3⟩
            have P3 := Lib.hid ((PA.out.keep k3).up (Nat.le_succ i))
            clear k3 cz hf
            go_wp2
            go_roundw
            case rel => exact ⟨i + 1, O, st, T, TT, vl, by go_num, by omega, P3.out⟩
            case measure => simp [intOf]; omega
          · obtain ⟨id, hid⟩ : ∃ id : Int, (st.length : Int) + 1 = id := ⟨_, rfl⟩
            have hidw := Lib.hid (show (Lit.int .i64 id).wf = true from wf_i64 (by omega))
            have cb := begin_sto PA.out.s (by omega) (by omega)
            rw [hid] at cb
            refine cb.mono ?_
            rintro e w3 ⟨rfl, O3, s3, f3⟩
            have S3 := Lib.hid s3; have F3 := Lib.hid f3
            have cz := rbegin_st (PA.out.z.co PA.out.s f3.1) (by omega) (by omega)
            rw [hid] at cz
            clear cb hid s3 f3 hsl
            go_wp2_with fail
            refine cz.mono ?_
            rintro e w4 ⟨rfl, z4, f4⟩
            have P4 := Lib.hid (PA.out.begun S3.out F3.out z4 f4)
            have cn := rnow_st z4
            obtain ⟨mx, hmx⟩ : ∃ mx : Int, ((st ++ [1]).length : Int) + 1 = mx := ⟨_, rfl⟩
            obtain ⟨ol, hol⟩ : ∃ ol, (opens (st ++ [1])).length = ol := ⟨_, rfl⟩
            rw [hmx, hol] at cn
            have HOL := Lib.hid hol
            clear z4 f4 cz hmx hol hf
            go_wp2_with fail
            refine cn.mono ?_
            rintro e w5 ⟨u5, c5, rfl, ho5, k5⟩
            have V5 : Hid (Vo w5 (.slice u5 ol c5) (opens (st ++ [1]))) := Lib.hid (by
              have := ownsRow_low ho5 (Nat.zero_le _)
              unfold Vo
              rw [HOL.out]
              exact this)
            have kal : Kept w5 (w5.alloc (.cells #[.int .i64 mx, .slice u5 ol c5, .int .i64 id] 50)) [] := (Kept.refl w5 []).alloc _
            have P5 := Lib.hid ((P4.out.keep k5).keep kal)
            have V6 := Lib.hid (V5.out.keep kal)
            have SB := Lib.hid (src_vd (W := w5) ⟨mx, u5, ol, c5, opens (st ++ [1]), id⟩ rfl)
            have SZ := Lib.hid P5.out.s.size
            clear ho5 k5 cn kal
            go_wp2_with (at_builtin; refine wpList_append_all _ rfl (.tmp 86) (.tmp 91) 35 35 rfl w2.heap.size 50 i0 _ 3 40 Try.underlying35 I.out.1 I.out.2.1 I.out.2.2.1 I.out.2.2.2 rfl (.slice va 0 vc) 0 (vdl vl) rfl ?hown _ 1 (vdc ⟨mx, u5, ol, c5, opens (st ++ [1]), id⟩) rfl ?hsrc ?b1 ?b2 ?base ?next)
            case hown => have := P5.out.vw.row; rw [HN.out] at this; exact this
            case hsrc => exact SB.out
            case b1 => unfold maxLen; omega
            case b2 => omega
            case base => exact SZ.out
            case next =>
              intro v6 w6 ho6 _ hg6 _
              have P7 := Lib.hid (Pl.more P5.out (by have := P.out.vln; exact this) ⟨mx, u5, ol, c5, opens (st ++ [1]), id⟩ V6.out hidw.out (by rw [HN.out]; exact ho6) hg6)
              clear ho6 hg6
              go_wp2
              go_roundw
              case rel => exact ⟨i + 1, O3, st ++ [1], T, TT, _, by go_num, by omega, P7.out⟩
              case measure => simp [intOf]; omega
        · have y2 : ((n : Int) == 0) = false := by rw [beq_eq_false_iff_ne]; omega
          obtain ⟨j, hj, hjn⟩ : ∃ j : Nat, wrap64 ((n : Int) - 1 - (who : Int) % (n : Int)) = (j : Int) ∧ j < n := by
            have h := Nat.mod_lt who (show 0 < n by omega)
            refine ⟨n - 1 - who % n, ?_, by omega⟩
            have e : (who : Int) % (n : Int) = ((who % n : Nat) : Int) := by simp
            rw [e]; simp only [wrap64]; omega
          obtain ⟨x, hx⟩ : ∃ x, vl[j]? = some x := ⟨_, List.getElem?_eq_getElem (by rw [HN.out]; exact hjn)⟩
          have hxm := List.mem_of_getElem? hx
          obtain ⟨g, cv, hv, hcap, m0, m1, m2⟩ := PA.out.vw.at_ hx
          simp only [Value.slice.injEq] at hv
          obtain ⟨v1e, v2e, v3e⟩ := hv
          subst v1e; subst v3e
          clear v2e
          rw [HN.out] at hcap
          have VOX := Lib.hid (PA.out.vw.vo x hxm)
          have WFX := Lib.hid (PA.out.vw.own x hxm)
          obtain ⟨xm, xu, xn, xc, xo, xw⟩ := x
          simp only at m0 m1 m2 VOX WFX
          obtain ⟨wB, hwB⟩ : ∃ wB, wB = wA.alloc (.cells #[.int .i64 xm, .slice xu xn xc, .int .i64 xw] 50) := ⟨_, rfl⟩
          have szA : wA.heap.size = xb + 1 := by rw [hwA, hxb]; simp
          obtain ⟨yb, hyb⟩ : ∃ yb, yb = xb + 1 := ⟨_, rfl⟩
          have kB : Kept wA wB [] := by rw [hwB]; exact (Kept.refl wA []).alloc _
          have gB : wB.heap[yb]? = some (.cells #[.int .i64 xm, .slice xu xn xc, .int .i64 xw] 50 (0, 0)) := by have := heap_alloc_new wA (.cells #[.int .i64 xm, .slice xu xn xc, .int .i64 xw] 50); rw [szA] at this; rw [hwB, hyb]; exact this
          obtain ⟨wC, hwC⟩ : ∃ wC, wC = wB.alloc (.cells #[.int .i64 xm, .slice xu xn xc, .int .i64 xw] 51) := ⟨_, rfl⟩
          have szB : wB.heap.size = yb + 1 := by rw [hwB, hyb, ← szA]; simp
          obtain ⟨vb, hvb⟩ : ∃ vb, vb = yb + 1 := ⟨_, rfl⟩
          have kC : Kept wB wC [] := by rw [hwC]; exact (Kept.refl wB []).alloc _
          have kAC := kB.trans kC (by simp)
          have gC : wC.heap[vb]? = some (.cells #[.int .i64 xm, .slice xu xn xc, .int .i64 xw] 51 (0, 0)) := by have := heap_alloc_new wB (.cells #[.int .i64 xm, .slice xu xn xc, .int .i64 xw] 51); rw [szB] at this; rw [hwC, hvb]; exact this
          have gBC := kC.heap (by simp) gB
          have gAC := kAC.heap (by simp) GA.out
          have b0 : wB.cell? ⟨yb, 0, none⟩ = some (.int .i64 xm) := by rw [cell_of_row _ _ 0 _ _ _ gB]; rfl
          have b1 : wB.cell? ⟨yb, 1, none⟩ = some (.slice xu xn xc) := by rw [cell_of_row _ _ 1 _ _ _ gB]; rfl
          have b2 : wB.cell? ⟨yb, 2, none⟩ = some (.int .i64 xw) := by rw [cell_of_row _ _ 2 _ _ _ gB]; rfl
          have PC := Lib.hid (PA.out.keep kAC)
          have VOC := Lib.hid (VOX.out.keep kAC)
          have GC := Lib.hid (And.intro gAC (And.intro gBC gC))
          have e0' : wC.cell? ⟨xb, 0, none⟩ = some (.int .u8 d) := by rw [cell_of_row _ _ 0 _ _ _ gAC]; rfl
          have e2' : wC.cell? ⟨xb, 2, none⟩ = some (.int .u8 kind) := by rw [cell_of_row _ _ 2 _ _ _ gAC]; rfl
          have e3' : wC.cell? ⟨xb, 3, none⟩ = some (.int .i64 table) := by rw [cell_of_row _ _ 3 _ _ _ gAC]; rfl
          have e4' : wC.cell? ⟨xb, 4, none⟩ = some (.int .i64 key) := by rw [cell_of_row _ _ 4 _ _ _ gAC]; rfl
          have e5' : wC.cell? ⟨xb, 5, none⟩ = some (.string txt) := by rw [cell_of_row _ _ 5 _ _ _ gAC]; rfl
          rw [hwA] at m0 m1 m2
          clear kB kC kAC gB gC gBC gAC hx hxm d0 d1 d2 d3 d4 d5 b0 b1 b2
          by_cases h1 : dr = 1
          · subst h1
            go_wp2_with fail
            rw [← hwA, ← hxb, ← hyb, ← hvb, ← hwB, ← hwC]
            clear hwA hxb hyb hvb hwB hwC szA szB e0 e1 e2 e3 e4 e5 e0' e2' e3' e4' e5' m0 m1 m2 hdr hj
            have k8 : Kept wC wC.drew [] := (Kept.refl wC []).drew
            have yy : wC.drew.cell? ⟨yb, 2, none⟩ = some (.int .i64 xw) := by rw [cell_of_row _ _ 2 _ _ _ (k8.heap (by simp) GC.out.2.1)]; rfl
            by_cases hc : stAt st xw = 1
            · obtain ⟨st2, hst2⟩ : ∃ st2, st.set (xw.toNat - 1) 2 = st2 := ⟨_, rfl⟩
              have CC : Hid (∀ V, Kept wC V [] → Calls Try.prog 19 #[.pointer (some ⟨p, 0, none⟩), .int .i64 xw] V fun e w' => e = .returned (.int .i64 0) ∧ ∃ O', Sto w' w2.heap.size p r O' st2 TT ∧ Stp O O' V w') := Lib.hid (fun V hV => by rw [← hst2]; exact commit_sto (PC.out.keep hV).s xw WFX.out hc)
              have CY : Hid (∀ V w8 O8, Kept wC V [] → Stp O O8 V w8 → w8.cell? ⟨yb, 2, none⟩ = some (.int .i64 xw)) := Lib.hid (fun V w8 O8 hV f8 => by
                have := (PC.out.keep hV).s.heap f8.1 (hV.heap (by simp) GC.out.2.1) (by decide)
                rw [cell_of_row _ _ 2 _ _ _ this]; rfl)
              have CE : Hid (∀ V w8 O8, Kept wC V [] → Sto w8 w2.heap.size p r O8 st2 TT → Stp O O8 V w8 → Calls Try.prog 20 #[.pointer (some ⟨q, 0, none⟩), .int .i64 xw, .int .u8 2] w8 fun e w' => e = .returned (.int .i64 0) ∧ Pl W w' w2.heap.size p r q zb O8 st2 T TT (.slice (some ⟨g, 0, none⟩) n vc) vl (i + 1) ∧ w'.cell? ⟨yb, 2, none⟩ = some (.int .i64 xw)) := Lib.hid (fun V w8 O8 hV s8 f8 => by
                have PV := PC.out.keep hV
                refine (rend_st (PV.z.co PV.s f8.1) xw hc).mono ?_
                rintro e w' ⟨rfl, z9, f9⟩
                have g := f9.heap (PV.s.heap f8.1 (hV.heap (by simp) GC.out.2.1) (by decide)) (by decide)
                rw [← hst2] at s8 ⊢
                exact ⟨rfl, PV.ended s8 f8 z9 f9, by rw [cell_of_row _ _ 2 _ _ _ g]; rfl⟩)
              clear hst2 hc
              go_region_held3 (fun V => V.cell? ⟨yb, 2, none⟩ = some (.int .i64 xw)) (exact yy)
                (first
                  | (go_at_call 19; refine (CC.out _ ?_).mono ?_; exact k8; rintro e w8 ⟨rfl, O8, s8, f8⟩; have yy := CY.out _ _ _ k8 f8)
                  | (go_at_call 20; refine (CE.out _ _ _ k8 s8 f8).mono ?_; rintro e w9 ⟨rfl, p9, yy⟩))
              have P9 := Lib.hid p9
              clear p9 yy k8 s8 f8
              go_wp2
              go_roundw
              case rel => exact ⟨i + 1, O8, _, T, TT, vl, by go_num, by omega, P9.out⟩
              case measure => simp [intOf]; omega
            · have CC : Hid (∀ V, Kept wC V [] → Calls Try.prog 19 #[.pointer (some ⟨p, 0, none⟩), .int .i64 xw] V fun e w' => e = .returned (.int .i64 7) ∧ V = w') := Lib.hid (fun V hV => commitbad_sto (PC.out.keep hV).s xw WFX.out hc)
              have CE : Hid (∀ V, Kept wC V [] → Calls Try.prog 20 #[.pointer (some ⟨q, 0, none⟩), .int .i64 xw, .int .u8 2] V fun e w' => e = .returned (.int .i64 7) ∧ V = w') := Lib.hid (fun V hV => rendbad_st (PC.out.keep hV).z xw hc)
              clear hc
              go_region_held3 (fun V => V.cell? ⟨yb, 2, none⟩ = some (.int .i64 xw)) (exact yy)
                (first
                  | (go_at_call 19; refine (CC.out _ ?_).mono ?_; exact k8; rintro e w8 ⟨rfl, rfl⟩)
                  | (go_at_call 20; refine (CE.out _ ?_).mono ?_; exact k8; rintro e w9 ⟨rfl, rfl⟩))
              have P9 := Lib.hid ((PC.out.keep k8).up (Nat.le_succ i))
              clear yy k8
              go_wp2
              go_roundw
              case rel => exact ⟨i + 1, O, st, T, TT, vl, by go_num, by omega, P9.out⟩
              case measure => simp [intOf]; omega
          · have y3 : ((dr : Int) == 1) = false := by rw [beq_eq_false_iff_ne]; omega
            have y3b : ¬ (dr : Int) = 1 := by omega
            obtain ⟨kk, hkk⟩ : ∃ kk : Nat, (1 : Int) + (kind : Int) % 6 = (kk : Int) := ⟨1 + kind % 6, by simp⟩
            obtain ⟨tb, htb⟩ : ∃ tb : Int, table.tmod 4 = tb := ⟨_, rfl⟩
            obtain ⟨ky, hky⟩ : ∃ ky : Int, key.tmod 5 = ky := ⟨_, rfl⟩
            have WKY : Hid ((Lit.int .i64 ky).wf = true) := Lib.hid (by rw [← hky]; exact wf_mod5 key)
            have szC : wC.heap.size = vb + 1 := by rw [hwC, hvb, ← szB]; simp
            obtain ⟨wD, hwD⟩ : ∃ wD, wD = wC.alloc (.cells #[.int .u8 kk, .int .i64 tb, .int .i64 ky, .string txt] 57) := ⟨_, rfl⟩
            obtain ⟨sb, hsb⟩ : ∃ sb, sb = vb + 1 := ⟨_, rfl⟩
            have kD : Kept wC wD [] := by rw [hwD]; exact (Kept.refl wC []).alloc _
            have gD : wD.heap[sb]? = some (.cells #[.int .u8 kk, .int .i64 tb, .int .i64 ky, .string txt] 57 (0, 0)) := by have := heap_alloc_new wC (.cells #[.int .u8 kk, .int .i64 tb, .int .i64 ky, .string txt] 57); rw [szC] at this; rw [hwD, hsb]; exact this
            by_cases h250 : 250 ≤ d
            · have WTB : Hid ((Lit.int .i64 table).wf = true) := Lib.hid XX.out.wt
              have x250 : (250 : Int) ≤ (d : Int) := by omega
              have e2' : wD.cell? ⟨xb, 2, none⟩ = some (.int .u8 kind) := by rw [cell_of_row _ _ 2 _ _ _ (kD.heap (by simp) GC.out.1)]; rfl
              have e3' : wD.cell? ⟨xb, 3, none⟩ = some (.int .i64 table) := by rw [cell_of_row _ _ 3 _ _ _ (kD.heap (by simp) GC.out.1)]; rfl
              have hxs : xb ≠ sb := by omega
              have k8 : Kept wD wD.drew [] := (Kept.refl wD []).drew
              have gD8 := k8.heap (by simp) gD
              have hC8 : wC.heap.size ≤ sb := by omega
              obtain ⟨w28, hw28⟩ : ∃ w28, w28 = (wD.setCell ⟨sb, 0, none⟩ (.int .u8 kind)).drew := ⟨_, rfl⟩
              have kd : Kept (wD.setCell ⟨sb, 0, none⟩ (.int .u8 kind)) w28 [] := by rw [hw28]; exact (Kept.refl _ []).drew
              obtain ⟨wE, hwE⟩ : ∃ wE, wE = w28.setCell ⟨sb, 1, none⟩ (.int .i64 table) := ⟨_, rfl⟩
              have kE : Kept wC wE [] := by rw [hwE, hw28]; exact ((kD.setCell (p := ⟨sb, 0, none⟩) (.inr hC8) _).drew).setCell (p := ⟨sb, 1, none⟩) (.inr hC8) _
              have g28 : w28.heap[sb]? = some (.cells #[.int .u8 kind, .int .i64 tb, .int .i64 ky, .string txt] 57 (0, 0)) := by have := heap_setCell_at gD 0 (.int .u8 kind); exact kd.heap (by simp) (by simpa using this)
              have gE : wE.heap[sb]? = some (.cells #[.int .u8 kind, .int .i64 table, .int .i64 ky, .string txt] 57 (0, 0)) := by have := heap_setCell_at g28 1 (.int .i64 table); rw [hwE]; simpa using this
              have s0 : wD.drew.cell? ⟨sb, 0, none⟩ = some (.int .u8 kk) := by rw [cell_of_row _ _ 0 _ _ _ gD8]; rfl
              have s1 : wD.drew.cell? ⟨sb, 1, none⟩ = some (.int .i64 tb) := by rw [cell_of_row _ _ 1 _ _ _ gD8]; rfl
              have f0 : wD.drew.frozen? ⟨sb, 0, none⟩ = false := frozen_of_row _ _ _ _ _ gD8
              have f1 : wD.drew.frozen? ⟨sb, 1, none⟩ = false := frozen_of_row _ _ _ _ _ gD8
              have s1' : w28.cell? ⟨sb, 1, none⟩ = some (.int .i64 tb) := by rw [cell_of_row _ _ 1 _ _ _ g28]; rfl
              have f1' : w28.frozen? ⟨sb, 1, none⟩ = false := frozen_of_row _ _ _ _ _ g28
              have yy : wD.drew.cell? ⟨xb, 2, none⟩ = some (.int .u8 kind) ∧ wD.drew.cell? ⟨xb, 3, none⟩ = some (.int .i64 table) := ⟨k8.cell (p := ⟨xb, 2, none⟩) (by simp) e2', k8.cell (p := ⟨xb, 3, none⟩) (by simp) e3'⟩
              obtain ⟨fb, hfb⟩ : ∃ fb, fb = wE.heap.size := ⟨_, rfl⟩
              obtain ⟨wF, hwF⟩ : ∃ wF, wF = wE.alloc (.cells #[.int .u8 kind, .int .i64 table, .int .i64 ky, .string txt] 58) := ⟨_, rfl⟩
              have kF : Kept wE wF [] := by rw [hwF]; exact (Kept.refl wE []).alloc _
              have gF : wF.heap[fb]? = some (.cells #[.int .u8 kind, .int .i64 table, .int .i64 ky, .string txt] 58 (0, 0)) := by rw [hwF, hfb]; exact heap_alloc_new wE _
              have kEF := kE.trans kF (by simp)
              have gV := kEF.heap (by simp) GC.out.2.2
              have v0 : (wE.alloc (.cells #[.int .u8 kind, .int .i64 table, .int .i64 ky, .string txt] 58)).cell? ⟨vb, 0, none⟩ = some (.int .i64 xm) := by rw [← hwF, cell_of_row _ _ 0 _ _ _ gV]; rfl
              have v1' : (wE.alloc (.cells #[.int .u8 kind, .int .i64 table, .int .i64 ky, .string txt] 58)).cell? ⟨vb, 1, none⟩ = some (.slice xu xn xc) := by rw [← hwF, cell_of_row _ _ 1 _ _ _ gV]; rfl
              have v2 : (wE.alloc (.cells #[.int .u8 kind, .int .i64 table, .int .i64 ky, .string txt] 58)).cell? ⟨vb, 2, none⟩ = some (.int .i64 xw) := by rw [← hwF, cell_of_row _ _ 2 _ _ _ gV]; rfl
              have E0 : wE.cell? ⟨sb, 0, none⟩ = some (.int .u8 kind) := by rw [cell_of_row _ _ 0 _ _ _ gE]; rfl
              have E1 : wE.cell? ⟨sb, 1, none⟩ = some (.int .i64 table) := by rw [cell_of_row _ _ 1 _ _ _ gE]; rfl
              have E2 : wE.cell? ⟨sb, 2, none⟩ = some (.int .i64 ky) := by rw [cell_of_row _ _ 2 _ _ _ gE]; rfl
              have E3 : wE.cell? ⟨sb, 3, none⟩ = some (.string txt) := by rw [cell_of_row _ _ 3 _ _ _ gE]; rfl
              have PF := Lib.hid (PC.out.keep kEF)
              have VOF := Lib.hid (VOC.out.keep kEF)
              have GF := Lib.hid (And.intro (kEF.heap (by simp) GC.out.2.1) (And.intro (kF.heap (by simp) gE) gF))
              have E2S := Lib.hid e2'; have E3S := Lib.hid e3'
              clear kD gD kE kF gF kEF gV gE g28 gD8 hC8 k8
              go_wp2_with fail
              rw [← hwA, ← hxb, ← hyb, ← hvb, ← hsb, ← hwB, ← hwC, ← hwD]
              clear hwA hxb hyb hvb hsb hwB hwC hwD szA szB szC e0 e1 e2 e3 e4 e5 e0' e2' e3' e4' e5' m0 m1 m2 hdr hj
              have zz : w28.cell? ⟨xb, 2, none⟩ = some (.int .u8 kind) ∧ w28.cell? ⟨xb, 3, none⟩ = some (.int .i64 table) := ⟨kd.cell (p := ⟨xb, 2, none⟩) (by simp) (set_far hxs E2S.out), kd.cell (p := ⟨xb, 3, none⟩) (by simp) (set_far hxs E3S.out)⟩
              refine wp_region_held_drew (S := fun V => V.cell? ⟨xb, 2, none⟩ = some (.int .u8 kind) ∧ V.cell? ⟨xb, 3, none⟩ = some (.int .i64 table)) (by kernel_rfl) yy (fun hHeld => ?_)
              refine wpAnyH_take (i := 0) (oi := _) (v := .pointer (some ⟨xb, 2, none⟩)) rfl (by kernel_rfl) (by kernel_rfl) (by kernel_rfl) (fun _ _ _ h => h) (Or.inl ⟨by rfl, fun V hV => by go_simp⟩) hHeld ?_
              change wpAnyH _ _ _ _ _ _ _ (Act.put _ (some 141) _) _
              simp only [Act.put, List.setIfInBounds_toArray, List.set_cons_zero, List.set_cons_succ]
              refine wpAnyH_take (i := 1) (oi := _) (v := .int .u8 kind) rfl (by kernel_rfl) (by kernel_rfl) (by kernel_rfl) (fun _ _ _ h => h) (Or.inl ⟨by rfl, fun V hV => by (obtain ⟨q0, q1⟩ := hV; go_simp)⟩) hHeld ?_
              change wpAnyH _ _ _ _ _ _ _ (Act.put _ (some 142) _) _
              simp only [Act.put, List.setIfInBounds_toArray, List.set_cons_zero, List.set_cons_succ]
              refine wpAnyH_take (i := 2) (oi := _) (v := .pointer (some ⟨xb, 3, none⟩)) rfl (by kernel_rfl) (by kernel_rfl) (by kernel_rfl) (fun _ _ _ h => h) (Or.inl ⟨by rfl, fun V hV => by go_simp⟩) hHeld ?_
              change wpAnyH _ _ _ _ _ _ _ (Act.put _ (some 143) _) _
              simp only [Act.put, List.setIfInBounds_toArray, List.set_cons_zero, List.set_cons_succ]
              refine wpAnyH_take (i := 3) (oi := _) (v := .int .i64 table) rfl (by kernel_rfl) (by kernel_rfl) (by kernel_rfl) (fun _ _ _ h => h) (Or.inl ⟨by rfl, fun V hV => by (obtain ⟨q0, q1⟩ := hV; go_simp)⟩) hHeld ?_
              change wpAnyH _ _ _ _ _ _ _ (Act.put _ (some 144) _) _
              simp only [Act.put, List.setIfInBounds_toArray, List.set_cons_zero, List.set_cons_succ]
              refine wpAnyH_take (i := 4) (oi := _) (v := .pointer (some ⟨sb, 0, none⟩)) rfl (by kernel_rfl) (by kernel_rfl) (by kernel_rfl) (fun _ _ _ h => h) (Or.inl ⟨by rfl, fun V hV => by go_simp⟩) hHeld ?_
              change wpAnyH _ _ _ _ _ _ _ (Act.put _ (some 145) _) _
              simp only [Act.put, List.setIfInBounds_toArray, List.set_cons_zero, List.set_cons_succ]
              refine wpAnyH_ready (rs := [5]) (by kernel_rfl) (by simp) ?_
              refine AllReadyH.cons (o := _) rfl (fun K hK => ?_) AllReadyH.nil
              go_simp
              rw [← hw28]
              refine hK.out _ _ zz (fun hHeld => ?_)
              clear hK K
              refine wpAnyH_take (i := 6) (oi := _) (v := .pointer (some ⟨sb, 1, none⟩)) rfl (by kernel_rfl) (by kernel_rfl) (by kernel_rfl) (fun _ _ _ h => h) (Or.inl ⟨by rfl, fun V hV => by go_simp⟩) hHeld ?_
              change wpAnyH _ _ _ _ _ _ _ (Act.put _ (some 146) _) _
              simp only [Act.put, List.setIfInBounds_toArray, List.set_cons_zero, List.set_cons_succ]
              refine wpAnyH_ready (rs := [7]) (by kernel_rfl) (by simp) ?_
              refine AllReadyH.cons (o := _) rfl (fun K hK => ?_) AllReadyH.nil
              clear hw28
              go_simp
              rw [← hwE]
              refine hK.out _ _ ⟨by rw [hwE]; exact set_far hxs zz.1, by rw [hwE]; exact set_far hxs zz.2⟩ (fun hHeld => ?_)
              clear hK K
              refine wpAnyH_done (by kernel_rfl) ?_ _
              clear hwE yy zz s0 s1 f0 f1 s1' f1' hxs kd
              go_wp2_with fail
              rw [← hfb, ← hwF]
              clear hfb hwF v0 v1' v2 E0 E1 E2 E3
              have cr := run_any PF.out.s xm xw xu xn xc xo VOF.out WFX.out kind table WTB.out ky txt WKY.out i PF.out.few (by omega)
              obtain ⟨E, hE⟩ : ∃ E, runE st ⟨xm, xo, xw⟩ kind table ky txt TT = E := ⟨_, rfl⟩
              obtain ⟨R, hR⟩ : ∃ R, runR st ⟨xm, xo, xw⟩ kind table ky txt TT = R := ⟨_, rfl⟩
              have hRl := runR_le PF.out.rel PF.out.fewl st ⟨xm, xo, xw⟩ kind table ky txt
              rw [hE, hR] at cr
              rw [hR] at hRl
              refine cr.mono ?_
              rintro e w7 ⟨v7, rfl, ho7, O7, s7, f7⟩
              obtain ⟨a7, c7, hv7⟩ := ownsRow_shape ho7
              subst hv7
              have g7 := And.intro (PF.out.s.heap f7.1 GF.out.1 (by decide)) (And.intro (PF.out.s.heap f7.1 GF.out.2.1 (by decide)) (PF.out.s.heap f7.1 GF.out.2.2 (by decide)))
              have cz := rrun_any (PF.out.z.co PF.out.s f7.1) PF.out.rel PF.out.fewl (by omega) xm xw xu xn xc xo (PF.out.s.vo f7.1 VOF.out) kind table ky txt
              rw [hE, hR] at cz
              have h0 : w7.cell? ⟨yb, 0, none⟩ = some (.int .i64 xm) := by rw [cell_of_row _ _ 0 _ _ _ g7.1]; rfl
              have h1' : w7.cell? ⟨yb, 1, none⟩ = some (.slice xu xn xc) := by rw [cell_of_row _ _ 1 _ _ _ g7.1]; rfl
              have h2 : w7.cell? ⟨yb, 2, none⟩ = some (.int .i64 xw) := by rw [cell_of_row _ _ 2 _ _ _ g7.1]; rfl
              have t0 : w7.cell? ⟨sb, 0, none⟩ = some (.int .u8 kind) := by rw [cell_of_row _ _ 0 _ _ _ g7.2.1]; rfl
              have t1 : w7.cell? ⟨sb, 1, none⟩ = some (.int .i64 table) := by rw [cell_of_row _ _ 1 _ _ _ g7.2.1]; rfl
              have t2 : w7.cell? ⟨sb, 2, none⟩ = some (.int .i64 ky) := by rw [cell_of_row _ _ 2 _ _ _ g7.2.1]; rfl
              have t3 : w7.cell? ⟨sb, 3, none⟩ = some (.string txt) := by rw [cell_of_row _ _ 3 _ _ _ g7.2.1]; rfl
              have S7 := Lib.hid s7; have F7 := Lib.hid f7; have G7 := Lib.hid g7; have HO7 := Lib.hid ho7; have RL := Lib.hid hRl
              obtain ⟨nr, hnr⟩ : ∃ nr, R.length = nr := ⟨_, rfl⟩
              have NR := Lib.hid hnr
              rw [hnr]
              clear cr hE hR hRl s7 f7 g7 ho7 hnr
              go_wp2_with fail
              refine cz.mono ?_
              rintro e w8 ⟨T8, ⟨v8, rfl, ho8, z8, f8⟩, hrl, hfl⟩
              obtain ⟨a8, c8, hv8⟩ := ownsRow_shape ho8
              subst hv8
              rw [NR.out]
              have P8 := Lib.hid (PF.out.ran S7.out F7.out z8 f8 hrl hfl)
              have R7 := Lib.hid (f8.row HO7.out (by decide))
              have R8 := Lib.hid ho8
              have G8 := Lib.hid (And.intro (f8.heap G7.out.2.1 (by decide)) (f8.heap G7.out.2.2 (by decide)))
              have SS : Hid (∀ V, Kept w8 V [] → (((V.cell? ⟨fb, 0, none⟩ = some (.int .u8 kind) ∧ V.cell? ⟨fb, 1, none⟩ = some (.int .i64 table)) ∧ V.cell? ⟨fb, 2, none⟩ = some (.int .i64 ky)) ∧ V.cell? ⟨fb, 3, none⟩ = some (.string txt)) ∧ (((V.cell? ⟨sb, 0, none⟩ = some (.int .u8 kind) ∧ V.cell? ⟨sb, 1, none⟩ = some (.int .i64 table)) ∧ V.cell? ⟨sb, 2, none⟩ = some (.int .i64 ky)) ∧ V.cell? ⟨sb, 3, none⟩ = some (.string txt))) := Lib.hid (fun V hV => by
                have q1 := hV.heap (by simp) G8.out.1
                have q2 := hV.heap (by simp) G8.out.2
                exact ⟨⟨⟨⟨by rw [cell_of_row _ _ 0 _ _ _ q2]; rfl, by rw [cell_of_row _ _ 1 _ _ _ q2]; rfl⟩, by rw [cell_of_row _ _ 2 _ _ _ q2]; rfl⟩, by rw [cell_of_row _ _ 3 _ _ _ q2]; rfl⟩, ⟨⟨by rw [cell_of_row _ _ 0 _ _ _ q1]; rfl, by rw [cell_of_row _ _ 1 _ _ _ q1]; rfl⟩, by rw [cell_of_row _ _ 2 _ _ _ q1]; rfl⟩, by rw [cell_of_row _ _ 3 _ _ _ q1]; rfl⟩)
              have CRW : Hid (∀ V, Kept w8 V [] → Calls Try.prog 23 #[.slice a7 nr c7, .slice a8 nr c8] V fun e w' => e = .returned (.bool true) ∧ Kept w8 w' []) := Lib.hid (fun V hV => by
                have r7 := ownsRow_fr R7.out (Fr.ofKept hV 0 []) (by simp)
                have r8 := ownsRow_fr R8.out (Fr.ofKept hV 0 []) (by simp)
                have := rrows_same r7 r8
                rw [NR.out] at this
                exact this.mono (fun _ _ h => ⟨h.1, hV.trans h.2 (by simp)⟩))
              have COP : Hid (∀ V, Kept w8 V [] → Calls Try.prog 25 #[.agg #[.int .u8 kind, .int .i64 table, .int .i64 ky, .string txt], .slice a7 nr c7] V fun e w' => ∃ v', e = .returned v' ∧ w'.ownsRow 0 80 3 v' (opsL kind ky txt R).length (ocl (opsL kind ky txt R)) ∧ Kept w8 w' []) := Lib.hid (fun V hV => by
                have r7 := ownsRow_fr R7.out (Fr.ofKept hV 0 []) (by simp)
                rw [← NR.out]
                refine (ops_any kind table ky txt a7 R.length c7 R r7 (by have := RL.out; omega)).mono ?_
                rintro e w' ⟨v', rfl, o, k⟩
                exact ⟨v', rfl, ownsRow_low o (Nat.zero_le _), hV.trans k (by simp)⟩)
              have CRO : Hid (∀ V, Kept w8 V [] → Calls Try.prog 26 #[.agg #[.int .u8 kind, .int .i64 table, .int .i64 ky, .string txt], .slice a8 nr c8] V fun e w' => ∃ v', e = .returned v' ∧ w'.ownsRow 0 108 3 v' (opsL kind ky txt R).length (ocl (opsL kind ky txt R)) ∧ Kept V w' [] ∧ Kept w8 w' []) := Lib.hid (fun V hV => by
                have r8 := ownsRow_fr R8.out (Fr.ofKept hV 0 []) (by simp)
                rw [← NR.out]
                refine (rops_any kind table ky txt (.slice a8 R.length c8) R r8 (by have := RL.out; omega)).mono ?_
                rintro e w' ⟨v', rfl, o, k⟩
                exact ⟨v', rfl, ownsRow_low o (Nat.zero_le _), k, hV.trans k (by simp)⟩)
              clear cz z8 f8 hrl hfl ho8 h0 h1' h2 t0 t1 t2 t3
              have k8 : Kept w8 w8.drew [] := (Kept.refl w8 []).drew
              have yy := SS.out _ k8
              go_wp2_with fail
              refine wp_region_held_drew (S := (fun V => (((V.cell? ⟨fb, 0, none⟩ = some (.int .u8 kind) ∧ V.cell? ⟨fb, 1, none⟩ = some (.int .i64 table)) ∧ V.cell? ⟨fb, 2, none⟩ = some (.int .i64 ky)) ∧ V.cell? ⟨fb, 3, none⟩ = some (.string txt)) ∧ (((V.cell? ⟨sb, 0, none⟩ = some (.int .u8 kind) ∧ V.cell? ⟨sb, 1, none⟩ = some (.int .i64 table)) ∧ V.cell? ⟨sb, 2, none⟩ = some (.int .i64 ky)) ∧ V.cell? ⟨sb, 3, none⟩ = some (.string txt)))) (by kernel_rfl) yy (fun hHeld => ?_)
              refine wpAnyH_take (i := 0) (oi := _) (v := .int .i64 E) rfl (by kernel_rfl) (by kernel_rfl) (by kernel_rfl) (fun _ _ _ h => h) (Or.inl ⟨by rfl, fun V hV => by go_simp⟩) hHeld ?_
              change wpAnyH _ _ _ _ _ _ _ (Act.put _ (some 168) _) _
              simp only [Act.put, List.setIfInBounds_toArray, List.set_cons_zero, List.set_cons_succ]
              refine wpAnyH_take (i := 1) (oi := _) (v := .int .i64 E) rfl (by kernel_rfl) (by kernel_rfl) (by kernel_rfl) (fun _ _ _ h => h) (Or.inl ⟨by rfl, fun V hV => by go_simp⟩) hHeld ?_
              change wpAnyH _ _ _ _ _ _ _ (Act.put _ (some 169) _) _
              simp only [Act.put, List.setIfInBounds_toArray, List.set_cons_zero, List.set_cons_succ]
              refine wpAnyH_take (i := 2) (oi := _) (v := .bool false) rfl (by kernel_rfl) (by kernel_rfl) (by kernel_rfl) (fun _ _ _ h => h) (Or.inl ⟨by rfl, fun V hV => by go_simp⟩) hHeld ?_
              change wpAnyH _ _ _ _ _ _ _ (Act.put _ (some 170) _) _
              simp only [Act.put, List.setIfInBounds_toArray, List.set_cons_zero, List.set_cons_succ]
              refine wpAnyH_take (i := 3) (oi := _) (v := .bool false) rfl (by kernel_rfl) (by kernel_rfl) (by kernel_rfl) (fun _ _ _ h => h) (Or.inl ⟨by rfl, fun V hV => by go_simp⟩) hHeld ?_
              change wpAnyH _ _ _ _ _ _ _ (Act.put _ (some 171) _) _
              simp only [Act.put, List.setIfInBounds_toArray, List.set_cons_zero, List.set_cons_succ]
              refine wpAnyH_take (i := 4) (oi := _) (v := .slice a7 nr c7) rfl (by kernel_rfl) (by kernel_rfl) (by kernel_rfl) (fun _ _ _ h => h) (Or.inl ⟨by rfl, fun V hV => by go_simp⟩) hHeld ?_
              change wpAnyH _ _ _ _ _ _ _ (Act.put _ (some 172) _) _
              simp only [Act.put, List.setIfInBounds_toArray, List.set_cons_zero, List.set_cons_succ]
              refine wpAnyH_take (i := 5) (oi := _) (v := .slice a8 nr c8) rfl (by kernel_rfl) (by kernel_rfl) (by kernel_rfl) (fun _ _ _ h => h) (Or.inl ⟨by rfl, fun V hV => by go_simp⟩) hHeld ?_
              change wpAnyH _ _ _ _ _ _ _ (Act.put _ (some 173) _) _
              simp only [Act.put, List.setIfInBounds_toArray, List.set_cons_zero, List.set_cons_succ]
              refine wpAnyH_ready (rs := [6]) (by kernel_rfl) (by simp) ?_
              refine AllReadyH.cons (o := _) rfl (fun K hK => ?_) AllReadyH.nil
              go_simp
              go_at_call 23
              refine (CRW.out _ ?_).mono ?_
              exact k8
              rintro e w9 ⟨rfl, k8⟩
              go_wp2_with fail
              refine hK.out _ _ (SS.out _ k8) (fun hHeld => ?_)
              clear hK K
              refine wpAnyH_take (i := 7) (oi := _) (v := .bool false) rfl (by kernel_rfl) (by kernel_rfl) (by kernel_rfl) (fun _ _ _ h => h) (Or.inl ⟨by rfl, fun V hV => by go_simp⟩) hHeld ?_
              change wpAnyH _ _ _ _ _ _ _ (Act.put _ (some 175) _) _
              simp only [Act.put, List.setIfInBounds_toArray, List.set_cons_zero, List.set_cons_succ]
              refine wpAnyH_take (i := 8) (oi := _) (v := .bool false) rfl (by kernel_rfl) (by kernel_rfl) (by kernel_rfl) (fun _ _ _ h => h) (Or.inl ⟨by rfl, fun V hV => by go_simp⟩) hHeld ?_
              change wpAnyH _ _ _ _ _ _ _ (Act.put _ (some 176) _) _
              simp only [Act.put, List.setIfInBounds_toArray, List.set_cons_zero, List.set_cons_succ]
              refine wpAnyH_take (i := 9) (oi := _) (v := .bool false) rfl (by kernel_rfl) (by kernel_rfl) (by kernel_rfl) (fun _ _ _ h => h) (Or.inl ⟨by rfl, fun V hV => by go_simp⟩) hHeld ?_
              change wpAnyH _ _ _ _ _ _ _ (Act.put _ (some 177) _) _
              simp only [Act.put, List.setIfInBounds_toArray, List.set_cons_zero, List.set_cons_succ]
              refine wpAnyH_take (i := 10) (oi := _) (v := .agg #[.int .u8 kind, .int .i64 table, .int .i64 ky, .string txt]) rfl (by kernel_rfl) (by kernel_rfl) (by kernel_rfl) (fun _ _ _ h => h) (Or.inl ⟨by rfl, fun V hV => by (obtain ⟨⟨⟨⟨q0, q1⟩, q2⟩, q3⟩, ⟨⟨r0, r1⟩, r2⟩, r3⟩ := hV; go_simp)⟩) hHeld ?_
              change wpAnyH _ _ _ _ _ _ _ (Act.put _ (some 178) _) _
              simp only [Act.put, List.setIfInBounds_toArray, List.set_cons_zero, List.set_cons_succ]
              refine wpAnyH_take (i := 11) (oi := _) (v := .slice a7 nr c7) rfl (by kernel_rfl) (by kernel_rfl) (by kernel_rfl) (fun _ _ _ h => h) (Or.inl ⟨by rfl, fun V hV => by go_simp⟩) hHeld ?_
              change wpAnyH _ _ _ _ _ _ _ (Act.put _ (some 179) _) _
              simp only [Act.put, List.setIfInBounds_toArray, List.set_cons_zero, List.set_cons_succ]
              refine wpAnyH_take (i := 13) (oi := _) (v := .agg #[.int .u8 kind, .int .i64 table, .int .i64 ky, .string txt]) rfl (by kernel_rfl) (by kernel_rfl) (by kernel_rfl) (fun _ _ _ h => h) (Or.inl ⟨by rfl, fun V hV => by (obtain ⟨⟨⟨⟨q0, q1⟩, q2⟩, q3⟩, ⟨⟨r0, r1⟩, r2⟩, r3⟩ := hV; go_simp)⟩) hHeld ?_
              change wpAnyH _ _ _ _ _ _ _ (Act.put _ (some 181) _) _
              simp only [Act.put, List.setIfInBounds_toArray, List.set_cons_zero, List.set_cons_succ]
              refine wpAnyH_take (i := 14) (oi := _) (v := .slice a8 nr c8) rfl (by kernel_rfl) (by kernel_rfl) (by kernel_rfl) (fun _ _ _ h => h) (Or.inl ⟨by rfl, fun V hV => by go_simp⟩) hHeld ?_
              change wpAnyH _ _ _ _ _ _ _ (Act.put _ (some 182) _) _
              simp only [Act.put, List.setIfInBounds_toArray, List.set_cons_zero, List.set_cons_succ]
              refine wpAnyH_ready (rs := [12]) (by kernel_rfl) (by simp) ?_
              refine AllReadyH.cons (o := _) rfl (fun K hK => ?_) AllReadyH.nil
              go_simp
              go_at_call 25
              refine (COP.out _ ?_).mono ?_
              exact k8
              rintro e w10 ⟨va10, rfl, oa, k8⟩
              go_wp2_with fail
              refine hK.out _ _ (SS.out _ k8) (fun hHeld => ?_)
              clear hK K
              refine wpAnyH_ready (rs := [15]) (by kernel_rfl) (by simp) ?_
              refine AllReadyH.cons (o := _) rfl (fun K hK => ?_) AllReadyH.nil
              go_simp
              go_at_call 26
              refine (CRO.out _ ?_).mono ?_
              exact k8
              rintro e w11 ⟨va11, rfl, ob, kv, k8⟩
              have oa := ownsRow_fr oa (Fr.ofKept kv 0 []) (by simp)
              go_wp2_with fail
              refine hK.out _ _ (SS.out _ k8) (fun hHeld => ?_)
              clear hK K
              refine wpAnyH_ready (rs := [16]) (by kernel_rfl) (by simp) ?_
              refine AllReadyH.cons (o := _) rfl (fun K hK => ?_) AllReadyH.nil
              go_simp
              go_at_call 24
              refine (ops_same oa ob).mono ?_
              skip
              rintro e w12 ⟨rfl, kw⟩
              have k8 := k8.trans kw (by simp)
              go_wp2_with fail
              refine hK.out _ _ (SS.out _ k8) (fun hHeld => ?_)
              clear hK K
              refine wpAnyH_take (i := 17) (oi := _) (v := .bool false) rfl (by kernel_rfl) (by kernel_rfl) (by kernel_rfl) (fun _ _ _ h => h) (Or.inl ⟨by rfl, fun V hV => by go_simp⟩) hHeld ?_
              change wpAnyH _ _ _ _ _ _ _ (Act.put _ (some 185) _) _
              simp only [Act.put, List.setIfInBounds_toArray, List.set_cons_zero, List.set_cons_succ]
              refine wpAnyH_take (i := 18) (oi := _) (v := .bool false) rfl (by kernel_rfl) (by kernel_rfl) (by kernel_rfl) (fun _ _ _ h => h) (Or.inl ⟨by rfl, fun V hV => by go_simp⟩) hHeld ?_
              change wpAnyH _ _ _ _ _ _ _ (Act.put _ (some 186) _) _
              simp only [Act.put, List.setIfInBounds_toArray, List.set_cons_zero, List.set_cons_succ]
              refine wpAnyH_done (by kernel_rfl) ?_ _
              have P9 := Lib.hid (P8.out.keep k8)
              clear k8 yy
              go_wp2
              go_roundw
              case rel => exact ⟨i + 1, O7, st, T8, _, vl, by go_num, by omega, P9.out⟩
              case measure => simp [intOf]; omega
            · have WTB : Hid ((Lit.int .i64 tb).wf = true) := Lib.hid (by
                have h1 := Int.tmod_lt_of_pos table (by decide : (0 : Int) < 4)
                have h2 := Int.lt_tmod_of_pos table (by decide : (0 : Int) < 4)
                exact wf_i64 (by omega))
              obtain ⟨wF, hwF⟩ : ∃ wF, wF = wD.alloc (.cells #[.int .u8 kk, .int .i64 tb, .int .i64 ky, .string txt] 58) := ⟨_, rfl⟩
              have szD : wD.heap.size = sb + 1 := by rw [hwD, hsb, ← szC]; simp
              obtain ⟨fb, hfb⟩ : ∃ fb, fb = sb + 1 := ⟨_, rfl⟩
              have kF : Kept wD wF [] := by rw [hwF]; exact (Kept.refl wD []).alloc _
              have gF : wF.heap[fb]? = some (.cells #[.int .u8 kk, .int .i64 tb, .int .i64 ky, .string txt] 58 (0, 0)) := by have := heap_alloc_new wD (.cells #[.int .u8 kk, .int .i64 tb, .int .i64 ky, .string txt] 58); rw [szD] at this; rw [hwF, hfb]; exact this
              have PF := Lib.hid ((PC.out.keep kD).keep kF)
              have VOF := Lib.hid ((VOC.out.keep kD).keep kF)
              have GF := Lib.hid (And.intro (kF.heap (by simp) (kD.heap (by simp) GC.out.2.1)) (And.intro (kF.heap (by simp) gD) gF))
              clear kF gF kD gD
              have x250 : ¬ (250 : Int) ≤ (d : Int) := by omega
              go_wp2_with fail
              rw [← hwA, ← hxb, ← hyb, ← hvb, ← hsb, ← hfb, ← hwB, ← hwC, ← hwD, ← hwF]
              clear hwA hxb hyb hvb hsb hfb hwB hwC hwD hwF szA szB szC szD
              have cr := run_any PF.out.s xm xw xu xn xc xo VOF.out WFX.out kk tb WTB.out ky txt WKY.out i PF.out.few (by omega)
              obtain ⟨E, hE⟩ : ∃ E, runE st ⟨xm, xo, xw⟩ kk tb ky txt TT = E := ⟨_, rfl⟩
              obtain ⟨R, hR⟩ : ∃ R, runR st ⟨xm, xo, xw⟩ kk tb ky txt TT = R := ⟨_, rfl⟩
              have hRl := runR_le PF.out.rel PF.out.fewl st ⟨xm, xo, xw⟩ kk tb ky txt
              rw [hE, hR] at cr
              rw [hR] at hRl
              refine cr.mono ?_
              rintro e w7 ⟨v7, rfl, ho7, O7, s7, f7⟩
              obtain ⟨a7, c7, hv7⟩ := ownsRow_shape ho7
              subst hv7
              have g7 := And.intro (PF.out.s.heap f7.1 GF.out.1 (by decide)) (And.intro (PF.out.s.heap f7.1 GF.out.2.1 (by decide)) (PF.out.s.heap f7.1 GF.out.2.2 (by decide)))
              have cz := rrun_any (PF.out.z.co PF.out.s f7.1) PF.out.rel PF.out.fewl (by omega) xm xw xu xn xc xo (PF.out.s.vo f7.1 VOF.out) kk tb ky txt
              rw [hE, hR] at cz
              have h0 : w7.cell? ⟨yb, 0, none⟩ = some (.int .i64 xm) := by rw [cell_of_row _ _ 0 _ _ _ g7.1]; rfl
              have h1' : w7.cell? ⟨yb, 1, none⟩ = some (.slice xu xn xc) := by rw [cell_of_row _ _ 1 _ _ _ g7.1]; rfl
              have h2 : w7.cell? ⟨yb, 2, none⟩ = some (.int .i64 xw) := by rw [cell_of_row _ _ 2 _ _ _ g7.1]; rfl
              have t0 : w7.cell? ⟨sb, 0, none⟩ = some (.int .u8 kk) := by rw [cell_of_row _ _ 0 _ _ _ g7.2.1]; rfl
              have t1 : w7.cell? ⟨sb, 1, none⟩ = some (.int .i64 tb) := by rw [cell_of_row _ _ 1 _ _ _ g7.2.1]; rfl
              have t2 : w7.cell? ⟨sb, 2, none⟩ = some (.int .i64 ky) := by rw [cell_of_row _ _ 2 _ _ _ g7.2.1]; rfl
              have t3 : w7.cell? ⟨sb, 3, none⟩ = some (.string txt) := by rw [cell_of_row _ _ 3 _ _ _ g7.2.1]; rfl
              have S7 := Lib.hid s7; have F7 := Lib.hid f7; have G7 := Lib.hid g7; have HO7 := Lib.hid ho7; have RL := Lib.hid hRl
              obtain ⟨nr, hnr⟩ : ∃ nr, R.length = nr := ⟨_, rfl⟩
              have NR := Lib.hid hnr
              rw [hnr]
              clear cr hE hR hRl s7 f7 g7 ho7 hnr
              go_wp2_with fail
              refine cz.mono ?_
              rintro e w8 ⟨T8, ⟨v8, rfl, ho8, z8, f8⟩, hrl, hfl⟩
              obtain ⟨a8, c8, hv8⟩ := ownsRow_shape ho8
              subst hv8
              rw [NR.out]
              have P8 := Lib.hid (PF.out.ran S7.out F7.out z8 f8 hrl hfl)
              have R7 := Lib.hid (f8.row HO7.out (by decide))
              have R8 := Lib.hid ho8
              have G8 := Lib.hid (And.intro (f8.heap G7.out.2.1 (by decide)) (f8.heap G7.out.2.2 (by decide)))
              have SS : Hid (∀ V, Kept w8 V [] → (((V.cell? ⟨fb, 0, none⟩ = some (.int .u8 kk) ∧ V.cell? ⟨fb, 1, none⟩ = some (.int .i64 tb)) ∧ V.cell? ⟨fb, 2, none⟩ = some (.int .i64 ky)) ∧ V.cell? ⟨fb, 3, none⟩ = some (.string txt)) ∧ (((V.cell? ⟨sb, 0, none⟩ = some (.int .u8 kk) ∧ V.cell? ⟨sb, 1, none⟩ = some (.int .i64 tb)) ∧ V.cell? ⟨sb, 2, none⟩ = some (.int .i64 ky)) ∧ V.cell? ⟨sb, 3, none⟩ = some (.string txt))) := Lib.hid (fun V hV => by
                have q1 := hV.heap (by simp) G8.out.1
                have q2 := hV.heap (by simp) G8.out.2
                exact ⟨⟨⟨⟨by rw [cell_of_row _ _ 0 _ _ _ q2]; rfl, by rw [cell_of_row _ _ 1 _ _ _ q2]; rfl⟩, by rw [cell_of_row _ _ 2 _ _ _ q2]; rfl⟩, by rw [cell_of_row _ _ 3 _ _ _ q2]; rfl⟩, ⟨⟨by rw [cell_of_row _ _ 0 _ _ _ q1]; rfl, by rw [cell_of_row _ _ 1 _ _ _ q1]; rfl⟩, by rw [cell_of_row _ _ 2 _ _ _ q1]; rfl⟩, by rw [cell_of_row _ _ 3 _ _ _ q1]; rfl⟩)
              have CRW : Hid (∀ V, Kept w8 V [] → Calls Try.prog 23 #[.slice a7 nr c7, .slice a8 nr c8] V fun e w' => e = .returned (.bool true) ∧ Kept w8 w' []) := Lib.hid (fun V hV => by
                have r7 := ownsRow_fr R7.out (Fr.ofKept hV 0 []) (by simp)
                have r8 := ownsRow_fr R8.out (Fr.ofKept hV 0 []) (by simp)
                have := rrows_same r7 r8
                rw [NR.out] at this
                exact this.mono (fun _ _ h => ⟨h.1, hV.trans h.2 (by simp)⟩))
              have COP : Hid (∀ V, Kept w8 V [] → Calls Try.prog 25 #[.agg #[.int .u8 kk, .int .i64 tb, .int .i64 ky, .string txt], .slice a7 nr c7] V fun e w' => ∃ v', e = .returned v' ∧ w'.ownsRow 0 80 3 v' (opsL kk ky txt R).length (ocl (opsL kk ky txt R)) ∧ Kept w8 w' []) := Lib.hid (fun V hV => by
                have r7 := ownsRow_fr R7.out (Fr.ofKept hV 0 []) (by simp)
                rw [← NR.out]
                refine (ops_any kk tb ky txt a7 R.length c7 R r7 (by have := RL.out; omega)).mono ?_
                rintro e w' ⟨v', rfl, o, k⟩
                exact ⟨v', rfl, ownsRow_low o (Nat.zero_le _), hV.trans k (by simp)⟩)
              have CRO : Hid (∀ V, Kept w8 V [] → Calls Try.prog 26 #[.agg #[.int .u8 kk, .int .i64 tb, .int .i64 ky, .string txt], .slice a8 nr c8] V fun e w' => ∃ v', e = .returned v' ∧ w'.ownsRow 0 108 3 v' (opsL kk ky txt R).length (ocl (opsL kk ky txt R)) ∧ Kept V w' [] ∧ Kept w8 w' []) := Lib.hid (fun V hV => by
                have r8 := ownsRow_fr R8.out (Fr.ofKept hV 0 []) (by simp)
                rw [← NR.out]
                refine (rops_any kk tb ky txt (.slice a8 R.length c8) R r8 (by have := RL.out; omega)).mono ?_
                rintro e w' ⟨v', rfl, o, k⟩
                exact ⟨v', rfl, ownsRow_low o (Nat.zero_le _), k, hV.trans k (by simp)⟩)
              clear cz z8 f8 hrl hfl ho8 h0 h1' h2 t0 t1 t2 t3
              have k8 : Kept w8 w8.drew [] := (Kept.refl w8 []).drew
              have yy := SS.out _ k8
              go_wp2_with fail
              refine wp_region_held_drew (S := (fun V => (((V.cell? ⟨fb, 0, none⟩ = some (.int .u8 kk) ∧ V.cell? ⟨fb, 1, none⟩ = some (.int .i64 tb)) ∧ V.cell? ⟨fb, 2, none⟩ = some (.int .i64 ky)) ∧ V.cell? ⟨fb, 3, none⟩ = some (.string txt)) ∧ (((V.cell? ⟨sb, 0, none⟩ = some (.int .u8 kk) ∧ V.cell? ⟨sb, 1, none⟩ = some (.int .i64 tb)) ∧ V.cell? ⟨sb, 2, none⟩ = some (.int .i64 ky)) ∧ V.cell? ⟨sb, 3, none⟩ = some (.string txt)))) (by kernel_rfl) yy (fun hHeld => ?_)
              refine wpAnyH_take (i := 0) (oi := _) (v := .int .i64 E) rfl (by kernel_rfl) (by kernel_rfl) (by kernel_rfl) (fun _ _ _ h => h) (Or.inl ⟨by rfl, fun V hV => by go_simp⟩) hHeld ?_
              change wpAnyH _ _ _ _ _ _ _ (Act.put _ (some 168) _) _
              simp only [Act.put, List.setIfInBounds_toArray, List.set_cons_zero, List.set_cons_succ]
              refine wpAnyH_take (i := 1) (oi := _) (v := .int .i64 E) rfl (by kernel_rfl) (by kernel_rfl) (by kernel_rfl) (fun _ _ _ h => h) (Or.inl ⟨by rfl, fun V hV => by go_simp⟩) hHeld ?_
              change wpAnyH _ _ _ _ _ _ _ (Act.put _ (some 169) _) _
              simp only [Act.put, List.setIfInBounds_toArray, List.set_cons_zero, List.set_cons_succ]
              refine wpAnyH_take (i := 2) (oi := _) (v := .bool false) rfl (by kernel_rfl) (by kernel_rfl) (by kernel_rfl) (fun _ _ _ h => h) (Or.inl ⟨by rfl, fun V hV => by go_simp⟩) hHeld ?_
              change wpAnyH _ _ _ _ _ _ _ (Act.put _ (some 170) _) _
              simp only [Act.put, List.setIfInBounds_toArray, List.set_cons_zero, List.set_cons_succ]
              refine wpAnyH_take (i := 3) (oi := _) (v := .bool false) rfl (by kernel_rfl) (by kernel_rfl) (by kernel_rfl) (fun _ _ _ h => h) (Or.inl ⟨by rfl, fun V hV => by go_simp⟩) hHeld ?_
              change wpAnyH _ _ _ _ _ _ _ (Act.put _ (some 171) _) _
              simp only [Act.put, List.setIfInBounds_toArray, List.set_cons_zero, List.set_cons_succ]
              refine wpAnyH_take (i := 4) (oi := _) (v := .slice a7 nr c7) rfl (by kernel_rfl) (by kernel_rfl) (by kernel_rfl) (fun _ _ _ h => h) (Or.inl ⟨by rfl, fun V hV => by go_simp⟩) hHeld ?_
              change wpAnyH _ _ _ _ _ _ _ (Act.put _ (some 172) _) _
              simp only [Act.put, List.setIfInBounds_toArray, List.set_cons_zero, List.set_cons_succ]
              refine wpAnyH_take (i := 5) (oi := _) (v := .slice a8 nr c8) rfl (by kernel_rfl) (by kernel_rfl) (by kernel_rfl) (fun _ _ _ h => h) (Or.inl ⟨by rfl, fun V hV => by go_simp⟩) hHeld ?_
              change wpAnyH _ _ _ _ _ _ _ (Act.put _ (some 173) _) _
              simp only [Act.put, List.setIfInBounds_toArray, List.set_cons_zero, List.set_cons_succ]
              refine wpAnyH_ready (rs := [6]) (by kernel_rfl) (by simp) ?_
              refine AllReadyH.cons (o := _) rfl (fun K hK => ?_) AllReadyH.nil
              go_simp
              go_at_call 23
              refine (CRW.out _ ?_).mono ?_
              exact k8
              rintro e w9 ⟨rfl, k8⟩
              go_wp2_with fail
              refine hK.out _ _ (SS.out _ k8) (fun hHeld => ?_)
              clear hK K
              refine wpAnyH_take (i := 7) (oi := _) (v := .bool false) rfl (by kernel_rfl) (by kernel_rfl) (by kernel_rfl) (fun _ _ _ h => h) (Or.inl ⟨by rfl, fun V hV => by go_simp⟩) hHeld ?_
              change wpAnyH _ _ _ _ _ _ _ (Act.put _ (some 175) _) _
              simp only [Act.put, List.setIfInBounds_toArray, List.set_cons_zero, List.set_cons_succ]
              refine wpAnyH_take (i := 8) (oi := _) (v := .bool false) rfl (by kernel_rfl) (by kernel_rfl) (by kernel_rfl) (fun _ _ _ h => h) (Or.inl ⟨by rfl, fun V hV => by go_simp⟩) hHeld ?_
              change wpAnyH _ _ _ _ _ _ _ (Act.put _ (some 176) _) _
              simp only [Act.put, List.setIfInBounds_toArray, List.set_cons_zero, List.set_cons_succ]
              refine wpAnyH_take (i := 9) (oi := _) (v := .bool false) rfl (by kernel_rfl) (by kernel_rfl) (by kernel_rfl) (fun _ _ _ h => h) (Or.inl ⟨by rfl, fun V hV => by go_simp⟩) hHeld ?_
              change wpAnyH _ _ _ _ _ _ _ (Act.put _ (some 177) _) _
              simp only [Act.put, List.setIfInBounds_toArray, List.set_cons_zero, List.set_cons_succ]
              refine wpAnyH_take (i := 10) (oi := _) (v := .agg #[.int .u8 kk, .int .i64 tb, .int .i64 ky, .string txt]) rfl (by kernel_rfl) (by kernel_rfl) (by kernel_rfl) (fun _ _ _ h => h) (Or.inl ⟨by rfl, fun V hV => by (obtain ⟨⟨⟨⟨q0, q1⟩, q2⟩, q3⟩, ⟨⟨r0, r1⟩, r2⟩, r3⟩ := hV; go_simp)⟩) hHeld ?_
              change wpAnyH _ _ _ _ _ _ _ (Act.put _ (some 178) _) _
              simp only [Act.put, List.setIfInBounds_toArray, List.set_cons_zero, List.set_cons_succ]
              refine wpAnyH_take (i := 11) (oi := _) (v := .slice a7 nr c7) rfl (by kernel_rfl) (by kernel_rfl) (by kernel_rfl) (fun _ _ _ h => h) (Or.inl ⟨by rfl, fun V hV => by go_simp⟩) hHeld ?_
              change wpAnyH _ _ _ _ _ _ _ (Act.put _ (some 179) _) _
              simp only [Act.put, List.setIfInBounds_toArray, List.set_cons_zero, List.set_cons_succ]
              refine wpAnyH_take (i := 13) (oi := _) (v := .agg #[.int .u8 kk, .int .i64 tb, .int .i64 ky, .string txt]) rfl (by kernel_rfl) (by kernel_rfl) (by kernel_rfl) (fun _ _ _ h => h) (Or.inl ⟨by rfl, fun V hV => by (obtain ⟨⟨⟨⟨q0, q1⟩, q2⟩, q3⟩, ⟨⟨r0, r1⟩, r2⟩, r3⟩ := hV; go_simp)⟩) hHeld ?_
              change wpAnyH _ _ _ _ _ _ _ (Act.put _ (some 181) _) _
              simp only [Act.put, List.setIfInBounds_toArray, List.set_cons_zero, List.set_cons_succ]
              refine wpAnyH_take (i := 14) (oi := _) (v := .slice a8 nr c8) rfl (by kernel_rfl) (by kernel_rfl) (by kernel_rfl) (fun _ _ _ h => h) (Or.inl ⟨by rfl, fun V hV => by go_simp⟩) hHeld ?_
              change wpAnyH _ _ _ _ _ _ _ (Act.put _ (some 182) _) _
              simp only [Act.put, List.setIfInBounds_toArray, List.set_cons_zero, List.set_cons_succ]
              refine wpAnyH_ready (rs := [12]) (by kernel_rfl) (by simp) ?_
              refine AllReadyH.cons (o := _) rfl (fun K hK => ?_) AllReadyH.nil
              go_simp
              go_at_call 25
              refine (COP.out _ ?_).mono ?_
              exact k8
              rintro e w10 ⟨va10, rfl, oa, k8⟩
              go_wp2_with fail
              refine hK.out _ _ (SS.out _ k8) (fun hHeld => ?_)
              clear hK K
              refine wpAnyH_ready (rs := [15]) (by kernel_rfl) (by simp) ?_
              refine AllReadyH.cons (o := _) rfl (fun K hK => ?_) AllReadyH.nil
              go_simp
              go_at_call 26
              refine (CRO.out _ ?_).mono ?_
              exact k8
              rintro e w11 ⟨va11, rfl, ob, kv, k8⟩
              have oa := ownsRow_fr oa (Fr.ofKept kv 0 []) (by simp)
              go_wp2_with fail
              refine hK.out _ _ (SS.out _ k8) (fun hHeld => ?_)
              clear hK K
              refine wpAnyH_ready (rs := [16]) (by kernel_rfl) (by simp) ?_
              refine AllReadyH.cons (o := _) rfl (fun K hK => ?_) AllReadyH.nil
              go_simp
              go_at_call 24
              refine (ops_same oa ob).mono ?_
              skip
              rintro e w12 ⟨rfl, kw⟩
              have k8 := k8.trans kw (by simp)
              go_wp2_with fail
              refine hK.out _ _ (SS.out _ k8) (fun hHeld => ?_)
              clear hK K
              refine wpAnyH_take (i := 17) (oi := _) (v := .bool false) rfl (by kernel_rfl) (by kernel_rfl) (by kernel_rfl) (fun _ _ _ h => h) (Or.inl ⟨by rfl, fun V hV => by go_simp⟩) hHeld ?_
              change wpAnyH _ _ _ _ _ _ _ (Act.put _ (some 185) _) _
              simp only [Act.put, List.setIfInBounds_toArray, List.set_cons_zero, List.set_cons_succ]
              refine wpAnyH_take (i := 18) (oi := _) (v := .bool false) rfl (by kernel_rfl) (by kernel_rfl) (by kernel_rfl) (fun _ _ _ h => h) (Or.inl ⟨by rfl, fun V hV => by go_simp⟩) hHeld ?_
              change wpAnyH _ _ _ _ _ _ _ (Act.put _ (some 186) _) _
              simp only [Act.put, List.setIfInBounds_toArray, List.set_cons_zero, List.set_cons_succ]
              refine wpAnyH_done (by kernel_rfl) ?_ _
              have P9 := Lib.hid (P8.out.keep k8)
              clear k8 yy
              go_wp2
              go_roundw
              case rel => exact ⟨i + 1, O7, st, T8, _, vl, by go_num, by omega, P9.out⟩
              case measure => simp [intOf]; omega
    · obtain rfl : i = len0 := by omega
      have x1 : ¬ (i : Int) < (i : Int) := by omega
      have hi80 : i ≤ 900 := by omega
      have cn := now_sto P.out.s
      obtain ⟨mx, hmx⟩ : ∃ mx : Int, (st.length : Int) + 1 = mx := ⟨_, rfl⟩
      obtain ⟨ol, hol⟩ : ∃ ol, (opens st).length = ol := ⟨_, rfl⟩
      rw [hmx, hol] at cn
      have HMX := Lib.hid hmx; have HOL := Lib.hid hol
      clear hmx hol
      go_wp2_with fail
      refine cn.mono ?_
      rintro e w7 ⟨u7, c7, rfl, vo7, k7⟩
      have P7 := Lib.hid (P.out.keep k7)
      have cv := relvac_sto P7.out.s P7.out.rel P7.out.few P7.out.fewl hi80 (by have := P7.out.tl; omega) mx u7 ol c7 (opens st) vo7
      obtain ⟨D, hD⟩ : ∃ D : Int, (vsum st mx (opens st) T : Int) = D := ⟨_, rfl⟩
      rw [hD] at cv
      have HD := Lib.hid hD
      clear cn vo7 k7 hD
      go_wp2_with fail
      refine cv.mono ?_
      rintro e w8 ⟨rfl, f8⟩
      have z8 := P7.out.z.co P7.out.s f8
      have B8 := Lib.hid (P7.out.bel.trans ((P7.out.s.below f8).mono Z2.out))
      have Z8 := Lib.hid z8
      have S8 := Lib.hid (Nat.le_trans P7.out.s.size f8.size)
      have cn := rnow_st z8
      rw [HMX.out, HOL.out] at cn
      clear cv z8 f8
      go_wp2_with fail
      refine cn.mono ?_
      rintro e w9 ⟨u9, c9, rfl, ho9, k9⟩
      have vo9 : Vo w9 (.slice u9 ol c9) (opens st) := by
        have := ownsRow_low ho9 (Nat.zero_le _)
        unfold Vo
        rw [HOL.out]
        exact this
      have cv := rrelvac_any (Z8.out.keep k9) mx u9 ol c9 (opens st) vo9 (fun l hl => by have := P7.out.fewl l hl; omega) (by have := P7.out.tl; omega)
      rw [HD.out] at cv
      have B9 := Lib.hid (B8.out.trans ((k9.below (B := w2.heap.size) S8.out (by simp)).mono Z2.out))
      have S9 := Lib.hid (Nat.le_trans S8.out k9.size)
      clear cn vo9 ho9 k9
      go_wp2_with fail
      refine cv.mono ?_
      rintro e w10 ⟨rfl, f10⟩
      have B10 := Lib.hid (B9.out.trans (f10.below (C := W.heap.size) Z2.out (Nat.le_trans Z2.out S9.out)))
      clear cv f10
      go_wp2
      go_ret
      exact ⟨by first | rfl | simp, B10.out⟩

set_option maxRecDepth 100000 in
theorem lifted (os : Os) (started : os.Started) (H : Type) (enc : TypeId × Value → H) :
    ReturnsInHanded {} Try.checked os 3 .any (Rows.relPlaysSpec.pre6 enc Try.prog Try.f3 Rows.relPlaysRow.domain false) (Rows.relPlaysSpec.post enc Try.prog Try.f3 false true false false) := by
  refine returnsInHanded_of_change (C := Try.checked) own started (by kernel_rfl) Try.func3
    (ChangeSpec.witness6 (enc := enc) (C := Try.checked) false ⟨#[], #[.int .i64 0, .slice none 0 0], []⟩ 8 (by kernel_rfl) (by kernel_rfl) (by kernel_rfl) (by kernel_rfl)) ?_
  intro W base args ds gs before hval0 hW hcnd _
  have hval : ∀ (j : Nat) t v, Try.f3.params[j]? = some t → args[j]? = some v → Value.okWide Try.prog W .any base t v := hval0
  have hW' := hW
  obtain ⟨p, q, hA0, hV, rfl, hfz, hnd⟩ := hW
  have hA : DataW.TrodAll enc Try.prog W 0 (fun _ => true) true Try.f3.params.toList args.toList ds p := hA0
  rw [Try.params3] at hA hval
  obtain ⟨v0, vs0, d0, ds0, p0, q0, hargs, rfl, rfl, h0, r0⟩ := trodAll_cons hA
  obtain ⟨v1, vs1, d1, ds1, p1, q1, rfl, rfl, rfl, h1, r1⟩ := trodAll_cons r0
  obtain ⟨rfl, rfl, rfl⟩ := trodAll_nil r1
  obtain rfl : args = #[v0, v1] := by cases args; simp_all
  obtain ⟨rfl, rfl⟩ := trodVars_none hV
  obtain ⟨a0, rfl, rfl, rfl, w0⟩ := open_int Try.underlying3 (hval 0 3 v0 rfl rfl) h0
  obtain ⟨a1, len1, cap1, rfl⟩ := okWide_slice Try.underlying22 (hval 1 22 v1 rfl rfl)
  have k1 := h1
  have lt1 : ∀ x ∈ p1, x.block < W.heap.size := by obtain ⟨m, hm⟩ := k1; exact DataW.trod_lt m _ _ _ hm
  obtain ⟨z1, w1⟩ : ∃ f, IsActs W W.heap.size a1 len1 f ∧ len1 ≤ maxLen := by
    obtain ⟨fuel, hf⟩ := h1
    exact acts_open (by simpa [Value.cells] using hf)
  clear hA0 hval0
  refine (walk a0 a1 len1 cap1 z1 W w0 w1).mono fun e W' ⟨he, bel⟩ => ?_
  subst he
  exact ⟨_, rfl, _, _, _, [], _, [], hW', trodAll_mk1 (shut_bool Try.underlying4 _), (trodAll_cons_mk (shut_int Try.underlying3 w0) (trodAll_cons_mk (Below.trod laidOut (by kernel_rfl) (of_decide_eq_true (by kernel_rfl)) k1 bel lt1) trodAll_mk0)), rfl, bel.frame _, fun h => by cases h⟩

theorem over : Rows.relPlaysRow.holds Try.pinned (OpenSpec.ofChange Rows.relPlaysSpec) :=
  OpenClaim.holds_of_wide 3 Try.f3 rfl rfl rfl rfl rfl rfl rfl ⟨rfl, rfl, rfl, rfl, rfl⟩ rfl rfl rfl rfl rfl (by kernel_rfl) Try.func3 (by kernel_rfl)
    (of_decide_eq_true (by kernel_rfl)) (by unfold Func.isWrapper; first | (rw [if_pos (by decide +kernel)]; kernel_rfl) | (rw [if_neg (by decide +kernel)]; exact ⟨rfl, rfl⟩))
    (fun os started H enc _ => lifted os started H enc)

theorem proved : Rows.RelPlaysSaid :=
  over
end Go.Proofs.Ytdjhcdgehmpikaa.relPlays

namespace Go.Proofs.Ytdjhcdgehmpikaa
theorem relPlays_holds : Rows.RelPlaysSaid := relPlays.proved
#print axioms relPlays_holds
end Go.Proofs.Ytdjhcdgehmpikaa

