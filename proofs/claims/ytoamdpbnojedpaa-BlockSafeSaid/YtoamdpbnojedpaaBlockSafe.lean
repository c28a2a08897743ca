/-
  Proved: whatever the arguments are, carrierlaw03.BlockSafe answers true and leaves its arguments as they were. No condition.
-/
import Derived.Test.YtoamdpbnojedpaaSteps
namespace Go.Proofs.Ytoamdpbnojedpaa.blockSafe
open Go.ChangeShapes Go.WideShapes Go.ChangeAt Go.RowKit
set_option linter.unusedVariables false

theorem own : ownKnob Try.prog.godebug = none := by kernel_rfl
theorem laidOut : laidOutB Try.prog = true := by kernel_rfl

theorem blk_same (n : Nat) (L : List UInt8) (ws : List (Nat × List UInt8)) (j : Nat) (hL : L.length = 32 * n) (ho : Okw n ws) (h : ∀ y ∈ ws, y.1 ≠ j) : blkOf (laid L ws) j = blkOf L j := by
  apply List.ext_getElem?
  intro x
  rw [blkOf_at, blkOf_at]
  by_cases hx : x < 32
  · rw [if_pos hx, if_pos hx, laid_off n ws L hL ho _ (fun y hy e => h y hy (by omega))]
  · rw [if_neg hx, if_neg hx]

theorem _root_.Go.Proofs.Try.infoS : (Try.prog.info? 29).map (fun i => (i.zero, i.size, i.bytes)) = some (some (.slice none 0 0), 1, 24) := by kernel_rfl
theorem _root_.Go.Proofs.Try.size50 : (Try.prog.info? 50).map (·.size) = some 4 := by kernel_rfl
theorem four_one : ∀ u ∈ [Value.bool false, .bool false, .bool false, .bool false], u.oneCell' = true := by
  intro u hu
  simp at hu
  subst hu
  rfl

set_option maxHeartbeats 4000000 in
set_option maxRecDepth 100000 in
theorem walk (a0 : Option Addr) (len0 cap0 : Nat) (f0 : Nat → ActD) (a1 : Option Addr) (len1 cap1 : Nat) (f1 : Nat → ActD) (a2 : Option Addr) (len2 cap2 : Nat) (lost : List Bool) (torn : Int) (W : World)
    (w0 : IsActs W W.heap.size a0 len0 f0 ∧ len0 ≤ maxLen) (w1 : IsActs W W.heap.size a1 len1 f1 ∧ len1 ≤ maxLen) (w2 : RbB W W.heap.size 4 (.slice a2 len2 cap2) lost) (w3 : (Lit.int .i64 torn).wf = true) :
    Calls Try.prog 4 #[.slice a0 len0 cap0, .slice a1 len1 cap1, .slice a2 len2 cap2, .int .i64 torn] W fun e w' => e = .returned (.bool true) ∧ Below W.heap.size W w' := by
  have Hf0 := Lib.hid w0.1; have Hf1 := Lib.hid w1.1; have Hlo := Lib.hid w2
  have hm0 := w0.2; have hm1 := w1.2
  have hll : len2 = lost.length := by
    obtain ⟨_, _, e, _⟩ := w2
    simp only [Value.slice.injEq] at e
    exact e.2.1
  subst hll
  clear w0 w1 w2 w3
  obtain ⟨i0, hi0, hz0, hz1', hzby⟩ := info_parts Try.infoS
  go_enter Try.func4, Try.ntmps4
  go_wp2_with fail
  refine (kept_any W).mono ?_
  rintro e w1 ⟨rfl, hk⟩
  have K1 := Lib.hid hk; have hz1 := hk.size; clear hk
  go_wp2_with fail
  refine (small_any a0 len0 cap0 f0 w1 W.heap.size (Hf0.out.frame K1.out) hm0).mono ?_
  rintro e w0 ⟨r0, rfl, hr0, rfl⟩
  cases r0 with
  | false =>
    go_wp2_with fail
    refine (kept_any w1).mono ?_
    rintro e wx ⟨rfl, hk⟩
    have KX := Lib.hid (K1.out.trans hk (by simp)); clear hk
    go_wp2
    go_ret
    exact ⟨rfl, KX.out.below (Nat.le_refl _) (by simp)⟩
  | true =>
    have h60 := hr0 rfl
    clear hr0
    go_wp2_with fail
    refine (small_any a1 len1 cap1 f1 w1 W.heap.size (Hf1.out.frame K1.out) hm1).mono ?_
    rintro e w0 ⟨r1, rfl, hr1, rfl⟩
    cases r1 with
    | false =>
      go_wp2_with fail
      refine (kept_any w1).mono ?_
      rintro e wx ⟨rfl, hk⟩
      have KX := Lib.hid (K1.out.trans hk (by simp)); clear hk
      go_wp2
      go_ret
      exact ⟨rfl, KX.out.below (Nat.le_refl _) (by simp)⟩
    | true =>
      have h61 := hr1 rfl
      clear hr1 hm0 hm1
      by_cases hlo60 : (60 : Int) < (lost.length : Int)
      · skip
        go_wp2_with fail
        refine (kept_any w1).mono ?_
        rintro e wx ⟨rfl, hk⟩
        have KX := Lib.hid (K1.out.trans hk (by simp)); clear hk
        go_wp2
        go_ret
        exact ⟨rfl, KX.out.below (Nat.le_refl _) (by simp)⟩
      go_wp2_with fail
      refine (new_any 4 w1).mono ?_
      rintro e w2 ⟨p, gn, gs, rfl, hd, hk⟩
      have D2 := Lib.hid (show Dv w2 w1.heap.size p gn gs (.slice none 0 0) 4 (noughts 4) (noughts 4) [] from hd); have K2 := Lib.hid (K1.out.trans hk (by simp)); have hz2 := hk.size
      clear hd hk
      go_wp2
      go_loopw [10] (fun t wr => ∃ (i : Nat) (v : Value) (now : List UInt8) (ws : List Wt), t = .int .i64 i ∧ i ≤ len0 ∧ ws.length ≤ i ∧ Dv wr w1.heap.size p gn gs v 4 now (noughts 4) ws ∧ now = laid (noughts 4) (pairs ws) ∧ Kept W wr []) (fun t _ => len0 - (intOf t).toNat)
      case atStart => exact ⟨0, _, _, [], rfl, Nat.zero_le _, Nat.le_refl _, D2.out, rfl, K2.out⟩
      case round =>
        obtain ⟨i, v, now, ws, rfl, hi, hwi, hd, hnow, hk⟩ := hrel
        have D := Lib.hid hd; have Hnow := Lib.hid hnow; have K := Lib.hid hk
        have hzb : w1.heap.size ≤ wr.heap.size := Nat.le_trans hd.bp (by have := heap_lt hd.hp; omega)
        clear hd hnow hk
        by_cases hlt : i < len0
        · obtain ⟨b, o, rfl, hx⟩ := Hf0.out (by omega)
          have X := hx i hlt
          have d1 := X.c1
          have d2 := X.c2
          have rp := X.rp
          obtain ⟨I, hI⟩ : ∃ I, I = (f0 i).i := ⟨_, rfl⟩
          obtain ⟨P, hP⟩ : ∃ P, P = (f0 i).p := ⟨_, rfl⟩
          rw [← hI] at d1
          rw [← hP] at rp
          have hI64 := X.i64
          rw [← hI] at hI64
          obtain ⟨pa, pc, hpv, hpc⟩ := id rp
          rw [hpv] at d2 rp
          have c1 := K.out.cell (p := ⟨b, o + i * 5 + 1, none⟩) (by simp) d1
          have c2 := K.out.cell (p := ⟨b, o + i * 5 + 2, none⟩) (by simp) d2
          have C1 := Lib.hid d1; have C2 := Lib.hid d2
          clear d1 d2
          have Rp := Lib.hid ((rp.frame (Fr.ofKept K.out W.heap.size []) (Nat.le_refl _) (by simp)).mono hz1)
          clear hx X rp hpv hpc hI hP
          have S1 : wr.cell? ⟨b, o + i * 5 + 1, none⟩ = some (.int .i64 I) ∧ wr.cell? ⟨b, o + i * 5 + 2, none⟩ = some (.slice pa P.length pc) := ⟨c1, c2⟩
          have S1 := Lib.hid S1
          obtain ⟨m, hm⟩ : ∃ m : Int, I.tmod 4 = m := ⟨_, rfl⟩
          have hmb : -4 < m ∧ m < 4 := by rw [← hm]; exact tmod_bd I 4 (by decide)
          have hwsb : ws.length ≤ 1000000 := by omega
          go_wp2
          go_region_held3 (fun W' => W'.cell? ⟨b, o + i * 5 + 1, none⟩ = some (.int .i64 I) ∧ W'.cell? ⟨b, o + i * 5 + 2, none⟩ = some (.slice pa P.length pc))
            (first | exact S1.out | exact S2)
            ((go_at_call 14; refine (write_step D.out.drew m _ P (Rp.out.frame ((Fr.refl 0 [] wr).drew.mono (Nat.le_refl _) (fun _ h => h) |> fun h => Fr.ofKept h.kept w1.heap.size []) (Nat.le_refl _) (by simp)) hwsb hzb).mono ?_; rintro e w4 ⟨rfl, v4, hd, hf⟩; have D4 := Lib.hid hd; have K4 := Lib.hid (K.out.drew.later hf hz1); have S2 : w4.cell? ⟨b, o + i * 5 + 1, none⟩ = some (.int .i64 I) ∧ w4.cell? ⟨b, o + i * 5 + 2, none⟩ = some (.slice pa P.length pc) := ⟨K4.out.cell (p := ⟨b, o + i * 5 + 1, none⟩) (by simp) C1.out, K4.out.cell (p := ⟨b, o + i * 5 + 2, none⟩) (by simp) C2.out⟩; clear hd hf))
          have N4 := Lib.hid (nowW_laid 4 m P now (noughts 4) ws Hnow.out)
          have L4 := wsW_length 4 m P ws
          clear hm
          go_wp2
          go_roundw
          case rel => exact ⟨i + 1, _, _, _, by go_num, by omega, by omega, D4.out, N4.out, K4.out⟩
          case measure => simp [intOf]; omega
        · have hin : ¬ (i : Int) < (len0 : Int) := by omega
          have hsafe := sync_safe 4 (noughts 4) now ws D.out.ls D.out.hw Hnow.out
          have Hsafe := Lib.hid hsafe
          clear hlt hsafe
          go_wp2_with fail
          refine (sync_any D.out (by omega)).mono ?_
          rintro e w5 ⟨rfl, hd, hf⟩
          rw [Hsafe.out] at hd
          have D5 := Lib.hid hd; have K5 := Lib.hid (K.out.later hf hz1); have hz5 := hf.size
          clear hd hf
          go_wp2
          go_loopw [11, 12] (fun t11 t12 wr2 => ∃ (j n11 c11 : Nat) (a11 : Option Addr) (xs : List Value), t12 = .int .i64 j ∧ j ≤ 4 ∧ t11 = .slice a11 n11 c11 ∧ wr2.ownsRow w1.heap.size 29 1 (.slice a11 n11 c11) j xs ∧ (∀ k, k < j → ∃ v, xs[k]? = some v ∧ Rb wr2 w1.heap.size 5 v (blkOf now k)) ∧ Dv wr2 w1.heap.size p gn gs (.slice none 0 0) 4 now now [] ∧ Kept W wr2 []) (fun _ t12 _ => 4 - (intOf t12).toNat)
          case atStart => exact ⟨0, 0, 0, none, [], rfl, Nat.zero_le _, rfl, World.ownsRow_nil _ _ _ _, fun k h => by omega, D5.out, K5.out⟩
          case round =>
            obtain ⟨j, n11, c11, a11, xs, rfl, hj, rfl, hown, hxs, hd, hk⟩ := hrel
            rename_i wr0
            have Own2 := Lib.hid hown; have Hxs := Lib.hid hxs; have DL := Lib.hid hd; have KL := Lib.hid hk
            have hzl : w1.heap.size ≤ wr.heap.size := Nat.le_trans hd.bp (by have := heap_lt hd.hp; omega)
            clear hown hxs hd hk
            by_cases hj4 : j < 4
            · have hj4i : (j : Int) < 4 := by omega
              go_wp2_with fail
              refine (read_ok DL.out j hj4).mono ?_
              rintro e w6 ⟨v6, rfl, ho, hk⟩
              obtain ⟨a6, n6, c6, hv6⟩ := Own.shape3 ho
              have R6 := Lib.hid (ho.rb w1.heap.size); have K6 := Lib.hid (KL.out.trans hk (by simp)); have hz6 := hk.size
              have D6 := Lib.hid (DL.out.frame (Fr.ofKept hk 0 []) (by simp) (by simp) (by simp))
              have O6 := Lib.hid (ownsRow_kept Own2.out hk (fun _ _ => by simp))
              have X6 := Lib.hid (show ∀ k, k < j → ∃ v, xs[k]? = some v ∧ Rb w6 w1.heap.size 5 v (blkOf now k) from fun k h => by
                obtain ⟨v, e1, e2⟩ := Hxs.out k h
                exact ⟨v, e1, e2.frame (Fr.ofKept hk w1.heap.size []) (Nat.le_refl _) (by simp)⟩)
              clear ho hk
              subst hv6
              go_wp2_with (at_builtin; refine wpList_append_fr _ rfl (.tmp 70) (.tmp 72) 49 49 rfl w1.heap.size 29 i0 _ 1 24 Try.underlying49 hi0 hz0 hz1' hzby rfl (.slice a11 n11 c11) j xs rfl ?hown _ 1 [.slice a6 n6 c6] rfl (src_one Try.underlying49 w6 _ rfl _) ?b1 ?b2 ?base ?next)
              case hown => exact World.ownsRow.alloc O6.out _
              case b1 => unfold maxLen; omega
              case b2 => omega
              case base => simp; omega
              case next =>
                intro v7 w7 ho7 hf7 _
                obtain ⟨a7, c7, hv7⟩ := ownsRow_shape ho7
                have F7 : Fr w1.heap.size [29] w6 w7 := (Fr.ofKept ((Kept.refl w6 []).alloc _) _ _).trans hf7
                have K7 := Lib.hid (K6.out.later F7 hz1)
                have D7 := Lib.hid (D6.out.frame F7 (by decide) (by decide) (by decide))
                have X7 := Lib.hid (show ∀ k, k < j + 1 → ∃ v, (xs ++ [Value.slice a6 n6 c6])[k]? = some v ∧ Rb w7 w1.heap.size 5 v (blkOf now k) from fun k h => by
                  have hxl : xs.length = j := by have := O6.out.1; omega
                  by_cases hkj : k < j
                  · obtain ⟨v, e1, e2⟩ := X6.out k hkj
                    exact ⟨v, by rw [List.getElem?_append_left (by omega)]; exact e1, e2.frame F7 (Nat.le_refl _) (by decide)⟩
                  · obtain rfl : k = j := by omega
                    exact ⟨_, by rw [List.getElem?_append_right (by omega), hxl, Nat.sub_self]; rfl, R6.out.frame F7 (Nat.le_refl _) (by decide)⟩)
                have O7 := Lib.hid ho7
                clear ho7 hf7 F7
                subst hv7
                go_wp2
                go_roundw
                case rel => exact ⟨j + 1, _, _, _, _, by go_num, by omega, rfl, O7.out, X7.out, D7.out, K7.out⟩
                case measure => simp [intOf]; omega
            · obtain rfl : j = 4 := by omega
              have hjn : ¬ ((4 : Nat) : Int) < 4 := by decide
              clear hj4
              go_wp2_with (refine wpList_store_new wr rfl 50 (.tmp 15) (.tmp 74) rfl _ 50 [.bool false, .bool false, .bool false, .bool false] rfl rfl Try.size50 rfl four_one ?_; intro w8 hb8 hk8 hz8)
              have D8 := Lib.hid (DL.out.frame (Fr.ofKept hk8.out 0 []) (by simp) (by simp) (by simp))
              have K8 := Lib.hid (KL.out.trans hk8.out (by simp))
              have O8 := Lib.hid (ownsRow_kept Own2.out hk8.out (fun _ _ => by simp))
              have X8 := Lib.hid (show ∀ k, k < 4 → ∃ v, xs[k]? = some v ∧ Rb w8 w1.heap.size 5 v (blkOf now k) from fun k h => by
                obtain ⟨v, e1, e2⟩ := Hxs.out k h
                exact ⟨v, e1, e2.frame (Fr.ofKept hk8.out w1.heap.size []) (Nat.le_refl _) (by simp)⟩)
              obtain ⟨tb, htb⟩ : ∃ tb, tb = wr.heap.size := ⟨_, rfl⟩
              have hB8 : Hid (w8.heap[tb]? = some (.cells (([false, false, false, false] : List Bool).map Value.bool).toArray 50 (0, 0))) := by rw [htb]; exact hb8
              rw [← htb]
              have htbz : w1.heap.size ≤ tb := by omega
              clear htb hb8 Own2 Hxs KL DL
              go_wp2
              go_loopw [16] (fun t wr2 => ∃ (i : Nat) (v : Value) (now2 : List UInt8) (ws2 : List Wt) (ts : List Bool), t = .int .i64 i ∧ i ≤ len1 ∧ ws2.length ≤ i ∧ Dv wr2 w1.heap.size p gn gs v 4 now2 now ws2 ∧ now2 = laid now (pairs ws2) ∧ wr2.heap[tb]? = some (.cells (ts.map Value.bool).toArray 50 (0, 0)) ∧ ts.length = 4 ∧ (∀ y ∈ ws2, ts.getD y.blk false = true) ∧
                  wr2.ownsRow w1.heap.size 29 1 (.slice a11 n11 c11) 4 xs ∧ (∀ k, k < 4 → ∃ v, xs[k]? = some v ∧ Rb wr2 w1.heap.size 5 v (blkOf now k)) ∧ Kept W wr2 []) (fun t _ => len1 - (intOf t).toNat)
              case atStart => exact ⟨0, _, _, [], _, rfl, Nat.zero_le _, Nat.le_refl _, D8.out, rfl, hB8.out, rfl, fun y h => by simp at h, O8.out, X8.out, K8.out⟩
              case round =>
                obtain ⟨i, v, now2, ws2, ts, rfl, hi, hw2, hd, hnow2, htb, hts, htrue, hown, hxs, hk⟩ := hrel
                have DL := Lib.hid hd; have KL := Lib.hid hk; have Hn2 := Lib.hid hnow2; have Htb := Lib.hid htb; have Hts := Lib.hid hts; have Htrue := Lib.hid htrue; have OL := Lib.hid hown; have XL := Lib.hid hxs
                have hzl : w1.heap.size ≤ wr.heap.size := Nat.le_trans hd.bp (by have := heap_lt hd.hp; omega)
                clear hd hk hnow2 htb hts htrue hown hxs
                by_cases hlt : i < len1
                · obtain ⟨b, o, rfl, hx⟩ := Hf1.out (by omega)
                  have X := hx i hlt
                  have d1 := X.c1
                  have d2 := X.c2
                  have rp := X.rp
                  obtain ⟨I, hI⟩ : ∃ I, I = (f1 i).i := ⟨_, rfl⟩
                  obtain ⟨P, hP⟩ : ∃ P, P = (f1 i).p := ⟨_, rfl⟩
                  rw [← hI] at d1
                  rw [← hP] at rp
                  obtain ⟨pa, pc, hpv, hpc⟩ := id rp
                  rw [hpv] at d2 rp
                  have c1 := KL.out.cell (p := ⟨b, o + i * 5 + 1, none⟩) (by simp) d1
                  have c2 := KL.out.cell (p := ⟨b, o + i * 5 + 2, none⟩) (by simp) d2
                  have C1 := Lib.hid d1; have C2 := Lib.hid d2
                  clear d1 d2
                  have Rp := Lib.hid ((rp.frame (Fr.ofKept KL.out W.heap.size []) (Nat.le_refl _) (by simp)).mono hz1)
                  clear hx X rp hpv hpc hI hP
                  obtain ⟨m, hm⟩ : ∃ m : Int, I.tmod 4 = m := ⟨_, rfl⟩
                  have hmb : -4 < m ∧ m < 4 := by rw [← hm]; exact tmod_bd I 4 (by decide)
                  have hwsb : ws2.length ≤ 1000000 := by omega
                  have S1 : wr.cell? ⟨b, o + i * 5 + 1, none⟩ = some (.int .i64 I) ∧ wr.cell? ⟨b, o + i * 5 + 2, none⟩ = some (.slice pa P.length pc) := ⟨c1, c2⟩
                  have S1 := Lib.hid S1
                  by_cases hok : 0 ≤ m ∧ P.length ≤ 32
                  · obtain ⟨k, rfl⟩ : ∃ k : Nat, m = k := ⟨m.toNat, by omega⟩
                    have hk4 : k < 4 := by omega
                    have hP32 := hok.2
                    clear hok
                    go_wp2
                    go_region_held3 (fun W' => W'.cell? ⟨b, o + i * 5 + 1, none⟩ = some (.int .i64 I) ∧ W'.cell? ⟨b, o + i * 5 + 2, none⟩ = some (.slice pa P.length pc))
                      (first | exact S1.out | exact S2)
                      ((go_at_call 14; refine (write_ok DL.out.drew k hk4 _ P hP32 (Rp.out.frame (Fr.ofKept ((Kept.refl wr []).drew) w1.heap.size []) (Nat.le_refl _) (by simp)) hwsb hzl).mono ?_; rintro e w9 ⟨rfl, v9, hd, hf⟩; have D9 := Lib.hid hd; have K9 := Lib.hid (KL.out.drew.later hf hz1); have F9 := Lib.hid hf; have S2 : w9.cell? ⟨b, o + i * 5 + 1, none⟩ = some (.int .i64 I) ∧ w9.cell? ⟨b, o + i * 5 + 2, none⟩ = some (.slice pa P.length pc) := ⟨K9.out.cell (p := ⟨b, o + i * 5 + 1, none⟩) (by simp) C1.out, K9.out.cell (p := ⟨b, o + i * 5 + 2, none⟩) (by simp) C2.out⟩; clear hd hf))
                    have hn9 : lay now2 k P = laid now (pairs (ws2 ++ [⟨k, P.length, splice (noughts 1) 0 P⟩])) := by rw [pairs_snoc, laid_snoc, ← Hn2.out]
                    have Hn9 := Lib.hid hn9
                    have F9' : Fr w1.heap.size dts wr w9 := ((Fr.refl w1.heap.size dts wr).drew).trans F9.out
                    have htb9 : w9.heap[tb]? = some (.cells (ts.map Value.bool).toArray 50 (0, 0)) := F9'.heap Htb.out (by decide)
                    have ctb : w9.cell? ⟨tb, k, none⟩ = some (.bool (ts.getD k false)) := by
                      rw [cell_of_row w9 tb k _ _ _ htb9, List.getElem?_toArray, List.getElem?_map]
                      simp [List.getD, show k < ts.length by rw [Hts.out]; exact hk4]
                    have ftb : w9.frozen? ⟨tb, k, none⟩ = false := frozen_of_row _ _ _ _ _ htb9
                    have e1 := K9.out.cell (p := ⟨b, o + i * 5 + 1, none⟩) (by simp) C1.out
                    have kT : Kept w9 (w9.setCell ⟨tb, k, none⟩ (.bool true)) [tb] := (Kept.refl w9 [tb]).setCell (p := ⟨tb, k, none⟩) (.inl (by simp)) _
                    have hT : (w9.setCell ⟨tb, k, none⟩ (.bool true)).heap[tb]? = some (.cells ((ts.set k true).map Value.bool).toArray 50 (0, 0)) := by
                      have := heap_setCell_at htb9 k (.bool true)
                      simpa [List.map_set] using this
                    have FT : Fr w1.heap.size [50] w9 (w9.setCell ⟨tb, k, none⟩ (.bool true)) := (Fr.refl _ _ w9).setCell htb9 (.inr ⟨htbz, by simp⟩) k _
                    have DT := Lib.hid (D9.out.frame FT (by decide) (by decide) (by decide))
                    have KT := Lib.hid (K9.out.later FT hz1)
                    have OT := Lib.hid (ownsRow_frame (ownsRow_frame OL.out F9' (by decide)) FT (by decide))
                    have XT := Lib.hid (show ∀ k', k' < 4 → ∃ v, xs[k']? = some v ∧ Rb (w9.setCell ⟨tb, k, none⟩ (.bool true)) w1.heap.size 5 v (blkOf now k') from fun k' h => by
                      obtain ⟨v, e1, e2⟩ := XL.out k' h
                      exact ⟨v, e1, (e2.frame F9' (Nat.le_refl _) (by decide)).frame FT (Nat.le_refl _) (by decide)⟩)
                    have HT := Lib.hid hT
                    have TT := Lib.hid (show ∀ y ∈ ws2 ++ [(⟨k, P.length, splice (noughts 1) 0 P⟩ : Wt)], (ts.set k true).getD y.blk false = true from fun y hy => by
                      have hl := Hts.out
                      rw [List.getD, List.getElem?_set]
                      rcases List.mem_append.1 hy with h | h
                      · have h1 := Htrue.out y h
                        by_cases e : k = y.blk
                        · rw [if_pos e, if_pos (by omega)]; rfl
                        · rw [if_neg e]; exact h1
                      · obtain rfl : y = ⟨k, P.length, splice (noughts 1) 0 P⟩ := by simpa using h
                        rw [if_pos rfl, if_pos (by omega)]; rfl)
                    clear kT hT FT htb9 F9' hn9
                    go_wp2
                    go_roundw
                    case rel => exact ⟨i + 1, _, _, _, _, by go_num, by omega, by simp; omega, DT.out, Hn9.out, HT.out, by rw [List.length_set]; exact Hts.out, TT.out, OT.out, XT.out, KT.out⟩
                    case measure => simp [intOf]; omega
                  · have hbad : m < 0 ∨ ((4 : Nat) : Int) ≤ m ∨ 32 < P.length := by omega
                    have HDN := Lib.hid (fun k => DL.out.frame ((Fr.refl 0 [] wr).drewN k) (by simp) (by simp) (by simp))
                    clear hok
                    go_wp2
                    go_quiet ((go_at_call 14; exact Calls.quiet_of_same ((write_bad (HDN.out _) m pa P.length pc hbad).mono fun _ _ h => ⟨h.1, h.2.symm⟩)))
                    clear hm
                    have DN := Lib.hid (DL.out.frame ((Fr.refl 0 [] wr).drewN nq) (by simp) (by simp) (by simp))
                    have KN := Lib.hid (KL.out.drewN nq)
                    have ON := Lib.hid (ownsRow_kept OL.out ((Kept.refl wr []).drewN nq) (fun _ _ => by simp))
                    have XN := Lib.hid (show ∀ k, k < 4 → ∃ v, xs[k]? = some v ∧ Rb (wr.drewN nq) w1.heap.size 5 v (blkOf now k) from fun k h => by
                      obtain ⟨v, e1, e2⟩ := XL.out k h
                      exact ⟨v, e1, e2.frame ((Fr.refl w1.heap.size [] wr).drewN nq) (Nat.le_refl _) (by simp)⟩)
                    go_wp2
                    go_roundw
                    case rel => exact ⟨i + 1, _, _, _, _, by go_num, by omega, by omega, DN.out, Hn2.out, Htb.out, Hts.out, Htrue.out, ON.out, XN.out, KN.out⟩
                    case measure => simp [intOf]; omega
                · have hin : ¬ (i : Int) < (len1 : Int) := by omega
                  clear hlt
                  have HloL := Lib.hid (RbB.mono (Hlo.out.frame (Fr.ofKept KL.out W.heap.size []) (Nat.le_refl _) (by simp)) hz1)
                  go_wp2_with fail
                  refine (crash_any DL.out (by omega) _ lost HloL.out torn).mono ?_
                  rintro e w9 ⟨rfl, hd, hf⟩
                  rw [safeTo_all, crash_now 4 now now2 ws2 lost torn DL.out.ls DL.out.hw Hn2.out] at hd
                  have hsame : ∀ j, j < 4 → ts.getD j false = false → blkOf (laid now (left lost torn ws2.length 0 (pairs ws2))) j = blkOf now j := fun j hj hf => by
                    refine blk_same 4 now _ j DL.out.ls (left_ok 4 _ _ _ _ _ (pairs_ok DL.out.hw)) (fun y hy e => ?_)
                    obtain ⟨z, hz, ez⟩ := left_blk _ _ _ _ _ y hy
                    obtain ⟨x, hx, rfl⟩ := List.mem_map.1 hz
                    have := Htrue.out x hx
                    have e2 : x.blk = j := by rw [← e, ← ez]; rfl
                    rw [e2, hf] at this
                    cases this
                  generalize laid now (left lost torn ws2.length 0 (pairs ws2)) = now9 at hd hsame
                  have D9 := Lib.hid hd; have K9 := Lib.hid (KL.out.later hf hz1); have Hsame := Lib.hid hsame
                  have T9 := Lib.hid (hf.heap Htb.out (by decide))
                  have O9 := Lib.hid (ownsRow_frame OL.out hf (by decide))
                  have X9 := Lib.hid (show ∀ k, k < 4 → ∃ v, xs[k]? = some v ∧ Rb w9 w1.heap.size 5 v (blkOf now k) from fun k h => by
                    obtain ⟨v, e1, e2⟩ := XL.out k h
                    exact ⟨v, e1, e2.frame hf (Nat.le_refl _) (by decide)⟩)
                  clear hd hf hsame
                  go_wp2
                  go_loopw [17] (fun t wr2 => ∃ j : Nat, t = .int .i64 j ∧ j ≤ 4 ∧ Dv wr2 w1.heap.size p gn gs (.slice none 0 0) 4 now9 now9 [] ∧ wr2.heap[tb]? = some (.cells (ts.map Value.bool).toArray 50 (0, 0)) ∧ wr2.ownsRow w1.heap.size 29 1 (.slice a11 n11 c11) 4 xs ∧ (∀ k, k < 4 → ∃ v, xs[k]? = some v ∧ Rb wr2 w1.heap.size 5 v (blkOf now k)) ∧ Kept W wr2 []) (fun t _ => 4 - (intOf t).toNat)
                  case atStart => exact ⟨0, rfl, Nat.zero_le _, D9.out, T9.out, O9.out, X9.out, K9.out⟩
                  case round =>
                    obtain ⟨j, rfl, hj, hd, htb, hown, hxs, hk⟩ := hrel
                    have DM := Lib.hid hd; have TM := Lib.hid htb; have OM := Lib.hid hown; have XM := Lib.hid hxs; have KM := Lib.hid hk
                    clear hd htb hown hxs hk
                    by_cases hj4 : j < 4
                    · have hj4i : (j : Int) < 4 := by omega
                      go_wp2_with fail
                      refine (read_ok DM.out j hj4).mono ?_
                      rintro e x1 ⟨u1, rfl, ho, hk⟩
                      obtain ⟨aa1, n1, c1, hu1⟩ := Own.shape3 ho
                      have P1 := Lib.hid ho.rd; have K1' := Lib.hid (KM.out.trans hk (by simp))
                      have D1' := Lib.hid (DM.out.frame (Fr.ofKept hk 0 []) (by simp) (by simp) (by simp))
                      have htb1 := hk.heap (by simp) TM.out
                      have ct : x1.cell? ⟨tb, j, none⟩ = some (.bool (ts.getD j false)) := by
                        rw [cell_of_row x1 tb j _ _ _ htb1, List.getElem?_toArray, List.getElem?_map]
                        simp [List.getD, show j < ts.length by rw [Hts.out]; exact hj4]
                      have O1' := Lib.hid (ownsRow_kept OM.out hk (fun _ _ => by simp))
                      have X1' := Lib.hid (show ∀ k, k < 4 → ∃ v, xs[k]? = some v ∧ Rb x1 w1.heap.size 5 v (blkOf now k) from fun k h => by
                        obtain ⟨v, e1, e2⟩ := XM.out k h
                        exact ⟨v, e1, e2.frame (Fr.ofKept hk w1.heap.size []) (Nat.le_refl _) (by simp)⟩)
                      have T1' := Lib.hid htb1
                      clear ho hk htb1
                      subst hu1
                      by_cases ht : ts.getD j false = true
                      · rw [ht] at ct
                        go_wp2
                        go_roundw
                        case rel => exact ⟨j + 1, by go_num, by omega, D1'.out, T1'.out, O1'.out, X1'.out, K1'.out⟩
                        case measure => simp [intOf]; omega
                      · have htf : ts.getD j false = false := by simpa using ht
                        rw [htf] at ct
                        obtain ⟨u2, e1, r2⟩ := X1'.out j hj4
                        obtain ⟨aa2, n2, c2, hu2⟩ := r2.rd.shape3
                        rw [hu2] at e1 r2
                        obtain ⟨g11, rfl⟩ : ∃ g, a11 = some ⟨g, 0, none⟩ := by
                          rcases O1'.out.2 with ⟨_, h1⟩ | ⟨g, cap, cur, h1, _⟩
                          · omega
                          · simp only [Value.slice.injEq] at h1; exact ⟨g, h1.1⟩
                        have hn11 : n11 = 4 ∧ 4 ≤ c11 := by
                          rcases O1'.out.2 with ⟨_, h1⟩ | ⟨g, cap, cur, h1, _, _, h2, _⟩
                          · omega
                          · simp only [Value.slice.injEq] at h1; omega
                        obtain ⟨rfl, hc11⟩ := hn11
                        have cw : x1.cell? ⟨g11, j, none⟩ = some (.slice aa2 n2 c2) := by
                          have := World.ownsRow.cells O1'.out (g := g11) rfl j _ e1
                          rwa [Addr.add_lit, Nat.zero_add] at this
                        have hl9 : (blkOf now9 j).length ≤ 9223372036854775807 := by rw [blkOf_length _ 4 j DM.out.ln hj4]; decide
                        have R2 := Lib.hid r2.rd
                        have hs9 := Hsame.out j hj4 htf
                        have Hs9 := Lib.hid hs9
                        clear r2 e1 ht htf hs9
                        go_wp2_with fail
                        refine (alike_any _ _ _ _ x1 P1.out R2.out hl9).mono ?_
                        rintro e x2 ⟨rfl, hk⟩
                        rw [Hs9.out, beq_self_eq_true]
                        have K2' := Lib.hid (K1'.out.trans hk (by simp))
                        have D2' := Lib.hid (D1'.out.frame (Fr.ofKept hk 0 []) (by simp) (by simp) (by simp))
                        have T2' := Lib.hid (hk.heap (by simp) T1'.out)
                        have O2' := Lib.hid (ownsRow_kept O1'.out hk (fun _ _ => by simp))
                        have X2' := Lib.hid (show ∀ k, k < 4 → ∃ v, xs[k]? = some v ∧ Rb x2 w1.heap.size 5 v (blkOf now k) from fun k h => by
                          obtain ⟨v, e1, e2⟩ := X1'.out k h
                          exact ⟨v, e1, e2.frame (Fr.ofKept hk w1.heap.size []) (Nat.le_refl _) (by simp)⟩)
                        clear hk
                        go_wp2
                        go_roundw
                        case rel => exact ⟨j + 1, by go_num, by omega, D2'.out, T2'.out, O2'.out, X2'.out, K2'.out⟩
                        case measure => simp [intOf]; omega
                    · have hjn : ¬ (j : Int) < 4 := by omega
                      go_wp2_with fail
                      refine (waiting_any DM.out).mono ?_
                      rintro e x3 ⟨rfl, rfl⟩
                      go_wp2
                      go_ret
                      exact ⟨rfl, KM.out.below (Nat.le_refl _) (by simp)⟩

set_option maxRecDepth 100000 in
theorem lifted (os : Os) (started : os.Started) (H : Type) (enc : TypeId × Value → H) :
    ReturnsInHanded {} Try.checked os 4 .any (Rows.blockSafeSpec.pre6 enc Try.prog Try.f4 Rows.blockSafeRow.domain false) (Rows.blockSafeSpec.post enc Try.prog Try.f4 false true false false) := by
  refine returnsInHanded_of_change (C := Try.checked) own started (by kernel_rfl) Try.func4
    (ChangeSpec.witness6 (enc := enc) (C := Try.checked) false ⟨#[], #[.slice none 0 0, .slice none 0 0, .slice none 0 0, .int .i64 0], []⟩ 8 (by kernel_rfl) (by kernel_rfl) (by kernel_rfl) (by kernel_rfl)) ?_
  intro W base args ds gs before hval0 hW hcnd _
  have hval : ∀ (j : Nat) t v, Try.f4.params[j]? = some t → args[j]? = some v → Value.okWide Try.prog W .any base t v := hval0
  have hW' := hW
  obtain ⟨p, q, hA0, hV, rfl, hfz, hnd⟩ := hW
  have hA : DataW.TrodAll enc Try.prog W 0 (fun _ => true) true Try.f4.params.toList args.toList ds p := hA0
  rw [Try.params4] at hA hval
  obtain ⟨v0, vs0, d0, ds0, p0, q0, hargs, rfl, rfl, h0, r0⟩ := trodAll_cons hA
  obtain ⟨v1, vs1, d1, ds1, p1, q1, rfl, rfl, rfl, h1, r1⟩ := trodAll_cons r0
  obtain ⟨v2, vs2, d2, ds2, p2, q2, rfl, rfl, rfl, h2, r2⟩ := trodAll_cons r1
  obtain ⟨v3, vs3, d3, ds3, p3, q3, rfl, rfl, rfl, h3, r3⟩ := trodAll_cons r2
  obtain ⟨rfl, rfl, rfl⟩ := trodAll_nil r3
  obtain rfl : args = #[v0, v1, v2, v3] := by cases args; simp_all
  obtain ⟨rfl, rfl⟩ := trodVars_none hV
  obtain ⟨a0, len0, cap0, rfl⟩ := okWide_slice Try.underlying22 (hval 0 22 v0 rfl rfl)
  have k0 := h0
  have lt0 : ∀ x ∈ p0, x.block < W.heap.size := by obtain ⟨m, hm⟩ := k0; exact DataW.trod_lt m _ _ _ hm
  obtain ⟨z0, w0⟩ : ∃ f, IsActs W W.heap.size a0 len0 f ∧ len0 ≤ maxLen := by
    obtain ⟨fuel, hf⟩ := h0
    exact acts_open (by simpa [Value.cells] using hf)
  obtain ⟨a1, len1, cap1, rfl⟩ := okWide_slice Try.underlying22 (hval 1 22 v1 rfl rfl)
  have k1 := h1
  have lt1 : ∀ x ∈ p1, x.block < W.heap.size := by obtain ⟨m, hm⟩ := k1; exact DataW.trod_lt m _ _ _ hm
  obtain ⟨z1, w1⟩ : ∃ f, IsActs W W.heap.size a1 len1 f ∧ len1 ≤ maxLen := by
    obtain ⟨fuel, hf⟩ := h1
    exact acts_open (by simpa [Value.cells] using hf)
  obtain ⟨a2, len2, cap2, rfl⟩ := okWide_slice Try.underlying30 (hval 2 30 v2 rfl rfl)
  have k2 := h2
  have lt2 : ∀ x ∈ p2, x.block < W.heap.size := by obtain ⟨m, hm⟩ := k2; exact DataW.trod_lt m _ _ _ hm
  obtain ⟨z2, w2⟩ : ∃ l, RbB W W.heap.size 4 (.slice a2 len2 cap2) l := by
    obtain ⟨fuel, hf⟩ := h2
    exact bools_open (by simpa [Value.cells] using hf)
  obtain ⟨a3, rfl, rfl, rfl, w3⟩ := open_int Try.underlying3 (hval 3 3 v3 rfl rfl) h3
  clear hA0 hval0
  refine (walk a0 len0 cap0 z0 a1 len1 cap1 z1 a2 len2 cap2 z2 a3 W w0 w1 w2 w3).mono fun e W' ⟨he, bel⟩ => ?_
  subst he
  exact ⟨_, rfl, _, _, _, [], _, [], hW', trodAll_mk1 (shut_bool Try.underlying4 _), (trodAll_cons_mk (Below.trod laidOut (by kernel_rfl) (of_decide_eq_true (by kernel_rfl)) k0 bel lt0) (trodAll_cons_mk (Below.trod laidOut (by kernel_rfl) (of_decide_eq_true (by kernel_rfl)) k1 bel lt1) (trodAll_cons_mk (Below.trod laidOut (by kernel_rfl) (of_decide_eq_true (by kernel_rfl)) k2 bel lt2) (trodAll_cons_mk (shut_int Try.underlying3 w3) trodAll_mk0)))), rfl, bel.frame _, fun h => by cases h⟩

theorem over : Rows.blockSafeRow.holds Try.pinned (OpenSpec.ofChange Rows.blockSafeSpec) :=
  OpenClaim.holds_of_wide 4 Try.f4 rfl rfl rfl rfl rfl rfl rfl ⟨rfl, rfl, rfl, rfl, rfl⟩ rfl rfl rfl rfl rfl (by kernel_rfl) Try.func4 (by kernel_rfl)
    (of_decide_eq_true (by kernel_rfl)) (by unfold Func.isWrapper; first | (rw [if_pos (by decide +kernel)]; kernel_rfl) | (rw [if_neg (by decide +kernel)]; exact ⟨rfl, rfl⟩))
    (fun os started H enc _ => lifted os started H enc)

theorem proved : Rows.BlockSafeSaid :=
  over
end Go.Proofs.Ytoamdpbnojedpaa.blockSafe

namespace Go.Proofs.Ytoamdpbnojedpaa
theorem blockSafe_holds : Rows.BlockSafeSaid := blockSafe.proved
#print axioms blockSafe_holds
end Go.Proofs.Ytoamdpbnojedpaa
