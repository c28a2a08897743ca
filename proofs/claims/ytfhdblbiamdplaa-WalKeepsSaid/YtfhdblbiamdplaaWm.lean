/-
  The contract of carrierref04's Scan.
-/
import Derived.Test.YtfhdblbiamdplaaWl
import Derived.Deep.RegionHeld3
namespace Go.Proofs.Ytfhdblbiamdplaa
open Go.RowKit

theorem getD_drop (b : List UInt8) (s i : Nat) : (b.drop s).getD i 0 = b.getD (s + i) 0 := by
  simp [List.getD, List.getElem?_drop]

theorem first_short {b : List UInt8} (h : b.length < 6) : firstB b = [] := by rw [firstB, if_pos h]

set_option maxHeartbeats 4000000 in
set_option maxRecDepth 100000 in
theorem rscan_any (v : Value) (b : List UInt8) (w : World) (h : Rd w v b) (hb : b.length ≤ 1000000) :
    Calls Try.prog 57 #[v] w fun e w' => ∃ v', e = .returned (.tuple #[v', .int .i64 (szs (scan b) : Nat)]) ∧ RowsR w' w.heap.size 0 v' (scan b) ∧ Kept w w' [] := by
  have H := Lib.hid h
  obtain ⟨a, c, rfl, hc, han, hl⟩ := h
  obtain ⟨i0, hi0, hz0, hz1, hzb⟩ := info_parts Try.infoL
  have Hl := Lib.hid hl; clear hl
  go_enter Try.func57, Try.ntmps57
  go_wp2
  go_loopw [4, 5] (fun t4 t5 wr => ∃ (s n4 c4 : Nat) (acc : List (List UInt8)) (a4 : Option Addr), t4 = .slice a4 n4 c4 ∧ t5 = .int .i64 s ∧ s = szs acc ∧ s ≤ b.length ∧ scan b = acc ++ scan (b.drop s) ∧ RowsR wr w.heap.size 0 (.slice a4 n4 c4) acc ∧ Kept w wr []) (fun _ t5 _ => b.length - (intOf t5).toNat)
  case atStart => exact ⟨0, 0, 0, [], none, rfl, rfl, rfl, Nat.zero_le _, by simp, RowsR.nil _ _ _, Kept.refl _ _⟩
  case round =>
    obtain ⟨s, n4, c4, acc, a4, rfl, rfl, hs, hsb, hsc, hrow, hk⟩ := hrel
    have Hs := Lib.hid hs; have Sc := Lib.hid hsc; have Row := Lib.hid hrow; have K := Lib.hid hk
    clear hs hsc hrow hk
    have hzr := K.out.size
    have fin : firstB (b.drop s) = [] → scan b = acc := fun h => by rw [Sc.out, scan_nil h, List.append_nil]
    by_cases h6 : b.length - s < 6
    · have E := Lib.hid (fin (first_short (by simp; omega)))
      have x1 : (b.length : Int) - (s : Int) < 6 := by omega
      clear fin
      go_wp2
      go_ret2
      exact ⟨_, ret2i (by rw [E.out, ← Hs.out]), by rw [E.out]; exact Row.out, K.out⟩
    · obtain ⟨bb, bo, ha⟩ : ∃ bb bo, a = some ⟨bb, bo, none⟩ := by
        obtain ⟨bb, bo, e, _⟩ := Hl.out (by rintro rfl; simp at h6)
        exact ⟨bb, bo, e⟩
      subst ha
      obtain ⟨bb', bo', e, hcell⟩ := Hl.out (by rintro rfl; simp at h6)
      simp only [Option.some.injEq, Addr.mk.injEq, and_true] at e
      obtain ⟨rfl, rfl⟩ := e
      have c0 := K.out.cell (p := ⟨bb, bo + s, none⟩) (by simp) (hcell s (by omega))
      have c1 := K.out.cell (p := ⟨bb, bo + (s + 1), none⟩) (by simp) (hcell (s + 1) (by omega))
      obtain ⟨n, hn⟩ : ∃ n, n = firstN (b.drop s) := ⟨_, rfl⟩
      have Fst : Hid (firstB (b.drop s) = if 4000 < n ∨ b.length - s < n + 6 then [] else if frameB (((b.drop s).drop 6).take n) = (b.drop s).take (6 + n) then ((b.drop s).drop 6).take n else []) := Lib.hid (by
        rw [firstB, if_neg (by simp; omega), ← hn, List.length_drop])
      have Fz : Hid (n = 0 → firstB (b.drop s) = []) := Lib.hid (fun h => first_zero (by rw [← hn]; exact h))
      unfold firstN at hn
      rw [getD_drop, getD_drop, Nat.add_zero] at hn
      obtain ⟨y0, hy0⟩ : ∃ y, y = b.getD s 0 := ⟨_, rfl⟩
      obtain ⟨y1, hy1⟩ : ∃ y, y = b.getD (s + 1) 0 := ⟨_, rfl⟩
      rw [← hy0] at c0 hn
      rw [← hy1] at c1 hn
      have hb0 := UInt8.toNat_lt y0
      have hb1 := UInt8.toNat_lt y1
      have x1 : ¬ (b.length : Int) - (s : Int) < 6 := by omega
      have x2 : (s : Int) < (b.length : Int) := by omega
      have x3 : (s : Int) + 1 < (b.length : Int) := by omega
      have e0 : 256 * (y0.toNat : Int) + (y1.toNat : Int) = (n : Int) := by omega
      have hn17 : n < 65536 := by omega
      clear hy0 hy1 hcell hn
      go_wp2
      go_quiet (fail)
      have Fin := Lib.hid fin; clear fin
      by_cases h1 : n = 0
      · have E := Lib.hid (Fin.out (Fz.out h1))
        have z1 : (n : Int) < 1 := by omega
        clear h1
        go_wp2
        go_ret2
        exact ⟨_, ret2i (by rw [E.out, ← Hs.out]), by rw [E.out]; exact Row.out.frame (Fr.ofKept ((Kept.refl wr []).drewN _) 0 []) (Nat.zero_le _) (by simp) (by simp), K.out.drewN _⟩
      by_cases h4 : 4000 < n
      · have E := Lib.hid (Fin.out (Fst.out.trans (if_pos (.inl h4))))
        have z1 : ¬ (n : Int) < 1 := by omega
        have z2 : (4000 : Int) < (n : Int) := by omega
        clear h1 h4
        go_wp2
        go_ret2
        exact ⟨_, ret2i (by rw [E.out, ← Hs.out]), by rw [E.out]; exact Row.out.frame (Fr.ofKept ((Kept.refl wr []).drewN _) 0 []) (Nat.zero_le _) (by simp) (by simp), K.out.drewN _⟩
      by_cases h7 : b.length - s < n + 6
      · have E := Lib.hid (Fin.out (Fst.out.trans (if_pos (.inr h7))))
        have z1 : ¬ (n : Int) < 1 := by omega
        have z2 : ¬ (4000 : Int) < (n : Int) := by omega
        have z3 : (b.length : Int) - (s : Int) - 6 < (n : Int) := by omega
        clear h1 h4 h7
        go_wp2
        go_ret2
        exact ⟨_, ret2i (by rw [E.out, ← Hs.out]), by rw [E.out]; exact Row.out.frame (Fr.ofKept ((Kept.refl wr []).drewN _) 0 []) (Nat.zero_le _) (by simp) (by simp), K.out.drewN _⟩
      have z1 : ¬ (n : Int) < 1 := by omega
      have z2 : ¬ (4000 : Int) < (n : Int) := by omega
      have z3 : ¬ (b.length : Int) - (s : Int) - 6 < (n : Int) := by omega
      have F2 := Lib.hid (Fst.out.trans (if_neg (by omega)))
      obtain ⟨u6, hu6⟩ : ∃ u6, u6 = s + 6 := ⟨_, rfl⟩
      obtain ⟨u2, hu2⟩ : ∃ u2, u2 = s + 6 + n := ⟨_, rfl⟩
      have e6 : (s : Int) + 6 = (u6 : Int) := by omega
      have e2 : (u6 : Int) + (n : Int) = (u2 : Int) := by omega
      have z4 : (u6 : Int) ≤ (u2 : Int) := by omega
      have z5 : (u2 : Int) ≤ (c : Int) := by omega
      have z6 : (s : Int) ≤ (u2 : Int) := by omega
      have z7 : ¬ c = u6 := by omega
      have z8 : ¬ c = s := by omega
      have Hu := Lib.hid (And.intro hu6 hu2)
      have hu2b : u2 ≤ b.length := by omega
      have hQ := (H.out.sub u6 (u2 - u6) (c - u6) (by omega) (by omega)).kept K.out (by simp)
      have hR := (H.out.sub s (u2 - s) (c - s) (by omega) (by omega)).kept K.out (by simp)
      have eQ : ((b.drop s).drop 6).take n = (b.drop u6).take (u2 - u6) := by rw [List.drop_drop, hu6, hu2]; congr 1; omega
      have eR : (b.drop s).take (6 + n) = (b.drop s).take (u2 - s) := by rw [hu2]; congr 1; omega
      rw [eQ, eR] at F2
      obtain ⟨q, hq⟩ : ∃ q, q = (b.drop u6).take (u2 - u6) := ⟨_, rfl⟩
      obtain ⟨r, hr⟩ : ∃ r, r = (b.drop s).take (u2 - s) := ⟨_, rfl⟩
      rw [← hq] at hQ F2
      rw [← hr] at hR F2
      have Lq := Lib.hid (show q.length = n by rw [hq]; simp; omega)
      have HQ := Lib.hid hQ; have HR := Lib.hid hR
      have HF : Hid (∀ V, Kept wr V [] → Calls Try.prog 35 #[.slice (some ⟨bb, bo + u6, none⟩) (u2 - u6) (c - u6)] V fun e w' => ∃ a n c, e = .returned (.slice a n c) ∧ Rd w' (.slice a n c) (frameB q) ∧ Kept wr w' []) := Lib.hid (fun V hV => by
        refine (rframe_any _ q V (HQ.out.kept hV (by simp)) (by have := Lq.out; omega)).mono ?_
        rintro e w' ⟨v', rfl, ho, hk⟩
        obtain ⟨a, n, c, hv⟩ := ho.shape3
        subst hv
        exact ⟨a, n, c, rfl, ho.rd, hV.trans hk (by simp)⟩)
      have n0 : n ≠ 0 := h1
      clear h1 h4 h7 h6 hu6 hu2 eQ eR hq hr hQ hR
      by_cases hfr : frameB q = r
      · have F3 := Lib.hid (F2.out.trans (if_pos hfr))
        have HB : Hid (∀ V va, Rd V va (frameB q) → Kept wr V [] → Calls Try.prog 26 #[va, .slice (some ⟨bb, bo + s, none⟩) (u2 - s) (c - s)] V fun e w' => e = .returned (.bool true) ∧ Kept wr w' []) := Lib.hid (fun V va h hV => by
          refine (alike_any va _ (frameB q) r V h (HR.out.kept hV (by simp)) (by rw [frameB_length]; have := Lq.out; omega)).mono ?_
          rintro e w' ⟨rfl, hk⟩
          exact ⟨by rw [hfr]; simp, hV.trans hk (by simp)⟩)
        have hne : firstB (b.drop s) ≠ [] := by rw [F3.out]; intro h0; have := Lq.out; rw [h0] at this; exact n0 this.symm
        have S1 := Lib.hid (show scan b = (acc ++ [q]) ++ scan (b.drop u2) by
          have h2 := Lq.out
          rw [Sc.out, scan_cons hne, F3.out, List.drop_drop, h2, List.append_assoc, Hu.out.2, show s + (6 + n) = s + 6 + n by omega]; rfl)
        have S2 := Lib.hid (show u2 = szs (acc ++ [q]) by rw [szs_snoc, Lq.out, ← Hs.out, Hu.out.2]; omega)
        have hacc : acc.length ≤ 1000000 := by have := len_szs acc; have := Hs.out; omega
        have k8 : Kept wr ((wr.drewN nq).drew) [] := ((Kept.refl wr []).drewN _).drew
        have hmeas : s < u2 := by have := Hu.out.2; omega
        have e9 : (s : Int) + (6 + (n : Int)) = (u2 : Int) := by have := Hu.out.2; omega
        clear hfr hne
        go_wp2_with fail
        have w1 : IntKind.i64.wrap (u6 : Int) = (u6 : Int) := IntWalk.i64_in _ (by omega)
        have w2 : IntKind.i64.wrap (u2 : Int) = (u2 : Int) := IntWalk.i64_in _ (by omega)
        have w3 : (0 : Int) ≤ (s : Int) := by omega
        go_region_held3 (fun _ => True) (trivial)
          (first
            | (go_at_call 35; refine (HF.out _ ?_).mono ?_; assumption; rintro e w8 ⟨a8, n8, c8, rfl, r8, k8⟩)
            | (go_at_call 26; refine (HB.out _ _ ?_ ?_).mono ?_; assumption; assumption; rintro e w9 ⟨rfl, k8⟩))
        clear w1 w2 w3
        have K9 := Lib.hid (K.out.trans k8 (by simp)); have Q9 := Lib.hid (HQ.out.kept k8 (by simp))
        obtain ⟨xs, hox, hxl, hxr⟩ := Row.out.frame (Fr.ofKept k8 w.heap.size []) (Nat.zero_le _) (by simp) (by simp)
        have X9 := Lib.hid hox; have XR9 := Lib.hid hxr; have hz9 := k8.size
        obtain ⟨_, _, e4⟩ := ownsRow_shape hox
        simp only [Value.slice.injEq] at e4
        obtain ⟨rfl, rfl, rfl⟩ := e4
        clear hox hxr k8 r8 e6 e2
        go_wp2_with fail
        refine (join_any _ (.slice none 0 0) q [] w9 Q9.out (Rd.nil _) (by have := Lq.out; omega) (by decide)).mono ?_
        rintro e w10 ⟨v2, rfl, ho, hk⟩
        rw [List.append_nil] at ho
        have K10 := Lib.hid (K9.out.trans hk (by simp)); have O10 := Lib.hid ho
        obtain ⟨a2, n2, c2, hv2⟩ := Own.shape3 ho
        subst hv2
        have X10 := Lib.hid (ownsRow_frame X9.out (Fr.ofKept hk 0 []) (by simp))
        have XR10 := Lib.hid (fun i h h' => And.intro ((XR9.out i h h').1.frame (Fr.ofKept hk 0 []) (Nat.le_refl _) (by simp)) (XR9.out i h h').2)
        have hz10 := hk.size
        clear ho hk
        go_wp2_with (at_builtin; refine wpList_append_fr _ rfl (.tmp 60) (.tmp 63) 29 29 rfl w.heap.size 36 i0 _ 1 24 Try.underlying29 hi0 hz0 hz1 hzb rfl _ acc.length xs rfl ?hown _ 1 [.slice a2 n2 c2] rfl (src_one Try.underlying29 w10 _ rfl _) ?b1 ?b2 ?base ?next)
        case hown => exact World.ownsRow.alloc X10.out _
        case b1 => unfold maxLen; omega
        case b2 => omega
        case base => simp; omega
        case next =>
          intro v3 w11 hown hf _
          have ff : Fr w.heap.size [36] w10 w11 := (Fr.ofKept ((Kept.refl w10 []).alloc (.cells #[.slice a2 n2 c2] 36)) _ _).trans hf
          have row3 := RowsR.snoc (l := q) hown (fun i h h' => ⟨(XR10.out i h h').1.frame ff (Nat.zero_le _) (by decide), (XR10.out i h h').2⟩) hxl ((O10.out.rb 0).frame ff (Nat.zero_le _) (by decide)) (fun b hb => by have := (O10.out.lt b hb).1; omega)
          have Row3 := Lib.hid row3
          have K3 := Lib.hid (((Fr.ofKept K10.out 0 []).later ff (Nat.le_refl _)).kept)
          obtain ⟨a3, c3, e3⟩ := ownsRow_shape hown
          subst e3
          clear hown hf ff row3
          go_wp2
          go_roundw
          case rel => exact ⟨u2, _, _, acc ++ [q], _, rfl, rfl, S2.out, hu2b, S1.out, Row3.out, K3.out⟩
          case measure => simp [intOf]; omega
      · have F3 := Lib.hid (F2.out.trans (if_neg hfr))
        have HB : Hid (∀ V va, Rd V va (frameB q) → Kept wr V [] → Calls Try.prog 26 #[va, .slice (some ⟨bb, bo + s, none⟩) (u2 - s) (c - s)] V fun e w' => e = .returned (.bool false) ∧ Kept wr w' []) := Lib.hid (fun V va h hV => by
          refine (alike_any va _ (frameB q) r V h (HR.out.kept hV (by simp)) (by rw [frameB_length]; have := Lq.out; omega)).mono ?_
          rintro e w' ⟨rfl, hk⟩
          exact ⟨by rw [beq_eq_false_iff_ne.2 hfr], hV.trans hk (by simp)⟩)
        have E := Lib.hid (Fin.out F3.out)
        have k8 : Kept wr ((wr.drewN nq).drew) [] := ((Kept.refl wr []).drewN _).drew
        clear hfr
        go_wp2_with fail
        have w1 : IntKind.i64.wrap (u6 : Int) = (u6 : Int) := IntWalk.i64_in _ (by omega)
        have w2 : IntKind.i64.wrap (u2 : Int) = (u2 : Int) := IntWalk.i64_in _ (by omega)
        have w3 : (0 : Int) ≤ (s : Int) := by omega
        go_region_held3 (fun _ => True) (trivial)
          (first
            | (go_at_call 35; refine (HF.out _ ?_).mono ?_; assumption; rintro e w8 ⟨a8, n8, c8, rfl, r8, k8⟩)
            | (go_at_call 26; refine (HB.out _ _ ?_ ?_).mono ?_; assumption; assumption; rintro e w9 ⟨rfl, k8⟩))
        all_goals go_wp2
        all_goals go_ret2
        all_goals exact ⟨_, ret2i (by rw [E.out, ← Hs.out]), by rw [E.out]; exact Row.out.frame (Fr.ofKept k8 0 []) (Nat.zero_le _) (by simp) (by simp), K.out.trans k8 (by simp)⟩

end Go.Proofs.Ytfhdblbiamdplaa
