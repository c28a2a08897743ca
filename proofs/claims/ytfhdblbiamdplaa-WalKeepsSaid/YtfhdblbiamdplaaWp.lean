/-
  The contract of carrierref04's Open.
-/
import Derived.Test.YtfhdblbiamdplaaWo
namespace Go.Proofs.Ytfhdblbiamdplaa
open Go.RowKit

/-- The document's log at a block. -/
def RLg (w : World) (ql q s : Nat) : Prop := w.heap[ql]? = some (.cells #[.pointer (some ⟨q, 0, none⟩), .int .i64 s] 54 (0, 0))

def ROpened (w : World) (B q n : Nat) (now safe : List UInt8) (ws : List (Nat × List UInt8)) (ql : Nat) (vr : Value) (w' : World) : Prop :=
  ∃ vs' vw' safe' ws', Rf w' B q vs' vw' n safe' ws' ∧ clr now = laid safe' ws' ∧ (now = clr now → safe' = safe ∧ ws' = ws) ∧ (now ≠ clr now → safe' = clr now ∧ ws' = []) ∧ Fr B rts w w' ∧ RLg w' ql q (szs (scan now)) ∧ w.heap.size ≤ ql ∧ RowsR w' w.heap.size 0 vr (scan now)

theorem clr_at (b : List UInt8) (x : Nat) : (clr b).getD x 0 = if x < szs (scan b) then b.getD x 0 else 0 := by
  have hs := szs_scan b.length b (Nat.le_refl _)
  simp only [clr, List.getD]
  by_cases h : x < szs (scan b)
  · rw [if_pos h, List.getElem?_append_left (by simp; omega), List.getElem?_take, if_pos h]
  · rw [if_neg h, List.getElem?_append_right (by simp; omega), List.getElem?_replicate]
    split <;> rfl

theorem blk_take {L : List UInt8} {n i k : Nat} (hL : L.length = 32 * n) (hi : i < n) (hk : k < 32) : (blkOf L i).take (k + 1) = (blkOf L i).take k ++ [L.getD (32 * i + k) 0] := by
  have hl := blkOf_length L n i hL hi
  rw [List.take_succ_eq_append_getElem (by omega)]
  congr 2
  have h1 := blkOf_at L i k
  rw [if_pos hk, List.getElem?_eq_getElem (by omega), List.getElem?_eq_getElem (by omega)] at h1
  simp only [Option.some.injEq] at h1
  rw [h1]
  simp [List.getD, show 32 * i + k < L.length by omega]

/-- One byte of a block in the making. -/
theorem cell_set {L : List UInt8} {n i k : Nat} (hL : L.length = 32 * n) (hi : i < n) (hk : k < 32) : ((blkOf L i).take k ++ List.replicate (32 - k) (0 : UInt8)).set k (L.getD (32 * i + k) 0) = (blkOf L i).take (k + 1) ++ List.replicate (32 - (k + 1)) 0 := by
  have hl := blkOf_length L n i hL hi
  have e : ((blkOf L i).take k).length = k := by simp; omega
  rw [List.set_append_right _ _ (by omega), e, Nat.sub_self, show 32 - k = (32 - (k + 1)) + 1 by omega, List.replicate_succ, List.set_cons_zero, blk_take hL hi hk, List.append_assoc]
  rfl

theorem cell_zero {L : List UInt8} {n i k : Nat} (hL : L.length = 32 * n) (hi : i < n) (hk : k < 32) (h0 : L.getD (32 * i + k) 0 = 0) : ((blkOf L i).take k ++ List.replicate (32 - k) (0 : UInt8)) = (blkOf L i).take (k + 1) ++ List.replicate (32 - (k + 1)) 0 := by
  rw [blk_take hL hi hk, h0, List.append_assoc, show 32 - k = (32 - (k + 1)) + 1 by omega, List.replicate_succ]
  rfl

theorem take_iff {A M : List UInt8} {n i k : Nat} (hA : A.length = 32 * n) (hM : M.length = 32 * n) (hi : i < n) (hk : k < 32) : (blkOf A i).take (k + 1) ≠ (blkOf M i).take (k + 1) ↔ ((blkOf A i).take k ≠ (blkOf M i).take k ∨ A.getD (32 * i + k) 0 ≠ M.getD (32 * i + k) 0) := by
  rw [blk_take hA hi hk, blk_take hM hi hk]
  generalize (blkOf A i).take k = X
  generalize (blkOf M i).take k = Y
  generalize A.getD (32 * i + k) 0 = a
  generalize M.getD (32 * i + k) 0 = b
  have : X ++ [a] = Y ++ [b] ↔ X = Y ∧ a = b := by
    constructor
    · intro h
      have := List.append_inj' h rfl
      simpa using this
    · rintro ⟨rfl, rfl⟩; rfl
  rw [ne_eq, this, Classical.not_and_iff_not_or_not]

set_option maxHeartbeats 4000000 in
set_option maxRecDepth 100000 in
theorem ropen_any {w : World} {B q n : Nat} {vs vw : Value} {safe : List UInt8} {ws : List (Nat × List UInt8)} (R0 : Rf w B q vs vw n safe ws) (now : List UInt8) (hnow : now = laid safe ws) (hws : ws.length ≤ 900000) (hB : B ≤ w.heap.size) :
    Calls Try.prog 18 #[.pointer (some ⟨q, 0, none⟩)] w fun e w' => ∃ ql vr, e = .returned (.tuple #[.pointer (some ⟨ql, 0, none⟩), vr]) ∧ ROpened w B q n now safe ws ql vr w' := by
  have R := Lib.hid R0; have Now := Lib.hid hnow
  have hln := Lib.hid (show now.length = 32 * n by rw [hnow]; exact laid_length n ws safe R0.ls R0.ok)
  have hn12 := R0.n12
  clear R0 hnow
  go_enter Try.func18, Try.ntmps18
  go_wp2_with fail
  refine (rall_any R.out (by omega)).mono ?_
  rintro e w1 ⟨v1, rfl, ho, hk⟩
  rw [← Now.out] at ho
  have O1 := Lib.hid ho; have K1 := Lib.hid hk
  obtain ⟨a1, c1, hv1⟩ := ho.shape
  subst hv1
  have hz1 := hk.size
  clear ho hk
  go_wp2_with fail
  refine (rscan_any _ now w1 O1.out.rd (by have := hln.out; omega)).mono ?_
  rintro e w2 ⟨vr, rfl, hrow, hk⟩
  have RW2 := Lib.hid (hrow.mono hz1 (Nat.le_refl _)); have K2 := Lib.hid (K1.out.trans hk (by simp)); have O2 := Lib.hid (O1.out.kept hk (by simp))
  obtain ⟨xs, hox, _⟩ := id hrow
  obtain ⟨ar, cr, hvr⟩ := ownsRow_shape hox
  subst hvr
  have hz2 := K2.out.size
  obtain ⟨s, hs⟩ : ∃ s, s = szs (scan now) := ⟨_, rfl⟩
  have Hs := Lib.hid hs
  rw [← hs]
  have hsl := Lib.hid (show s ≤ now.length by rw [hs]; exact szs_scan _ _ (Nat.le_refl _))
  obtain ⟨F, hF⟩ : ∃ F, F = clr now := ⟨_, rfl⟩
  have HF := Lib.hid hF
  have hFl := Lib.hid (show F.length = 32 * n by rw [hF, clr_length]; exact hln.out)
  have R2 := Lib.hid (R.out.frame (Fr.ofKept K2.out B []) (Nat.le_refl _) (by simp) (by simp) (by simp))
  clear hrow hk hox hs hF
  obtain ⟨m, hm⟩ : ∃ m, m = now.length := ⟨_, rfl⟩
  have em : (m : Int) / 32 = (n : Int) := by have := hln.out; omega
  have hmn := Lib.hid (show m = 32 * n by rw [hm]; exact hln.out)
  rw [← hm]
  rw [← hm] at O2
  have OW : Hid (∀ V, Fr B rts w2 V → Own V w.heap.size 5 (.slice a1 m c1) now) := Lib.hid (fun V hV => O2.out.frame hV (by decide))
  clear hm
  go_wp2
  go_loopw [7, 8] (fun t7 t8 wr => ∃ (i : Nat) (r : Bool) (v' : Value) (ws' : List (Nat × List UInt8)), t7 = .bool r ∧ t8 = .int .i64 i ∧ i ≤ n ∧ Rf wr B q vs v' n safe ws' ∧ mixL F now i = laid safe ws' ∧ (r = false → ws' = ws ∧ now = mixL F now i) ∧ (r = true → now ≠ F) ∧ ws'.length ≤ ws.length + i ∧ Fr B rts w2 wr) (fun _ t8 _ => n - (intOf t8).toNat)
  case atStart => exact ⟨0, false, vw, ws, rfl, rfl, Nat.zero_le _, R2.out, by rw [mixL_zero]; exact Now.out, fun _ => ⟨rfl, (mixL_zero _ _).symm⟩, fun h => by simp at h, by omega, Fr.refl _ _ _⟩
  case round =>
    obtain ⟨i, r, v', ws', rfl, rfl, hin, hd, hlaid, hno, hyes, hlw, hf⟩ := hrel
    have Rr := Lib.hid hd; have La := Lib.hid hlaid; have No := Lib.hid hno; have Yes := Lib.hid hyes; have Fw := Lib.hid hf
    have hzr := hf.size
    clear hd hlaid hno hyes hf
    by_cases hlt : i < n
    · have x1 : (i : Int) < (n : Int) := by omega
      have Oa := Lib.hid (OW.out wr Fw.out)
      obtain ⟨g1, ha1⟩ := own_addr Oa.out (by have := hmn.out; omega)
      subst ha1
      have hg1 := Lib.hid (Oa.out.lt g1 rfl)
      go_wp2_with (refine wpList_make wr rfl 36 _ _ rfl (.slice (some ⟨wr.heap.size, 0, none⟩) 32 32) (.cells (bc (List.replicate 32 0)).toArray 5) (mk_bytes 32 (by decide) wr) ?_)
      intro w4 Hg4 Hk4 hz4
      have O4 := Lib.hid (own_block (l := List.replicate 32 0) (n := 32) Hg4.out (Nat.le_refl wr.heap.size) (List.length_replicate ..) (by decide))
      have K4 := Lib.hid Hk4.out
      obtain ⟨g, hg⟩ : ∃ g, g = wr.heap.size := ⟨_, rfl⟩
      have hgz : wr.heap.size ≤ g := by omega
      rw [← hg] at O4 ⊢
      clear hg
      go_wp2
      go_loopw [10, 11] (fun t10 t11 wr2 => ∃ (k : Nat) (r2 : Bool) (l' : List UInt8), t10 = .bool r2 ∧ t11 = .int .i64 k ∧ k ≤ 32 ∧ l' = (blkOf F i).take k ++ List.replicate (32 - k) 0 ∧ Own wr2 g 5 (.slice (some ⟨g, 0, none⟩) 32 32) l' ∧ (r2 = true ↔ (blkOf now i).take k ≠ (blkOf F i).take k) ∧ Kept wr wr2 []) (fun _ t11 _ => 32 - (intOf t11).toNat)
      case atStart => exact ⟨0, false, _, rfl, rfl, by omega, by simp, O4.out, by simp, K4.out⟩
      case round =>
        rename_i wr0
        obtain ⟨k, r2, l', rfl, rfl, hk32, hl', ho, hiff, hkr⟩ := hrel
        have L := Lib.hid hl'; have O := Lib.hid ho; have I := Lib.hid hiff; have K := Lib.hid hkr
        have Ll := Lib.hid (show l'.length = 32 by rw [hl']; have := blkOf_length F n i hFl.out hlt; simp; omega)
        clear hl' ho hiff hkr
        by_cases hk : k < 32
        · obtain ⟨u, hu⟩ : ∃ u, u = 32 * i + k := ⟨_, rfl⟩
          have e1 : 32 * (i : Int) + (k : Int) = (u : Int) := by omega
          have hum : u < m := by have := hmn.out; omega
          have x3 : (u : Int) < (m : Int) := by omega
          obtain ⟨x, hx⟩ : ∃ x, x = now.getD u 0 := ⟨_, rfl⟩
          have cx : wr.cell? ⟨g1, u, none⟩ = some (.int .u8 (x.toNat : Int)) := by
            have := (own_at Oa.out u (by have := hmn.out; have := hln.out; omega)).1
            rw [← hx] at this
            exact K.out.cell (p := ⟨g1, u, none⟩) (by simp) this
          obtain ⟨d0, f0⟩ := own_at O.out k (by rw [Ll.out]; exact hk)
          have hst := Lib.hid (own_store O.out k (by rw [Ll.out]; exact hk) x)
          have hFu : F.getD u 0 = if u < s then x else 0 := by rw [HF.out, clr_at, ← Hs.out, ← hx]
          have TI := Lib.hid (take_iff (A := now) (M := F) hln.out hFl.out hlt hk)
          rw [← hu, ← hx] at TI
          by_cases hus : u < s
          · have x4 : (u : Int) < (s : Int) := by omega
            rw [if_pos hus] at hFu
            have N1 := Lib.hid (show l'.set k x = (blkOf F i).take (k + 1) ++ List.replicate (32 - (k + 1)) 0 by rw [L.out, ← cell_set hFl.out hlt hk, ← hu, hFu])
            have N2 := Lib.hid (show r2 = true ↔ (blkOf now i).take (k + 1) ≠ (blkOf F i).take (k + 1) by rw [TI.out, hFu, I.out]; simp)
            clear hu hx hFu hus
            go_wp2
            go_roundw
            case rel => exact ⟨k + 1, r2, l'.set k x, rfl, by go_num, by omega, N1.out, hst.out, N2.out, K.out.setCell (.inr hgz) _⟩
            case measure => simp [intOf]; omega
          · have x4 : ¬ (u : Int) < (s : Int) := by omega
            rw [if_neg hus] at hFu
            have N1 := Lib.hid (show l' = (blkOf F i).take (k + 1) ++ List.replicate (32 - (k + 1)) 0 by rw [L.out]; exact cell_zero hFl.out hlt hk (by rw [← hu]; exact hFu))
            by_cases hx0 : x = 0
            · have x5 : ((x.toNat : Int) != 0) = false := by rw [hx0]; rfl
              have N2 := Lib.hid (show r2 = true ↔ (blkOf now i).take (k + 1) ≠ (blkOf F i).take (k + 1) by rw [TI.out, hFu, I.out, hx0]; simp)
              clear hu hx hFu hus hx0
              go_wp2
              go_roundw
              case rel => exact ⟨k + 1, r2, l', rfl, by go_num, by omega, N1.out, O.out, N2.out, K.out⟩
              case measure => simp [intOf]; omega
            · have x5 : ((x.toNat : Int) != 0) = true := by
                rw [bne_iff_ne]; intro h; exact hx0 (UInt8.toNat.inj (by simpa using h))
              have N2 := Lib.hid (show true = true ↔ (blkOf now i).take (k + 1) ≠ (blkOf F i).take (k + 1) by rw [TI.out, hFu]; simp [hx0])
              clear hu hx hFu hus hx0
              go_wp2
              go_roundw
              case rel => exact ⟨k + 1, true, l', rfl, by go_num, by omega, N1.out, O.out, N2.out, K.out⟩
              case measure => simp [intOf]; omega
        · obtain rfl : k = 32 := by omega
          have hbF := blkOf_length F n i hFl.out hlt
          have hbN := blkOf_length now n i hln.out hlt
          have hLe : l' = blkOf F i := by rw [L.out, List.take_of_length_le (by omega)]; simp
          have hI : r2 = true ↔ blkOf now i ≠ blkOf F i := by have := I.out; rwa [List.take_of_length_le (by omega), List.take_of_length_le (by omega)] at this
          have R5 := Lib.hid (Rr.out.frame (Fr.ofKept K.out B []) (Nat.le_refl _) (by simp) (by simp) (by simp))
          have F5 := Lib.hid (Fw.out.trans (Fr.ofKept K.out B rts))
          have hz5 := K.out.size
          have Bl := Lib.hid hbF
          subst hLe
          cases r2 with
          | false =>
            have heq : blkOf now i = blkOf F i := by
              rcases Decidable.em (blkOf now i = blkOf F i) with h | h
              · exact h
              · exact absurd (hI.2 h) (by simp)
            have ms := Lib.hid (mixL_step (L := F) heq)
            clear heq hI hbF hbN
            go_wp2
            go_roundw
            case rel => exact ⟨i + 1, r, v', ws', rfl, by go_num, by omega, R5.out, by rw [ms.out]; exact La.out, by rw [ms.out]; exact No.out, Yes.out, by omega, F5.out⟩
            case measure => simp [intOf]; omega
          | true =>
            have ne := Lib.hid (show now ≠ F from fun h => (hI.1 rfl) (by rw [h]))
            have ml := Lib.hid (mixL_lay (now := now) hFl.out hlt)
            clear hI hbF hbN
            go_wp2_with fail
            refine (rput_ok R5.out i hlt _ (blkOf F i) (by rw [Bl.out]; omega) O.out.rd (by omega) (by omega)).mono ?_
            rintro e w6 ⟨rfl, v6, hr, hf⟩
            have R6 := Lib.hid hr; have F6 := Lib.hid (F5.out.trans hf)
            have la6 := Lib.hid (show mixL F now (i + 1) = laid safe (ws' ++ [(i, blkOf F i)]) by rw [laid_snoc, ← La.out, ml.out])
            clear hr hf
            go_wp2
            go_roundw
            case rel => exact ⟨i + 1, true, v6, _, rfl, by go_num, by omega, R6.out, la6.out, fun h => by simp at h, fun _ => ne.out, by simp; omega, F6.out⟩
            case measure => simp [intOf]; omega
    · obtain rfl : i = n := by omega
      have x1 : ¬ (i : Int) < (i : Int) := by omega
      have ma := mixL_all hFl.out hln.out
      rw [ma] at La No
      have RW3 := Lib.hid (RW2.out.frame Fw.out (Nat.zero_le _) (by decide) (by decide))
      cases r with
      | false =>
        have w1' := Lib.hid (No.out rfl)
        go_wp2
        go_ret2
        have kk : Kept wr (wr.alloc (.cells #[.pointer (some ⟨q, 0, none⟩), .int .i64 s] 54)) [] := (Kept.refl wr []).alloc _
        refine ⟨wr.heap.size, _, rfl, vs, v', safe, ws', Rr.out.frame (Fr.ofKept kk B []) (Nat.le_refl _) (by simp) (by simp) (by simp), by rw [← HF.out]; exact La.out, fun _ => ⟨rfl, w1'.out.1⟩, fun h => absurd (by rw [← HF.out]; exact w1'.out.2) h, (Fr.ofKept K2.out B rts).trans (Fw.out.trans (Fr.ofKept kk _ _)), ?_, by omega, RW3.out.frame (Fr.ofKept kk 0 []) (Nat.zero_le _) (by simp) (by simp)⟩
        rw [← Hs.out]; exact heap_alloc_new _ _
      | true =>
        have ne := Lib.hid (Yes.out rfl)
        go_wp2_with fail
        refine (rsync_any Rr.out (by omega) (by omega)).mono ?_
        rintro e w6 ⟨rfl, vs6, hr, hf⟩
        rw [← La.out] at hr
        have R6 := Lib.hid hr; have F6 := Lib.hid (Fw.out.trans hf)
        have RW6 := Lib.hid (RW3.out.frame hf (Nat.zero_le _) (by decide) (by decide))
        have hz6 := hf.size
        clear hr hf
        go_wp2
        go_ret2
        have kk : Kept w6 (w6.alloc (.cells #[.pointer (some ⟨q, 0, none⟩), .int .i64 s] 54)) [] := (Kept.refl w6 []).alloc _
        refine ⟨w6.heap.size, _, rfl, vs6, _, F, [], R6.out.frame (Fr.ofKept kk B []) (Nat.le_refl _) (by simp) (by simp) (by simp), by rw [← HF.out]; rfl, fun h => absurd (by rw [HF.out]; exact h) ne.out, fun _ => ⟨HF.out, rfl⟩, (Fr.ofKept K2.out B rts).trans (F6.out.trans (Fr.ofKept kk _ _)), ?_, by omega, RW6.out.frame (Fr.ofKept kk 0 []) (Nat.zero_le _) (by simp) (by simp)⟩
        rw [← Hs.out]; exact heap_alloc_new _ _

end Go.Proofs.Ytfhdblbiamdplaa
