/-
  The contract of carrierref04's Append.
-/
import Derived.Test.YtfhdblbiamdplaaWq
namespace Go.Proofs.Ytfhdblbiamdplaa
open Go.RowKit

/-- The types of the blocks that the document's log writes. -/
def rlts : List TypeId := 54 :: rts

theorem rappend_bad {ql : Nat} (w : World) (a : Option Addr) (n c : Nat) (h : n = 0 ∨ 4000 < n) : Calls Try.prog 20 #[.pointer (some ⟨ql, 0, none⟩), .slice a n c] w fun e w' => e = .returned (.int .i64 1) ∧ w = w' := by
  by_cases h0 : n = 0
  · subst h0
    clear h
    go_enter Try.func20, Try.ntmps20
    go_wp2
    go_ret
    exact ⟨rfl, rfl⟩
  · have h1 : (4000 : Int) < (n : Int) := by omega
    have h2 : ¬ (n : Int) < 1 := by omega
    clear h
    go_enter Try.func20, Try.ntmps20
    go_wp2
    go_ret
    exact ⟨rfl, rfl⟩

set_option maxHeartbeats 1000000 in
set_option maxRecDepth 100000 in
theorem rappend_full {w : World} {B q n ql s : Nat} {vs vw : Value} {safe : List UInt8} {ws : List (Nat × List UInt8)} (R : Rf w B q vs vw n safe ws) (G : RLg w ql q s) (hs : s ≤ 32 * n) (vp : Value) (l : List UInt8) (hr : Rd w vp l) (h1 : 1 ≤ l.length) (h2 : l.length ≤ 4000) (hf : 32 * n - s < 6 + l.length) :
    Calls Try.prog 20 #[.pointer (some ⟨ql, 0, none⟩), vp] w fun e w' => e = .returned (.int .i64 8) ∧ Kept w w' [] := by
  have HR := Lib.hid R; have HG := Lib.hid G; have Hs := Lib.hid hs; have Hp := Lib.hid hr
  obtain ⟨a, c, rfl, _⟩ := hr
  have x1 : ¬ (4000 : Int) < (l.length : Int) := by omega
  have x2 : ¬ (l.length : Int) < 1 := by omega
  obtain ⟨r, hrr⟩ : ∃ r, r = 32 * n - s := ⟨_, rfl⟩
  obtain ⟨m, hm⟩ : ∃ m, m = (frameB l).length := ⟨_, rfl⟩
  have x3 : (r : Int) < (m : Int) := by rw [frameB_length] at hm; omega
  have Hr := Lib.hid hrr; have Hm := Lib.hid hm
  clear R G hs hf hrr hm
  go_enter Try.func20, Try.ntmps20
  go_wp2_with fail
  refine (rframe_any _ l w Hp.out (by omega)).mono ?_
  rintro e w1 ⟨v1, rfl, ho, hk⟩
  obtain ⟨a1, c1, rfl⟩ := ho.shape
  rw [← Hm.out] at *
  have K1 := Lib.hid hk
  clear ho hk
  go_wp2_with fail
  refine (rroom_any (HR.out.frame (Fr.ofKept K1.out B []) (Nat.le_refl _) (by simp) (by simp) (by simp)) (HG.out.frame (Fr.ofKept K1.out B []) (by simp)) Hs.out).mono ?_
  rintro e w2 ⟨rfl, hk⟩
  rw [← Hr.out]
  have K2 := Lib.hid (K1.out.trans hk (by simp))
  clear hk
  go_wp2
  go_ret
  exact ⟨rfl, K2.out⟩

theorem cnt_bound {s t j : Nat} (ht : 0 < t) (hj : j < cnt s t) : 32 * (s / 32 + j) < s + t := by
  unfold cnt at hj
  rw [if_neg (by omega)] at hj
  omega
theorem cnt_le (s t : Nat) : cnt s t ≤ (s + t + 31) / 32 := by
  unfold cnt
  split <;> omega
theorem cnt_end {s t : Nat} (ht : 0 < t) : s + t ≤ 32 * (s / 32 + cnt s t) := by
  unfold cnt
  rw [if_neg (by omega)]
  omega

/-- What the document's Append leaves. -/
def RLaid (w : World) (B q n ql s : Nat) (vs : Value) (now safe L : List UInt8) (ws : List (Nat × List UInt8)) (w' : World) : Prop :=
  ∃ vw', Rf w' B q vs vw' n safe (ws ++ blks (splice now s L) (s / 32) (cnt s L.length)) ∧ RLg w' ql q (s + L.length) ∧ Fr B rlts w w'

set_option maxHeartbeats 4000000 in
set_option maxRecDepth 100000 in
theorem rappend_ok {w : World} {B q n ql s : Nat} {vs vw : Value} {safe : List UInt8} {ws : List (Nat × List UInt8)} (R : Rf w B q vs vw n safe ws) (G : RLg w ql q s) (now : List UInt8) (hnow : now = laid safe ws) (vp : Value) (l : List UInt8) (hr : Rd w vp l) (h1 : 1 ≤ l.length) (h2 : l.length ≤ 4000) (hf : s + (6 + l.length) ≤ 32 * n) (hws : ws.length ≤ 900000) (hB : B ≤ w.heap.size) (hq : B ≤ ql) :
    Calls Try.prog 20 #[.pointer (some ⟨ql, 0, none⟩), vp] w fun e w' => e = .returned (.int .i64 0) ∧ RLaid w B q n ql s vs now safe (frameB l) ws w' := by
  have HR := Lib.hid R; have HG := Lib.hid G; have Hp := Lib.hid hr; have Hnow := Lib.hid hnow; have Hws := Lib.hid hws
  obtain ⟨a, c, rfl, _⟩ := hr
  have x1 : ¬ (4000 : Int) < (l.length : Int) := by omega
  have x2 : ¬ (l.length : Int) < 1 := by omega
  have hn12 := R.n12
  obtain ⟨r, hrr⟩ : ∃ r, r = 32 * n - s := ⟨_, rfl⟩
  obtain ⟨L, hL⟩ : ∃ L, L = frameB l := ⟨_, rfl⟩
  have hLl : L.length = 6 + l.length := by rw [hL, frameB_length]
  rw [← hL]
  obtain ⟨m, hm⟩ : ∃ m, m = L.length := ⟨_, rfl⟩
  have x3 : ¬ (r : Int) < (m : Int) := by omega
  have hfit : s + m ≤ 32 * n := by omega
  have hm0 : 0 < m := by omega
  have hlen : now.length = 32 * n := by rw [hnow]; exact laid_length n ws safe R.ls R.ok
  have Hr := Lib.hid hrr; have Hm := Lib.hid hm; have HL := Lib.hid hL; have Hlen := Lib.hid hlen
  obtain ⟨dd0, dd1⟩ := G.cell
  have Hl2 := Lib.hid h2
  clear R G hf hrr hm hL hlen hnow hLl h1 h2 hws
  go_enter Try.func20, Try.ntmps20
  go_wp2_with fail
  refine (rframe_any _ l w Hp.out (by have := Hl2.out; omega)).mono ?_
  rintro e w1 ⟨v1, rfl, ho, hk⟩
  rw [← HL.out] at ho
  obtain ⟨a1, c1, rfl⟩ := ho.shape
  obtain ⟨g1, rfl⟩ := own_addr ho (by have := Hm.out; omega)
  rw [← Hm.out] at ho
  rw [← Hm.out]
  have O1 := Lib.hid ho; have K1 := Lib.hid hk
  have R1 := Lib.hid (HR.out.frame (Fr.ofKept hk B []) (Nat.le_refl _) (by simp) (by simp) (by simp))
  have G1 := Lib.hid (HG.out.frame (Fr.ofKept hk B []) (by simp))
  clear ho hk dd0 dd1
  go_wp2_with fail
  refine (rroom_any R1.out G1.out (by omega)).mono ?_
  rintro e w2 ⟨rfl, hk⟩
  rw [← Hr.out]
  have O2 := Lib.hid (O1.out.kept hk (by simp)); have K2 := Lib.hid (K1.out.trans hk (by simp))
  have R2 := Lib.hid (R1.out.frame (Fr.ofKept hk B []) (Nat.le_refl _) (by simp) (by simp) (by simp))
  have G2 := Lib.hid (G1.out.frame (Fr.ofKept hk B []) (by simp))
  have hz2 := (K1.out.trans hk (by simp)).size
  obtain ⟨dd0, dd1⟩ := G2.out.cell
  clear hk R1 G1 O1 K1
  go_wp2_with fail
  refine (rall_any R2.out (by have := Hws.out; omega)).mono ?_
  rintro e w3 ⟨va, rfl, ho, hk⟩
  rw [← Hnow.out] at ho
  obtain ⟨a3, c3, rfl⟩ := ho.shape
  rw [Hlen.out] at ho
  rw [Hlen.out]
  obtain ⟨g3, rfl⟩ := own_addr ho (by omega)
  have hg3 : w2.heap.size ≤ g3 := (ho.lt g3 rfl).1
  have hcap : 32 * n ≤ c3 := by
    rcases ho.2 with ⟨hv, _⟩ | ⟨g, cap, cur, hv, _, _, hnc, _⟩
    · cases hv
    · simp only [Value.slice.injEq] at hv
      obtain ⟨_, _, rfl⟩ := hv
      rw [Hlen.out] at hnc
      exact hnc
  have A3 := Lib.hid ho; have K3 := Lib.hid hk
  have G3 := Lib.hid (G2.out.frame (Fr.ofKept hk B []) (by simp))
  have hg1 : g1 < w2.heap.size := (O2.out.lt g1 rfl).2
  clear ho hk dd0 dd1
  go_wp2
  go_loopw [7] (fun t wr => ∃ k : Nat, t = .int .i64 k ∧ k ≤ m ∧ Own wr w2.heap.size 5 (.slice (some ⟨g3, 0, none⟩) (32 * n) c3) (splice now s (L.take k)) ∧ Kept w2 wr []) (fun t _ => m - (intOf t).toNat)
  case atStart => exact ⟨0, rfl, Nat.zero_le _, by rw [List.take_zero, splice_nil]; exact A3.out, K3.out⟩
  case round =>
    obtain ⟨k, rfl, hk, hown, hkp⟩ := hrel
    have Hown := Lib.hid hown; have KW := Lib.hid hkp
    clear hown hkp A3 K3 G3
    by_cases hkl : k < m
    · obtain ⟨d, hd⟩ : ∃ d, d = L.getD k 0 := ⟨_, rfl⟩
      have hkL : k < L.length := by have := Hm.out; omega
      have hb := (own_at O2.out k hkL).1
      rw [← hd] at hb
      have Hb := Lib.hid hb
      have hl2 : (splice now s (L.take k)).length = 32 * n := by rw [length_splice _ _ _ (by have := Hm.out; rw [Hlen.out, List.length_take]; omega), Hlen.out]
      obtain ⟨o0, o1⟩ := own_at Hown.out (s + k) (by rw [hl2]; omega)
      have O3 := Lib.hid (own_store Hown.out (s + k) (by rw [hl2]; omega) d)
      have K3 : Kept w2 (wr.setCell ⟨g3, s + k, none⟩ (.int .u8 d.toNat)) [] := KW.out.setCell (.inr hg3) _
      have hS : RowKit.Hid (∀ W', Kept w2 W' [] → W'.cell? ⟨ql, 1, none⟩ = some (.int .i64 s) ∧ W'.cell? ⟨g1, k, none⟩ = some (.int .u8 d.toNat)) := Lib.hid (fun W' h =>
        ⟨h.cell (p := ⟨ql, 1, none⟩) (by simp) G2.out.cell.2, h.cell (p := ⟨g1, k, none⟩) (by simp) Hb.out⟩)
      have S1 := Lib.hid (hS.out wr KW.out)
      have S2 := Lib.hid (hS.out _ K3)
      have K3 := Lib.hid K3
      have Hd := Lib.hid hd
      have x5 : (k : Int) < (m : Int) := by omega
      clear hl2 hd hb hkL
      go_wp2
      have y1 : IntKind.i64.wrap ((s : Int) + (k : Int)) = (s : Int) + (k : Int) := IntWalk.i64_in _ (by omega)
      have y3 : (0 : Int) ≤ (s : Int) + (k : Int) := by omega
      have y4 : ((s : Int) + (k : Int)).toNat = s + k := by omega
      have y5 : (s : Int) + (k : Int) < 32 * (n : Int) := by omega
      go_region_held3 (fun W' => W'.cell? ⟨ql, 1, none⟩ = some (.int .i64 s) ∧ W'.cell? ⟨g1, k, none⟩ = some (.int .u8 d.toNat))
        (first | exact S1.out | exact S2.out)
        (fail)
      clear y1 y3 y4 y5
      go_wp2
      go_roundw
      case rel => exact ⟨k + 1, by go_num, by omega, by rw [splice_step _ _ _ _ (by have := Hm.out; omega) (by have := Hlen.out; have := Hm.out; omega), ← Hd.out]; exact O3.out, K3.out.drew⟩
      case measure => simp [intOf]; omega
    · obtain rfl : k = m := by omega
      have x5 : ¬ (k : Int) < (k : Int) := by omega
      have Hown' : Hid (Own wr w2.heap.size 5 (.slice (some ⟨g3, 0, none⟩) (32 * n) c3) (splice now s L)) := Lib.hid (by have := Hown.out; rwa [Hm.out, List.take_length] at this)
      have G4 := Lib.hid (G2.out.frame (Fr.ofKept KW.out B []) (by simp))
      have R4 := Lib.hid (R2.out.frame (Fr.ofKept KW.out B []) (Nat.le_refl _) (by simp) (by simp) (by simp))
      obtain ⟨dd0, dd1⟩ := G4.out.cell
      obtain ⟨i0, hi0⟩ : ∃ i0, i0 = s / 32 := ⟨_, rfl⟩
      have e1 : (s : Int) / 32 = (i0 : Int) := by omega
      have Hi0 := Lib.hid hi0
      obtain ⟨C, hC⟩ : ∃ C, C = cnt s k := ⟨_, rfl⟩
      have HC := Lib.hid hC
      have hCb : C ≤ 5000 := by have := cnt_le s k; omega
      clear hi0 hC Hown
      obtain ⟨wA, rfl⟩ : ∃ wA, wA = wr := ⟨_, rfl⟩
      go_wp2
      go_loopw [8] (fun t wr => ∃ (j : Nat) (vw2 : Value), t = .int .i64 ((i0 + j : Nat) : Int) ∧ j ≤ C ∧ Rf wr B q vs vw2 n safe (ws ++ blks (splice now s L) i0 j) ∧ Own wr w2.heap.size 5 (.slice (some ⟨g3, 0, none⟩) (32 * n) c3) (splice now s L) ∧ Fr B rts wA wr) (fun t _ => i0 + C - (intOf t).toNat)
      case atStart => exact ⟨0, vw, rfl, Nat.zero_le _, by rw [blks_zero, List.append_nil]; exact R4.out, Hown'.out, Fr.refl _ _ _⟩
      case round =>
        obtain ⟨j, vw2, rfl, hj, hr, hown, hfr⟩ := hrel
        have R5 := Lib.hid hr; have O5 := Lib.hid hown; have F5 := Lib.hid hfr
        have G5 := Lib.hid (G4.out.frame hfr (by decide))
        obtain ⟨dd0, dd1⟩ := G5.out.cell
        have hzw := hfr.size
        have hBA : B ≤ wA.heap.size := by have := KW.out.size; omega
        clear hr hown hfr
        obtain ⟨I, hI⟩ : ∃ I, I = i0 + j := ⟨_, rfl⟩
        rw [← hI]
        by_cases hjC : j < C
        · have hIb : 32 * I < s + k := by have := cnt_bound (s := s) (j := j) hm0 (by rw [← HC.out]; exact hjC); rw [← Hi0.out, ← hI] at this; exact this
          have hIn : I < n := by omega
          have lF : (splice now s L).length = 32 * n := by rw [length_splice _ _ _ (by have := Hm.out; rw [Hlen.out]; omega), Hlen.out]
          have bF := Lib.hid (blkOf_length _ n I lF hIn)
          have hrb : ∀ V, Kept wr V [] → Rd V (.slice (some ⟨g3, 32 * I, none⟩) 32 (c3 - 32 * I)) (blkOf (splice now s L) I) := by
            intro V hV
            have h := ((O5.out.kept hV (by simp)).rb 0).sub (32 * I) 32 (c3 - 32 * I) (by rw [lF]; omega) (by omega) (by decide)
            rw [Nat.zero_add] at h
            exact h.rd
          have c1 : Hid (∀ V, Kept wr V [] → Calls Try.prog 58 #[.pointer (some ⟨q, 0, none⟩), .int .i64 I, .slice (some ⟨g3, 32 * I, none⟩) 32 (c3 - 32 * I)] V fun e w' => e = .returned (.int .i64 0) ∧ ∃ v', Rf w' B q vs v' n safe (ws ++ blks (splice now s L) i0 (j + 1)) ∧ Fr B rts V w') := Lib.hid (fun V hV => by
            have h := rput_ok (R5.out.frame (Fr.ofKept hV B []) (Nat.le_refl _) (by simp) (by simp) (by simp)) I hIn _ _ (by rw [bF.out]; decide) (hrb V hV) (by have := Hws.out; simp [blks]; omega) (by have := hV.size; omega)
            rw [List.append_assoc, hI, ← blks_succ, ← hI] at h
            exact h)
          have Z1 := Lib.hid dd0
          have HI := Lib.hid hI
          have x6 : 32 * (I : Int) < (s : Int) + (k : Int) := by omega
          have x7 : 32 * (I : Int) + 32 ≤ (c3 : Int) := by omega
          have x8 : ¬ c3 = 32 * I := by omega
          have x9 : (I : Int) ≤ 5000 := by omega
          clear hI lF hrb
          go_wp2
          have y1 : IntKind.i64.wrap (32 * (I : Int)) = 32 * (I : Int) := IntWalk.i64_in _ (by omega)
          have y2 : IntKind.i64.wrap (32 * (I : Int) + 32) = 32 * (I : Int) + 32 := IntWalk.i64_in _ (by omega)
          have y3 : (0 : Int) ≤ 32 * (I : Int) := by omega
          have y4 : (32 * (I : Int)).toNat = 32 * I := by omega
          have y5 : (32 * (I : Int) + 32).toNat = 32 * I + 32 := by omega
          have y6 : (32 * (I : Int)) ≤ 32 * (I : Int) + 32 := by omega
          have y7 : 32 * I + 32 - 32 * I = 32 := by omega
          go_region_held3 (fun W' => W'.cell? ⟨ql, 0, none⟩ = some (.pointer (some ⟨q, 0, none⟩)))
            (first | exact Z1.out | exact Z2)
            ((go_at_call 58; refine (c1.out _ (Kept.refl _ []).drew).mono ?_; rintro e wT ⟨rfl, v6, hr, hf0⟩; have hf := (Fr.refl B rts wr).drew.trans hf0; have R6 := Lib.hid hr; have F6 := Lib.hid hf; have Z2 := ((G5.out.frame hf (by decide)).cell).1; have O6 := Lib.hid (Own.frame O5.out hf (by decide))))
          clear y1 y2 y3 y4 y5 y6 y7
          go_wp2
          go_roundw
          case rel => exact ⟨j + 1, v6, by rw [HI.out]; go_num, by omega, R6.out, O6.out, F5.out.trans F6.out⟩
          case measure => have := HI.out; simp [intOf]; omega
        · obtain rfl : j = C := by omega
          have hge : ¬ 32 * (I : Int) < (s : Int) + (k : Int) := by
            have := cnt_end (s := s) (t := k) hm0
            rw [← HC.out, ← Hi0.out, ← hI] at this
            omega
          have fz : wr.frozen? ⟨ql, 1, none⟩ = false := frozen_of_row _ _ _ _ _ G5.out
          have g9 : RLg (wr.setCell ⟨ql, 1, none⟩ (.int .i64 ((s : Int) + (k : Int)))) ql q (s + k) := by
            have := heap_setCell_at G5.out 1 (.int .i64 ((s : Int) + (k : Int)))
            simpa [RLg] using this
          have f9 : Fr B [54] wr (wr.setCell ⟨ql, 1, none⟩ (.int .i64 ((s : Int) + (k : Int)))) := (Fr.refl B _ wr).setCell G5.out (.inr ⟨hq, by simp⟩) 1 _
          have R9 := Lib.hid (R5.out.frame f9 (Nat.le_refl _) (by decide) (by decide) (by decide))
          have F9 : Hid (Fr B rlts w (wr.setCell ⟨ql, 1, none⟩ (.int .i64 ((s : Int) + (k : Int))))) := Lib.hid ((((Fr.ofKept (K2.out.trans KW.out (by simp)) B rlts).trans (F5.out.mono (Nat.le_refl _) (fun x hx => List.mem_cons_of_mem _ hx)))).trans (f9.mono (Nat.le_refl _) (by simp [rlts])))
          have G9 := Lib.hid g9
          have x9 : (I : Int) ≤ 10000 := by omega
          clear g9 f9 hI
          go_wp2
          go_ret
          refine ⟨rfl, vw2, ?_, ?_, F9.out⟩
          · rw [← Hm.out, ← Hi0.out, ← HC.out]; exact R9.out
          · rw [← Hm.out]; exact G9.out

end Go.Proofs.Ytfhdblbiamdplaa
