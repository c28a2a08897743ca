/-
  The document's spools: All, Forget.
-/
import Derived.Test.YtalplhhmghnggaaSrb
namespace Go.Proofs.Ytalplhhmghnggaa
set_option linter.unusedVariables false
open Go.RowKit

variable {w w' : World} {B h c : Nat} {V : Nat → Value} {l : Nat → List Ev}

set_option maxHeartbeats 2000000 in
set_option maxRecDepth 100000 in
theorem rall_any (a : Sp spR w B h V l c) (hl : ∀ i, i < 3 → (l i).length < 1000000) (hs : (pre l 3).length < 1000000) :
    Calls Try.prog 21 #[.pointer (some ⟨h, 0, none⟩)] w fun e w' => ∃ v', e = .returned v' ∧ OwnE w' w.heap.size 36 v' (srt byId (pre l 3)) ∧ Kept w w' [] := by
  obtain ⟨i0, hi0, hz0, hz1, hzb⟩ := info_parts Try.infoEv
  have I := Lib.hid (And.intro hi0 (And.intro hz0 (And.intro hz1 hzb)))
  have A := Lib.hid a
  have HP := Lib.hid (pre_length l hl)
  have HLn := Lib.hid hl
  have HSn := Lib.hid hs
  clear a hl hs hi0 hz0 hz1 hzb
  go_enter Try.func21, Try.ntmps21
  go_wp2
  go_loopg [3, 4] 3 (fun kx s3 s4 wr => ∃ (k : Nat) (v : Value), s4 = .int .i64 k ∧ s3 = v ∧ k ≤ 3 ∧ 3 - k ≤ kx ∧ RowKit.Hid (OwnE wr w.heap.size 36 v (pre l k) ∧ Kept w wr []))
  case atStart => exact ⟨0, _, rfl, rfl, by omega, by omega, OwnE.nil _ _ _, Kept.refl _ _⟩
  case round =>
    obtain ⟨k, v, rfl, rfl, hk3, hkx, HO⟩ := hrel
    by_cases hlt : k < 3
    · have x1 : (k : Int) < 3 := by omega
      have x2 : ¬ (3 : Int) ≤ (k : Int) := by omega
      obtain ⟨u, cp, e⟩ := A.out.shape k hlt
      have ck := ((A.out.keep HO.out.2).cell k hlt).1
      have rk := ((A.out.keep HO.out.2).own k hlt).rd
      rw [e] at ck rk
      have RK := Lib.hid rk
      obtain ⟨m, hm⟩ : ∃ m, m = (l k).length := ⟨_, rfl⟩
      have hmb : m < 1000000 := by have := HLn.out k hlt; omega
      rw [← hm] at ck
      have HM := Lib.hid hm
      obtain ⟨n, hn⟩ : ∃ n, n = (pre l k).length := ⟨_, rfl⟩
      have hn3 : n ≤ 3000000 := by have := HP.out k hk3; omega
      have HN := Lib.hid hn
      have hbr : w.heap.size ≤ wr.heap.size := HO.out.2.size
      clear rk hm hn e
      go_wp2_with (at_builtin; refine wpList_append_src _ rfl (.tmp 9) (.tmp 15) 27 27 rfl w.heap.size 36 i0 _ 8 80 Try.underlying27 I.out.1 I.out.2.1 I.out.2.2.1 I.out.2.2.2 rfl _ n (ecs (pre l k)) rfl ?hown _ m (ecs (l k)) rfl ?src (by unfold maxLen; omega) (by omega) hbr ?next)
      case hown => have := HO.out.1; unfold OwnE at this; rw [← HN.out] at this; exact this
      case src => have := RK.out.src (P := Try.prog) Try.underlying27; rw [← HM.out] at this; exact this
      case next =>
        intro v2 w2 hown hgrow; intros
        have ho : OwnE w2 w.heap.size 36 v2 (pre l (k + 1)) := by unfold OwnE; rw [pre, ecs_append, List.length_append, ← HN.out, ← HM.out]; exact hown
        have hk : Kept w w2 [] := HO.out.2.grown hgrow (fun k hk => .inr (HO.out.1.lt k hk).1)
        have Ho := Lib.hid (And.intro ho hk)
        clear ho hk hown hgrow ck HO
        go_wp2
        go_roundg (3 - (k + 1))
        case measure => omega
        case rel => exact ⟨k + 1, v2, by go_num, rfl, by omega, by omega, Ho⟩
    · have x1 : ¬ (k : Int) < 3 := by omega
      obtain rfl : k = 3 := by omega
      have hc := rsort_any HO.out.1.rd HSn.out
      have HC := Lib.hid hc
      have HK := Lib.hid HO.out.2
      clear hc
      go_wp2_with fail
      refine HC.out.mono ?_
      rintro e w2 ⟨v2, rfl, o2, k2⟩
      have hz := HK.out.size
      have O2 := Lib.hid (o2.mono hz); have K2 := Lib.hid (HK.out.trans k2 (by simp))
      clear o2 k2
      go_wp2
      go_ret
      exact ⟨_, rfl, O2.out, K2.out⟩

/-- How many are a transaction's, in the first k tables. -/
def cntX (x : Int) (l : Nat → List Ev) : Nat → Nat
  | 0 => 0
  | k + 1 => cntX x l k + ((l k).filter fun r => ofX x r).length

theorem flt_not {α : Type} (p : α → Bool) (l : List α) : (l.filter fun a => !p a).length + (l.filter p).length = l.length := by
  induction l with
  | nil => rfl
  | cons a t ih =>
    cases h : p a
    · rw [List.filter_cons, List.filter_cons, h]
      simp only [Bool.not_false, if_true, Bool.false_eq_true, if_false, List.length_cons]
      omega
    · rw [List.filter_cons, List.filter_cons, h]
      simp only [Bool.not_true, if_true, Bool.false_eq_true, if_false, List.length_cons]
      omega
theorem cntX_3 (x : Int) (l : Nat → List Ev) : cntX x l 3 = lenN l - lenN (forL x l) := by
  have h0 := flt_not (fun r => ofX x r) (l 0)
  have h1 := flt_not (fun r => ofX x r) (l 1)
  have h2 := flt_not (fun r => ofX x r) (l 2)
  simp only [cntX, lenN, forL]
  omega
theorem cntX_le (x : Int) (l : Nat → List Ev) (hl : ∀ i, i < 3 → (l i).length < 1000000) (k : Nat) (hk : k ≤ 3) : cntX x l k ≤ k * 1000000 := by
  induction k with
  | zero => simp [cntX]
  | succ k ih =>
    have h1 := ih (by omega)
    have h2 := List.length_filter_le (fun r => ofX x r) (l k)
    have h3 := hl k (by omega)
    simp only [cntX]
    omega

theorem hit_take {P : Ev → Bool} {m : List Ev} {j : Nat} {r : Ev} (h : m[j]? = some r) (hp : P r = true) : (m.take (j + 1)).filter P = (m.take j).filter P ++ [r] := by
  simp [List.take_add_one, h, hp]
theorem miss_take {P : Ev → Bool} {m : List Ev} {j : Nat} {r : Ev} (h : m[j]? = some r) (hp : P r = false) : (m.take (j + 1)).filter P = (m.take j).filter P := by
  simp [List.take_add_one, h, hp]

set_option maxHeartbeats 4000000 in
set_option maxRecDepth 100000 in
theorem rforget_any (a : Sp spR w B h V l c) (hl : ∀ i, i < 3 → (l i).length < 1000000) (x : Int) :
    Calls Try.prog 15 #[.pointer (some ⟨h, 0, none⟩), .int .i64 x] w fun e w' => e = .returned (.int .i64 (lenN l - lenN (forL x l) : Nat)) ∧ ∃ V', Sp spR w' B h V' (forL x l) c ∧ Stp (sfoot h V) (sfoot h V') w w' := by
  obtain ⟨i0, hi0, hz0, hz1, hzb⟩ := info_parts Try.infoEv
  have I := Lib.hid (And.intro hi0 (And.intro hz0 (And.intro hz1 hzb)))
  have A := Lib.hid (show Sp spR w B h V (flK x l 0) c from a.congr (fun i _ => by unfold flK; rw [if_neg (by omega)]))
  have HLn := Lib.hid hl
  have HCN := Lib.hid (cntX_le x l hl)
  rw [← cntX_3]
  clear a hl hi0 hz0 hz1 hzb
  go_enter Try.func15, Try.ntmps15
  go_wp2
  go_loopg [5, 6, 7, 8] 3 (fun kx s5 s6 _ _ wr => ∃ (k : Nat) (Vk : Nat → Value), s6 = .int .i64 k ∧ s5 = .int .i64 (cntX x l k : Nat) ∧ k ≤ 3 ∧ 3 - k ≤ kx ∧ RowKit.Hid (Sp spR wr B h Vk (flK x l k) c ∧ Stp (sfoot h V) (sfoot h Vk) w wr))
  case atStart => exact ⟨0, V, rfl, rfl, by omega, by omega, A.out, Stp.refl _ _⟩
  case round =>
    obtain ⟨k, Vk, rfl, rfl, hk3, hkx, HO⟩ := hrel
    obtain ⟨wo, hwo⟩ : ∃ wo, wo = wr := ⟨_, rfl⟩
    subst hwo
    by_cases hlt : k < 3
    · have x1 : (k : Int) < 3 := by omega
      have x2 : ¬ (3 : Int) ≤ (k : Int) := by omega
      have ek : flK x l k k = l k := by unfold flK; rw [if_neg (by omega)]
      obtain ⟨u, cp, e⟩ := HO.out.1.shape k hlt
      rw [ek] at e
      have RK := Lib.hid (fun W (hk : Kept wo W []) => (show W.cell? ⟨h, k, none⟩ = some (.slice u (l k).length cp) ∧ RdE W (.slice u (l k).length cp) (l k) from by
        have := HO.out.1.keep hk
        have h1 := (this.cell k hlt).1
        have h2 := (this.own k hlt).rd
        rw [e] at h1 h2
        rw [ek] at h2
        exact ⟨h1, h2⟩))
      obtain ⟨m, hm⟩ : ∃ m, m = (l k).length := ⟨_, rfl⟩
      have hmb : m < 1000000 := by have := HLn.out k hlt; omega
      rw [← hm] at RK
      have HM := Lib.hid hm
      obtain ⟨N, hN⟩ : ∃ N, N = cntX x l k := ⟨_, rfl⟩
      have hNb : N ≤ 3000000 := by have := HCN.out k hk3; omega
      have HN := Lib.hid hN
      rw [← hN]
      have ck := (RK.out wo (Kept.refl _ _)).1
      clear hm hN e ek
      go_wp2
      go_loopg [5, 7, 8] m (fun kx s5 s7 s8 wz => ∃ (j n : Nat) (v : Value), s8 = .int .i64 j ∧ v = s7 ∧ s5 = .int .i64 n ∧ j ≤ m ∧ n ≤ N + j ∧ m - j ≤ kx ∧ RowKit.Hid (n = N + (((l k).take j).filter fun r => ofX x r).length ∧ OwnE wz wo.heap.size 36 v (((l k).take j).filter fun r => !ofX x r) ∧ Kept wo wz []))
      case atStart => exact ⟨0, N, _, rfl, rfl, rfl, by omega, by omega, by omega, by simp, by rw [List.take_zero]; exact OwnE.nil _ _ _, Kept.refl _ _⟩
      case round =>
        clear ck
        obtain ⟨j, n, v, rfl, rfl, rfl, hj, hn, hkz, HZ⟩ := hrel
        obtain ⟨ck, rk⟩ := RK.out wr HZ.out.2.2
        by_cases hjm : j < m
        · have x3 : (j : Int) < (m : Int) := by omega
          obtain ⟨r, hr⟩ : ∃ r, (l k)[j]? = some r := ⟨_, List.getElem?_eq_getElem (by rw [← HM.out]; exact hjm)⟩
          obtain ⟨bm, om, rfl, c0, c1, c2, c3, c4, c5, c6, c7⟩ := rk.eight hr
          have HR := Lib.hid hr
          clear hr
          by_cases hx : r.tx = x
          · have hx1 : (r.tx == x) = true := beq_iff_eq.2 hx
            have HH := Lib.hid (show ofX x r = true from hx1)
            have R := Lib.hid (show n + 1 = N + (((l k).take (j + 1)).filter fun r => ofX x r).length ∧ OwnE wr wo.heap.size 36 v (((l k).take (j + 1)).filter fun r => !ofX x r) ∧ Kept wo wr [] from ⟨by
              rw [hit_take (P := fun r => ofX x r) HR.out HH.out, List.length_append, HZ.out.1]
              simp only [List.length_cons, List.length_nil]
              omega, by rw [miss_take (P := fun r => !ofX x r) HR.out (by simp [HH.out])]; exact HZ.out.2.1, HZ.out.2.2⟩)
            clear hx rk
            generalize r.tx = rt at c1 hx1
            go_wp2
            go_roundg (m - (j + 1))
            case measure => omega
            case rel => exact ⟨j + 1, n + 1, _, by go_num, rfl, by go_num, by omega, by omega, by omega, R⟩
          · have hx1 : (r.tx == x) = false := beq_eq_false_iff_ne.2 hx
            have HH := Lib.hid (show ofX x r = false from hx1)
            obtain ⟨q, hq⟩ : ∃ q, q = (((l k).take j).filter fun r => !ofX x r).length := ⟨_, rfl⟩
            have hqb : q ≤ m := by
              have h1 := List.length_filter_le (fun r => !ofX x r) ((l k).take j)
              have h2 := List.length_take_le j (l k)
              omega
            have HQ := Lib.hid hq
            have hbr : wo.heap.size ≤ wr.heap.size := HZ.out.2.2.size
            clear hx hq rk
            obtain ⟨rc, hrc⟩ : ∃ rc, rc = r := ⟨_, rfl⟩
            obtain ⟨b0, b1, b2, b3, b4, b5, b6, b7⟩ := r
            simp only at c0 c1 c2 c3 c4 c5 c6 c7 hx1
            have HRC := Lib.hid hrc
            have SB := Lib.hid (show Src Try.prog 8 27 (.slice (some ⟨wr.heap.size, 0, none⟩) 1 1) 1 [.int .i64 b0, .int .i64 b1, .string b2, .int .i64 b3, .int .i64 b4, .int .u8 b5, .int .i64 b6, .string b7] (wr.alloc (.cells #[.int .i64 b0, .int .i64 b1, .string b2, .int .i64 b3, .int .i64 b4, .int .u8 b5, .int .i64 b6, .string b7] 36)) from src_ev wr ⟨b0, b1, b2, b3, b4, b5, b6, b7⟩)
            clear hrc
            go_wp2_with (at_builtin; refine wpList_append_src _ rfl (.tmp 38) (.tmp 48) 27 27 rfl wo.heap.size 36 i0 _ 8 80 Try.underlying27 I.out.1 I.out.2.1 I.out.2.2.1 I.out.2.2.2 rfl _ q (ecs (((l k).take j).filter fun r => !ofX x r)) rfl ?hown _ 1 [.int .i64 b0, .int .i64 b1, .string b2, .int .i64 b3, .int .i64 b4, .int .u8 b5, .int .i64 b6, .string b7] rfl SB.out (by unfold maxLen; omega) (by omega) (by simp; omega) ?next)
            case hown => have := World.ownsRow.alloc HZ.out.2.1 (.cells #[.int .i64 b0, .int .i64 b1, .string b2, .int .i64 b3, .int .i64 b4, .int .u8 b5, .int .i64 b6, .string b7] 36); rw [← HQ.out] at this; exact this
            case next =>
              intro v2 w2 hown hgrow; intros
              have ho : OwnE w2 wo.heap.size 36 v2 (((l k).take (j + 1)).filter fun r => !ofX x r) := by
                rw [hit_take (P := fun r => !ofX x r) HR.out (by rw [HH.out]; rfl)]
                unfold OwnE
                rw [← ecs_snoc, List.length_append, ← HQ.out]
                exact hown
              have hk : Kept wo w2 [] := (HZ.out.2.2.alloc _).grown hgrow (fun k hk => .inr (HZ.out.2.1.lt k hk).1)
              have R := Lib.hid (show n = N + (((l k).take (j + 1)).filter fun r => ofX x r).length ∧ _ ∧ _ from ⟨by rw [miss_take (P := fun r => ofX x r) HR.out HH.out]; exact HZ.out.1, ho, hk⟩)
              clear ho hk hown hgrow c0 c1 c2 c3 c4 c5 c6 c7
              go_wp2
              go_roundg (m - (j + 1))
              case measure => omega
              case rel => exact ⟨j + 1, n, v2, by go_num, rfl, rfl, by omega, by omega, by omega, R⟩
        · have x3 : ¬ (j : Int) < (m : Int) := by omega
          obtain rfl : j = m := by omega
          obtain ⟨u9, c9, hv9⟩ := HZ.out.2.1.shape
          subst hv9
          obtain ⟨z1, z2, z3⟩ := HZ.out
          rw [List.take_of_length_le (by rw [HM.out]; exact Nat.le_refl _)] at z1 z2
          obtain ⟨⟨_, fk⟩, s1, s2⟩ := HO.out.1.lay0 (by decide) hlt z3 (z2.mono HO.out.1.size) (fun k hk => (z2.lt k hk).1)
          rw [← List.take_of_length_le (l := l k) (i := j) (by rw [HM.out]; exact Nat.le_refl _)] at s1 s2
          have S := Lib.hid (And.intro (s1.congr (m := flK x l (k + 1)) (fun i hi => by
            by_cases e : i = k
            · subst e
              rw [upd_same, List.take_of_length_le (by rw [HM.out]; exact Nat.le_refl _)]
              unfold flK forL
              rw [if_pos (by omega)]
            · rw [upd_ne _ _ e]
              unfold flK
              by_cases h : i < k
              · rw [if_pos h, if_pos (by omega)]
              · rw [if_neg h, if_neg (by omega)])) (HO.out.2.trans s2))
          have HNN := Lib.hid (show n = cntX x l (k + 1) from by rw [z1, HN.out]; rfl)
          clear z1 z2 z3 s1 s2 rk
          go_wp2
          go_roundg (3 - (k + 1))
          case measure => omega
          case rel => exact ⟨k + 1, _, by go_num, by rw [← HNN.out], by omega, by omega, S⟩
    · have x1 : ¬ (k : Int) < 3 := by omega
      obtain rfl : k = 3 := by omega
      go_wp2
      go_ret
      exact ⟨rfl, Vk, HO.out.1.congr (fun i hi => by unfold flK; rw [if_pos hi]), HO.out.2⟩

end Go.Proofs.Ytalplhhmghnggaa
