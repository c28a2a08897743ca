/-
  The contracts of bytes.Equal, HasPrefix, Clone; of wal's content and first.
-/
import Derived.Test.YtfhdblbiamdplaaWb
import Derived.Test.YtfhdblbiamdplaaLKit
import Derived.Deep.QuietTactic
import Derived.BigQuiet
namespace Go.Proofs.Ytfhdblbiamdplaa
open Go.RowKit

/-- 'string(b)' of bytes that can be read. -/
theorem run_str0 {P : Program} (w : World) (src dst e : TypeId) (hs : P.underlying src = some (.slice e)) (he : P.underlying e = some (.int .u8)) (hd : P.underlying dst = some .string) (v : Value) (l : List UInt8) (h : Rd w v l) :
    (convert src dst v).run P w = .ok (.string ⟨l.toArray⟩) w := by
  obtain ⟨a, c, rfl, hc, ha, hl⟩ := h
  cases a with
  | none =>
    obtain rfl := ha rfl
    obtain rfl : l = [] := List.eq_nil_of_length_eq_zero (by omega)
    rw [run_convert_bytes_string w src dst e _ _ _ hs he hd]
    rfl
  | some x =>
    by_cases hne : l = []
    · subst hne
      exact run_str w src dst e hs he hd x c [] 0 rfl (by simp [bc])
    · obtain ⟨b, o, hx, hcell⟩ := hl hne
      obtain rfl := Option.some.inj hx
      refine run_str w src dst e hs he hd _ c l l.length rfl (fun j u hu => ?_)
      obtain ⟨hj, rfl⟩ := bc_get l j u hu
      rw [Addr.add_lit]
      exact hcell j hj

theorem beq_any (va vb : Value) (l m : List UInt8) (w : World) (ha : Rd w va l) (hb : Rd w vb m) :
    Calls Try.prog 72 #[va, vb] w fun e w' => e = .returned (.bool (l == m)) ∧ w = w' := by
  have h1 := run_str0 (P := Try.prog) w 36 9 5 Try.underlying36 Try.underlying5 Try.underlying9 va l ha
  have h2 := run_str0 (P := Try.prog) w 36 9 5 Try.underlying36 Try.underlying5 Try.underlying9 vb m hb
  obtain ⟨a, c, rfl, _⟩ := ha
  obtain ⟨b, d, rfl, _⟩ := hb
  go_enter Try.func72, Try.ntmps72
  go_wp2
  go_ret
  exact ⟨rfl, rfl⟩

/-- A part of what can be read. -/
theorem Rd.sub {w : World} {b o n c : Nat} {l : List UInt8} (h : Rd w (.slice (some ⟨b, o, none⟩) n c) l) (k m c' : Nat) (hk : k + m ≤ l.length) (hc : m ≤ c') : Rd w (.slice (some ⟨b, o + k, none⟩) m c') ((l.drop k).take m) := by
  have hlen : ((l.drop k).take m).length = m := by simp; omega
  refine ⟨_, c', by rw [hlen], by omega, by simp, fun hne => ?_⟩
  have hpos : 0 < m := by rw [← hlen]; exact List.length_pos_iff.2 hne
  obtain ⟨a, d, hv, _, _, hl⟩ := h
  simp only [Value.slice.injEq] at hv
  obtain ⟨rfl, rfl, rfl⟩ := hv
  obtain ⟨b', o', e1, hcell⟩ := hl (by rintro rfl; simp at hk; omega)
  simp only [Option.some.injEq, Addr.mk.injEq, and_true] at e1
  obtain ⟨rfl, rfl⟩ := e1
  refine ⟨b, o + k, rfl, fun i hi => ?_⟩
  rw [hlen] at hi
  rw [Nat.add_assoc, hcell (k + i) (by omega)]
  congr 3
  simp only [List.getD]
  rw [List.getElem?_take, if_pos hi, List.getElem?_drop]

theorem frameB_length (p : List UInt8) : (frameB p).length = 6 + p.length := by simp [frameB, hd2, s4]; omega

/-- The record of the frame with which these bytes begin; none, if they don't begin with one. -/
def firstN (b : List UInt8) : Nat := 256 * (b.getD 0 0).toNat + (b.getD 1 0).toNat
def firstB (b : List UInt8) : List UInt8 :=
  if b.length < 6 then [] else
  if 4000 < firstN b ∨ b.length < firstN b + 6 then [] else
  if frameB ((b.drop 6).take (firstN b)) = b.take (6 + firstN b) then (b.drop 6).take (firstN b) else []

set_option maxHeartbeats 1000000 in
set_option maxRecDepth 100000 in
theorem prefix_any (va vb : Value) (l m : List UInt8) (w : World) (ha : Rd w va l) (hb : Rd w vb m) (hlm : m.length ≤ l.length) (hm0 : 0 < m.length) (hl : l.length ≤ 1000000) :
    Calls Try.prog 79 #[va, vb] w fun e w' => e = .returned (.bool (l.take m.length == m)) ∧ w = w' := by
  have Hb := Lib.hid hb; have Ha := Lib.hid ha
  obtain ⟨a, c, rfl, hc, _, hla⟩ := ha
  obtain ⟨b, d, rfl, hd, _⟩ := hb
  obtain ⟨ab, ao, rfl, _⟩ := hla (by rintro rfl; have : m.length ≤ 0 := hlm; omega)
  have R := Lib.hid (Ha.out.sub 0 m.length c (by omega) (by omega))
  rw [List.drop_zero, Nat.add_zero] at R
  have x1 : (m.length : Int) ≤ (l.length : Int) := by omega
  have x2 : (m.length : Int) ≤ (c : Int) := by omega
  clear hla
  go_enter Try.func79, Try.ntmps79
  go_wp2_with fail
  refine (beq_any _ _ _ m w R.out Hb.out).mono ?_
  rintro e w1 ⟨rfl, rfl⟩
  go_wp2
  go_ret
  exact ⟨rfl, rfl⟩

set_option maxHeartbeats 2000000 in
set_option maxRecDepth 100000 in
theorem first_any (v : Value) (b : List UInt8) (w : World) (h : Rd w v b) (hb : b.length ≤ 1000000) :
    Calls Try.prog 70 #[v] w fun e w' => ∃ v', e = .returned v' ∧ Rd w' v' (firstB b) ∧ Kept w w' [] := by
  have H := Lib.hid h
  obtain ⟨a, c, rfl, hc, _, hl⟩ := h
  by_cases h6 : b.length < 6
  · have R := Lib.hid (show firstB b = [] by rw [firstB, if_pos h6])
    have x1 : (b.length : Int) < 6 := by omega
    clear hl
    go_enter Try.func70, Try.ntmps70
    go_wp2
    go_ret
    exact ⟨_, rfl, by rw [R.out]; exact Rd.nil w, Kept.refl w []⟩
  · have x1 : ¬ (b.length : Int) < 6 := by omega
    obtain ⟨bb, bo, rfl, hcell⟩ := hl (by rintro rfl; simp at h6)
    have c0 := hcell 0 (by omega)
    have c1 := hcell 1 (by omega)
    rw [Nat.add_zero] at c0
    have F := Lib.hid (show firstB b = if 4000 < firstN b ∨ b.length < firstN b + 6 then [] else if frameB ((b.drop 6).take (firstN b)) = b.take (6 + firstN b) then (b.drop 6).take (firstN b) else [] by rw [firstB, if_neg h6])
    obtain ⟨n, hn⟩ : ∃ n, n = firstN b := ⟨_, rfl⟩
    rw [← hn] at F
    unfold firstN at hn
    obtain ⟨y0, hy0⟩ : ∃ y, y = b.getD 0 0 := ⟨_, rfl⟩
    obtain ⟨y1, hy1⟩ : ∃ y, y = b.getD 1 0 := ⟨_, rfl⟩
    rw [← hy0] at c0 hn
    rw [← hy1] at c1 hn
    have hb0 := UInt8.toNat_lt y0
    have hb1 := UInt8.toNat_lt y1
    have x2 : (1 : Int) < (b.length : Int) := by omega
    have x3 : (0 : Int) < (b.length : Int) := by omega
    have e0 : (y0.toNat : Int) * 256 + (y1.toNat : Int) = (n : Int) := by omega
    have e2 : wrap64 ((y0.toNat : Int) * 256) = (y0.toNat : Int) * 256 := by simp only [wrap64]; omega
    have e3 : wrap64 ((y0.toNat : Int) * 256 + (y1.toNat : Int)) = (n : Int) := by simp only [wrap64]; omega
    have e4 : IntKind.i64.wrap ((y0.toNat : Int) * 256) = (y0.toNat : Int) * 256 := IntWalk.i64_in _ (by omega)
    have e5 : IntKind.i64.wrap ((y0.toNat : Int) * 256 + (y1.toNat : Int)) = (n : Int) := by rw [IntWalk.i64_in _ (by omega)]; exact e0
    have hn17 : n < 65536 := by omega
    clear hy0 hy1 hcell hl hn h6
    by_cases h4 : 4000 < n
    · have R := Lib.hid (show firstB b = [] by rw [F.out, if_pos (.inl h4)])
      have x4 : (4000 : Int) < (n : Int) := by omega
      go_enter Try.func70, Try.ntmps70
      go_wp2
      go_quiet (fail)
      go_wp2
      go_ret
      exact ⟨_, rfl, by rw [R.out]; exact Rd.nil _, (Kept.refl w []).drewN _⟩
    · have x4 : ¬ (4000 : Int) < (n : Int) := by omega
      by_cases h7 : b.length < n + 6
      · have R := Lib.hid (show firstB b = [] by rw [F.out, if_pos (.inr h7)])
        have x5 : (b.length : Int) - 6 < (n : Int) := by omega
        go_enter Try.func70, Try.ntmps70
        go_wp2
        go_quiet (fail)
        go_wp2
        go_ret
        exact ⟨_, rfl, by rw [R.out]; exact Rd.nil _, (Kept.refl w []).drewN _⟩
      · have x5 : ¬ (b.length : Int) - 6 < (n : Int) := by omega
        have R := Lib.hid (F.out.trans (if_neg (by omega)))
        have P := Lib.hid (H.out.sub 6 n (c - 6) (by omega) (by omega))
        obtain ⟨q, hq⟩ : ∃ q, q = (b.drop 6).take n := ⟨_, rfl⟩
        rw [← hq] at P R
        have hql : q.length = n := by rw [hq]; simp; omega
        have x6 : (n : Int) ≤ (c : Int) - 6 := by omega
        have x7 : (6 : Int) ≤ (b.length : Int) := by omega
        have x8 : (b.length : Int) ≤ (c : Int) := by omega
        have Hql := Lib.hid hql
        have y4 : (n : Int) ≤ 4000 := by omega
        have y5 : (n : Int) ≤ (b.length : Int) - 6 := by omega
        clear hq hql
        by_cases hc6 : c = 6
        · have hn0 : n = 0 := by omega
          subst hc6
          subst hn0
          obtain rfl : q = [] := List.eq_nil_of_length_eq_zero Hql.out
          have P := Lib.hid (show Rd w (.slice (some ⟨bb, bo, none⟩) 0 0) [] from ⟨_, 0, rfl, Nat.le_refl _, by simp, fun h => absurd rfl h⟩)
          go_enter Try.func70, Try.ntmps70
          go_wp2
          go_quiet (fail)
          go_wp2_with fail
          refine (frame_any _ [] _ (P.out.kept ((Kept.refl w []).drewN _) (by simp)) (by rw [Hql.out]; omega)).mono ?_
          rintro e w2 ⟨v2, rfl, ho, hk⟩
          have O := Lib.hid ho; have K2 := Lib.hid (((Kept.refl w []).drewN _).trans hk (by simp))
          obtain ⟨a2, n2, c2, hv2⟩ := Own.shape3 ho
          subst hv2
          clear ho hk
          go_wp2_with fail
          refine (prefix_any _ _ b (frameB []) w2 (H.out.kept K2.out (by simp)) O.out.rd (by rw [frameB_length, Hql.out]; omega) (by rw [frameB_length]; omega) hb).mono ?_
          rintro e w3 ⟨rfl, rfl⟩
          by_cases hp : frameB [] = b.take (6 + 0)
          · have y : (b.take (frameB []).length == frameB []) = true := by rw [frameB_length, Hql.out, ← hp]; simp
            have R2 := Lib.hid (R.out.trans (if_pos hp))
            clear hp
            go_wp2
            go_ret
            exact ⟨_, rfl, by rw [R2.out]; exact P.out.kept K2.out (by simp), K2.out⟩
          · have y : (b.take (frameB []).length == frameB []) = false := by rw [frameB_length, Hql.out, beq_eq_false_iff_ne]; exact fun h => hp h.symm
            have R2 := Lib.hid (R.out.trans (if_neg hp))
            clear hp
            go_wp2
            go_ret
            exact ⟨_, rfl, by rw [R2.out]; exact Rd.nil _, K2.out⟩
        · skip
          go_enter Try.func70, Try.ntmps70
          go_wp2
          go_quiet (fail)
          go_wp2_with fail
          refine (frame_any _ q _ (P.out.kept ((Kept.refl w []).drewN _) (by simp)) (by rw [Hql.out]; omega)).mono ?_
          rintro e w2 ⟨v2, rfl, ho, hk⟩
          have O := Lib.hid ho; have K2 := Lib.hid (((Kept.refl w []).drewN _).trans hk (by simp))
          obtain ⟨a2, n2, c2, hv2⟩ := Own.shape3 ho
          subst hv2
          clear ho hk
          go_wp2_with fail
          refine (prefix_any _ _ b (frameB q) w2 (H.out.kept K2.out (by simp)) O.out.rd (by rw [frameB_length, Hql.out]; omega) (by rw [frameB_length]; omega) hb).mono ?_
          rintro e w3 ⟨rfl, rfl⟩
          by_cases hp : frameB q = b.take (6 + n)
          · have y : (b.take (frameB q).length == frameB q) = true := by rw [frameB_length, Hql.out, ← hp]; simp
            have R2 := Lib.hid (R.out.trans (if_pos hp))
            clear hp
            go_wp2
            go_ret
            exact ⟨_, rfl, by rw [R2.out]; exact P.out.kept K2.out (by simp), K2.out⟩
          · have y : (b.take (frameB q).length == frameB q) = false := by rw [frameB_length, Hql.out, beq_eq_false_iff_ne]; exact fun h => hp h.symm
            have R2 := Lib.hid (R.out.trans (if_neg hp))
            clear hp
            go_wp2
            go_ret
            exact ⟨_, rfl, by rw [R2.out]; exact Rd.nil _, K2.out⟩

end Go.Proofs.Ytfhdblbiamdplaa
