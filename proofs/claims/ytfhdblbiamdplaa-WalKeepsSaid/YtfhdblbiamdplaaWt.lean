/-
  Append of both logs, whatever the record is; what the blocks that it writes make of what was there.
-/
import Derived.Test.YtfhdblbiamdplaaWs
namespace Go.Proofs.Ytfhdblbiamdplaa
open Go.RowKit

theorem blks_length (F : List UInt8) (i k : Nat) : (blks F i k).length = k := by simp [blks]

theorem blks_okw {F : List UInt8} {n i k : Nat} (hF : F.length = 32 * n) (h : i + k ≤ n) : Okw n (blks F i k) := by
  intro x hx
  simp only [blks, List.mem_map, List.mem_range'_1] at hx
  obtain ⟨j, hj, rfl⟩ := hx
  exact ⟨by omega, by rw [blkOf_length F n j hF (by omega)]; decide⟩

theorem laid_blks {F now : List UInt8} {n i : Nat} (hF : F.length = 32 * n) (hn : now.length = 32 * n) : ∀ (k : Nat), i + k ≤ n → ∀ x, (laid now (blks F i k))[x]? = if 32 * i ≤ x ∧ x < 32 * (i + k) then F[x]? else now[x]? := by
  intro k
  induction k with
  | zero =>
    intro _ x
    rw [blks_zero, if_neg (by omega)]
    rfl
  | succ k ih =>
    intro h x
    rw [blks_succ, laid_snoc, lay]
    have hl := laid_length n (blks F i k) now hn (blks_okw hF (by omega))
    have hb := blkOf_length F n (i + k) hF (by omega)
    rw [splice_at _ _ _ (by rw [hl, hb]; omega), hb, ih (by omega), blkOf_at]
    by_cases h1 : 32 * (i + k) ≤ x ∧ x < 32 * (i + k) + 32
    · rw [if_pos h1, if_pos (by omega), if_pos (by omega)]
      congr 1
      omega
    · rw [if_neg h1]
      by_cases h2 : 32 * i ≤ x ∧ x < 32 * (i + k)
      · rw [if_pos h2, if_pos (by omega)]
      · rw [if_neg h2, if_neg (by omega)]

theorem laid_append (L : List UInt8) (xs ys : List (Nat × List UInt8)) : laid L (xs ++ ys) = laid (laid L xs) ys := by simp [laid, List.foldl_append]

theorem cnt_top {n s t : Nat} (h : s + t ≤ 32 * n) : s / 32 + cnt s t ≤ n := by
  unfold cnt
  split
  · rename_i h0; subst h0; omega
  · omega

/-- The blocks that are written make just what was to be written. -/
theorem laid_frame {now L : List UInt8} {n s : Nat} (hn : now.length = 32 * n) (h : s + L.length ≤ 32 * n) (h0 : 0 < L.length) : laid now (blks (splice now s L) (s / 32) (cnt s L.length)) = splice now s L := by
  have hF : (splice now s L).length = 32 * n := by rw [length_splice _ _ _ (by omega)]; exact hn
  apply List.ext_getElem?
  intro x
  rw [laid_blks hF hn _ (cnt_top h)]
  split
  · rfl
  · rename_i h1
    have e := cnt_end (s := s) (t := L.length) h0
    rw [splice_at _ _ _ (by omega), if_neg]
    omega

/-- Is there room for the record, and may it be? -/
def aokB (n s : Nat) (l : List UInt8) : Bool := decide (1 ≤ l.length ∧ l.length ≤ 4000 ∧ s + (6 + l.length) ≤ 32 * n)
def aeI (n s : Nat) (l : List UInt8) : Int := if aokB n s l then 0 else if 1 ≤ l.length ∧ l.length ≤ 4000 then 8 else 1
def anow (n s : Nat) (l now : List UInt8) : List UInt8 := if aokB n s l then splice now s (frameB l) else now
def ablk (n s : Nat) (l now : List UInt8) : List (Nat × List UInt8) := if aokB n s l then blks (splice now s (frameB l)) (s / 32) (cnt s (frameB l).length) else []
def asz (n s : Nat) (l : List UInt8) : Nat := if aokB n s l then s + (frameB l).length else s

theorem aok_yes {n s : Nat} {l : List UInt8} (h : aokB n s l = true) : 1 ≤ l.length ∧ l.length ≤ 4000 ∧ s + (6 + l.length) ≤ 32 * n := by simpa [aokB] using h

theorem ablk_len (n s : Nat) (l now : List UInt8) : (ablk n s l now).length ≤ n := by
  unfold ablk
  split
  · rename_i h
    have := aok_yes h
    rw [blks_length]
    have := cnt_top (n := n) (s := s) (t := (frameB l).length) (by rw [frameB_length]; omega)
    omega
  · exact Nat.zero_le _

theorem asz_le {n s : Nat} (l : List UInt8) (hs : s ≤ 32 * n) : asz n s l ≤ 32 * n := by
  unfold asz
  split
  · rename_i h
    have := aok_yes h
    rw [frameB_length]
    omega
  · exact hs

theorem anow_laid {n s : Nat} {l now : List UInt8} (hn : now.length = 32 * n) : anow n s l now = laid now (ablk n s l now) := by
  unfold anow ablk
  split
  · rename_i h
    have := aok_yes h
    exact (laid_frame hn (by rw [frameB_length]; omega) (by rw [frameB_length]; omega)).symm
  · rfl

/-- What wal's Append leaves, whatever the record is. -/
def App (w : World) (B p gn gs n q s : Nat) (now safe l : List UInt8) (ws : List Wt) (w' : World) : Prop :=
  ∃ v' ws', Dv w' B p gn gs v' n (anow n s l now) safe ws' ∧ pairs ws' = pairs ws ++ ablk n s l now ∧ ws'.length = ws.length + (ablk n s l now).length ∧ Lg w' q p (asz n s l) ∧ Fr B lts w w'
/-- .. and the document's. -/
def RApp (w : World) (B q n ql s : Nat) (vs : Value) (now safe l : List UInt8) (ws : List (Nat × List UInt8)) (w' : World) : Prop :=
  ∃ vw', Rf w' B q vs vw' n safe (ws ++ ablk n s l now) ∧ RLg w' ql q (asz n s l) ∧ Fr B rlts w w'

theorem append_all {w : World} {B p gn gs n q s : Nat} {v : Value} {now safe : List UInt8} {ws : List Wt} (D : Dv w B p gn gs v n now safe ws) (G : Lg w q p s) (hs : s ≤ 32 * n) (vp : Value) (l : List UInt8) (hr : Rd w vp l) (hws : ws.length ≤ 900000) (hB : B ≤ w.heap.size) (hq : B ≤ q) :
    Calls Try.prog 19 #[.pointer (some ⟨q, 0, none⟩), vp] w fun e w' => e = .returned (.int .i64 (aeI n s l)) ∧ App w B p gn gs n q s now safe l ws w' := by
  cases hok : aokB n s l with
  | true =>
    obtain ⟨h1, h2, h3⟩ := aok_yes hok
    refine (append_ok D G vp l hr h1 h2 h3 hws hB hq).mono ?_
    rintro e w' ⟨rfl, v', ws', hd, hp, hl, hg, hf⟩
    refine ⟨by rw [aeI, hok]; rfl, v', ws', ?_, ?_, ?_, ?_, hf⟩
    · rw [anow, hok]; exact hd
    · rw [ablk, hok]; exact hp
    · rw [ablk, hok, if_pos rfl, blks_length]; exact hl
    · rw [asz, hok]; exact hg
  | false =>
    have hno : ¬ (1 ≤ l.length ∧ l.length ≤ 4000 ∧ s + (6 + l.length) ≤ 32 * n) := by rw [aokB, decide_eq_false_iff_not] at hok; exact hok
    have same : ∀ w', Kept w w' [] → App w B p gn gs n q s now safe l ws w' := fun w' hk =>
      ⟨v, ws, by rw [anow, hok]; exact D.frame (Fr.ofKept hk 0 []) (by simp) (by simp) (by simp), by rw [ablk, hok]; simp, by rw [ablk, hok]; simp, by rw [asz, hok]; exact G.frame (Fr.ofKept hk 0 []) (by simp), Fr.ofKept hk _ _⟩
    obtain ⟨a, c, rfl, _⟩ := id hr
    by_cases h : 1 ≤ l.length ∧ l.length ≤ 4000
    · refine (append_full D G hs a l.length c h.1 h.2 (by omega)).mono ?_
      rintro e w' ⟨rfl, hk⟩
      exact ⟨by rw [aeI, hok, if_pos h]; rfl, same w' hk⟩
    · refine (append_bad w a l.length c (by omega)).mono ?_
      rintro e w' ⟨rfl, rfl⟩
      exact ⟨by rw [aeI, hok, if_neg h]; rfl, same w (Kept.refl w [])⟩

theorem rappend_all {w : World} {B q n ql s : Nat} {vs vw : Value} {safe : List UInt8} {ws : List (Nat × List UInt8)} (R : Rf w B q vs vw n safe ws) (G : RLg w ql q s) (now : List UInt8) (hnow : now = laid safe ws) (hs : s ≤ 32 * n) (vp : Value) (l : List UInt8) (hr : Rd w vp l) (hws : ws.length ≤ 900000) (hB : B ≤ w.heap.size) (hq : B ≤ ql) :
    Calls Try.prog 20 #[.pointer (some ⟨ql, 0, none⟩), vp] w fun e w' => e = .returned (.int .i64 (aeI n s l)) ∧ RApp w B q n ql s vs now safe l ws w' := by
  cases hok : aokB n s l with
  | true =>
    obtain ⟨h1, h2, h3⟩ := aok_yes hok
    refine (rappend_ok R G now hnow vp l hr h1 h2 h3 hws hB hq).mono ?_
    rintro e w' ⟨rfl, vw', hd, hg, hf⟩
    refine ⟨by rw [aeI, hok]; rfl, vw', ?_, ?_, hf⟩
    · rw [ablk, hok]; exact hd
    · rw [asz, hok]; exact hg
  | false =>
    have hno : ¬ (1 ≤ l.length ∧ l.length ≤ 4000 ∧ s + (6 + l.length) ≤ 32 * n) := by rw [aokB, decide_eq_false_iff_not] at hok; exact hok
    have same : ∀ w', Kept w w' [] → RApp w B q n ql s vs now safe l ws w' := fun w' hk =>
      ⟨vw, by rw [ablk, hok]; simpa using R.frame (Fr.ofKept hk B []) (Nat.le_refl _) (by simp) (by simp) (by simp), by rw [asz, hok]; exact G.frame (Fr.ofKept hk 0 []) (by simp), Fr.ofKept hk _ _⟩
    obtain ⟨a, c, rfl, _⟩ := id hr
    by_cases h : 1 ≤ l.length ∧ l.length ≤ 4000
    · refine (rappend_full R G hs _ l hr h.1 h.2 (by omega)).mono ?_
      rintro e w' ⟨rfl, hk⟩
      exact ⟨by rw [aeI, hok, if_pos h]; rfl, same w' hk⟩
    · refine (rappend_bad w a l.length c (by omega)).mono ?_
      rintro e w' ⟨rfl, rfl⟩
      exact ⟨by rw [aeI, hok, if_neg h]; rfl, same w (Kept.refl w [])⟩

end Go.Proofs.Ytfhdblbiamdplaa
