/-
  What was synced is found: plain lists. Frames one behind the other are scanned as they were written; blocks that a synced frame shares are written with the same bytes.
-/
import Derived.Test.YtfhdblbiamdplaaWw
namespace Go.Proofs.Ytfhdblbiamdplaa
open Go.RowKit

/-- The frames of records, one behind the other. -/
def frs (L : List (List UInt8)) : List UInt8 := L.flatMap frameB
theorem frs_length : ∀ (L : List (List UInt8)), (frs L).length = szs L
  | [] => rfl
  | x :: r => by
    have h := frs_length r
    simp only [frs, List.flatMap_cons, List.length_append, frameB_length, szs, List.map_cons, List.sum_cons] at h ⊢
    omega
theorem frs_snoc (L : List (List UInt8)) (x : List UInt8) : frs (L ++ [x]) = frs L ++ frameB x := by simp [frs]

theorem toNat_ofNat (n : Nat) : (UInt8.ofNat n).toNat = n % 256 := by rw [UInt8.toNat_ofNat']

theorem frame_cons (x r : List UInt8) : frameB x ++ r = UInt8.ofNat (x.length / 256) :: UInt8.ofNat x.length :: (s4 (sumN (hd2 x.length ++ x)) ++ x ++ r) := by
  simp [frameB, hd2]

theorem s4_length (c : Nat) : (s4 c).length = 4 := rfl

/-- A frame's record is found again. -/
theorem first_frame {x r : List UInt8} (h1 : 1 ≤ x.length) (h2 : x.length ≤ 4000) : firstB (frameB x ++ r) = x := by
  have hn : firstN (frameB x ++ r) = x.length := by
    rw [firstN, frame_cons]
    simp only [List.getD_cons_zero, List.getD_cons_succ, toNat_ofNat]
    omega
  have hl : (frameB x ++ r).length = 6 + x.length + r.length := by rw [List.length_append, frameB_length]
  have hd : ((frameB x ++ r).drop 6).take x.length = x := by
    rw [frame_cons]
    rw [List.drop_succ_cons, List.drop_succ_cons, List.append_assoc]
    have e : (s4 (sumN (hd2 x.length ++ x)) ++ (x ++ r)).drop 4 = x ++ r := by
      rw [List.drop_append_of_le_length (by rw [s4_length]; exact Nat.le_refl 4), List.drop_of_length_le (by rw [s4_length]; exact Nat.le_refl 4), List.nil_append]
    rw [e, List.take_left]
  have ht : (frameB x ++ r).take (6 + x.length) = frameB x := by
    rw [← frameB_length, List.take_left]
  rw [firstB, if_neg (by omega), hn, if_neg (by omega), hd, ht, if_pos rfl]

/-- Frames one behind the other. -/
theorem scan_frs (r : List UInt8) : ∀ (L : List (List UInt8)), (∀ x ∈ L, 1 ≤ x.length ∧ x.length ≤ 4000) → scan (frs L ++ r) = L ++ scan r
  | [], _ => rfl
  | x :: L, h => by
    have hx := h x (by simp)
    have ih := scan_frs r L (fun y hy => h y (by simp [hy]))
    have e : frs (x :: L) ++ r = frameB x ++ (frs L ++ r) := by simp [frs]
    have hf := first_frame (r := frs L ++ r) hx.1 hx.2
    rw [e, scan_cons (by rw [hf]; rintro h0; rw [h0] at hx; simp at hx), hf]
    have ed : (frameB x ++ (frs L ++ r)).drop (6 + x.length) = frs L ++ r := by rw [← frameB_length, List.drop_left]
    rw [ed, ih]
    rfl

/-- The first s bytes are the frames of these records. -/
structure Kp (now : List UInt8) (acc : List (List UInt8)) (s : Nat) : Prop where
  hs : s = szs acc
  ht : now.take s = frs acc
  hb : ∀ x ∈ acc, 1 ≤ x.length ∧ x.length ≤ 4000

theorem Kp.nil {now : List UInt8} : Kp now [] 0 := ⟨rfl, by simp [frs], fun x hx => by simp at hx⟩

/-- One record more, if it is taken. -/
def aacc (n s : Nat) (l : List UInt8) (acc : List (List UInt8)) : List (List UInt8) := if aokB n s l then acc ++ [l] else acc

theorem Kp.app {now l : List UInt8} {acc : List (List UInt8)} {n s : Nat} (h : Kp now acc s) (hn : now.length = 32 * n) : Kp (anow n s l now) (aacc n s l acc) (asz n s l) := by
  cases hok : aokB n s l with
  | false => rw [anow, aacc, asz, hok]; exact h
  | true =>
    obtain ⟨h1, h2, h3⟩ := aok_yes hok
    rw [anow, aacc, asz, hok]
    refine ⟨by simp only [if_pos]; rw [szs_snoc, frameB_length, ← h.hs], ?_, ?_⟩
    · simp only [if_pos]
      rw [frs_snoc, ← h.ht, splice]
      have e : (now.take s).length = s := by simp; omega
      have e2 : (now.take s ++ frameB l).length = s + (frameB l).length := by rw [List.length_append, e]
      rw [← List.append_assoc]
      exact List.take_left' e2
    · intro x hx
      simp only [if_pos] at hx
      rcases List.mem_append.1 hx with hx | hx
      · exact h.hb x hx
      · rw [List.mem_singleton] at hx
        subst hx
        exact ⟨h1, h2⟩

/-- Writes that leave the first s bytes as they are in 'safe'. -/
def Low (s : Nat) (safe : List UInt8) (ys : List (Nat × List UInt8)) : Prop := ∀ y ∈ ys, ∀ x, x < y.2.length → 32 * y.1 + x < s → y.2[x]? = safe[32 * y.1 + x]?

theorem Low.laid {s n : Nat} {safe : List UInt8} (hs : safe.length = 32 * n) : ∀ (ys : List (Nat × List UInt8)) (L : List UInt8), L.length = 32 * n → Okw n ys → Low s safe ys → (∀ x, x < s → L[x]? = safe[x]?) → ∀ x, x < s → (laid L ys)[x]? = safe[x]?
  | [], L, _, _, _, h, x, hx => h x hx
  | y :: r, L, hL, ho, hl, h, x, hx => by
    have hy := ho y (by simp)
    refine Low.laid hs r (lay L y.1 y.2) (by rw [lay_length _ _ _ (by omega)]; exact hL) ho.tail (fun z hz => hl z (by simp [hz])) (fun x hx => ?_) x hx
    rw [lay, splice_at _ _ _ (by omega)]
    split
    · rename_i h1
      rw [hl y (by simp) (x - 32 * y.1) (by omega) (by omega)]
      congr 1
      omega
    · exact h x hx

theorem Low.left {s : Nat} {safe : List UInt8} (lost : List Bool) (torn : Int) (m : Nat) : ∀ (ys : List (Nat × List UInt8)) (k : Nat), Low s safe ys → Low s safe (left lost torn m k ys)
  | [], k, h => by rw [Go.Proofs.Ytfhdblbiamdplaa.left]; exact h
  | y :: r, k, h => by
    have ih := Low.left lost torn m r (k + 1) (fun z hz => h z (by simp [hz]))
    rw [Go.Proofs.Ytfhdblbiamdplaa.left]
    split
    · exact ih
    · intro z hz x hx1 hx2
      rcases List.mem_cons.1 hz with rfl | hz
      · simp only at hx1 hx2 ⊢
        split at hx1
        · rename_i hm
          rw [if_pos hm]
          simp only [List.length_take] at hx1
          rw [List.getElem?_take, if_pos (by omega)]
          exact h y (by simp) x (by omega) hx2
        · rename_i hm
          rw [if_neg hm]
          exact h y (by simp) x hx1 hx2
      · exact ih z hz x hx1 hx2

theorem Low.append {s : Nat} {safe : List UInt8} {xs ys : List (Nat × List UInt8)} (h1 : Low s safe xs) (h2 : Low s safe ys) : Low s safe (xs ++ ys) := fun y hy => by
  rcases List.mem_append.1 hy with h | h
  · exact h1 y h
  · exact h2 y h

theorem Low.ablk {s0 s n : Nat} {safe l now : List UInt8} (hn : now.length = 32 * n) (hs : s0 ≤ s) (h : ∀ x, x < s0 → now[x]? = safe[x]?) : Low s0 safe (ablk n s l now) := by
  intro y hy x hx1 hx2
  unfold Go.Proofs.Ytfhdblbiamdplaa.ablk at hy
  split at hy
  · rename_i hok
    obtain ⟨_, _, h3⟩ := aok_yes hok
    simp only [blks, List.mem_map] at hy
    obtain ⟨j, _, rfl⟩ := hy
    simp only at hx1 hx2 ⊢
    have hx32 : x < 32 := by
      have : (blkOf (splice now s (frameB l)) j).length ≤ 32 := by simp [blkOf]; omega
      omega
    rw [blkOf_at, if_pos hx32, splice_at _ _ _ (by rw [frameB_length]; omega), if_neg (by omega)]
    exact h _ hx2
  · simp at hy

theorem anow_low {s n x : Nat} {l now : List UInt8} (hn : now.length = 32 * n) (hx : x < s) : (anow n s l now)[x]? = now[x]? := by
  unfold anow
  split
  · rename_i hok
    obtain ⟨_, _, h3⟩ := aok_yes hok
    rw [splice_at _ _ _ (by rw [frameB_length]; omega), if_neg (by omega)]
  · rfl

/-- What was synced is found. -/
theorem found_first {X safe : List UInt8} {was : List (List UInt8)} {s : Nat} (h : Kp safe was s) (hx : ∀ x, x < s → X[x]? = safe[x]?) : ∃ rest, scan X = was ++ rest := by
  have e : X.take s = safe.take s := by
    apply List.ext_getElem?
    intro x
    rw [List.getElem?_take, List.getElem?_take]
    split
    · exact hx x ‹_›
    · rfl
  have e2 : X = frs was ++ X.drop s := by rw [← h.ht, ← e, List.take_append_drop]
  refine ⟨scan (X.drop s), ?_⟩
  have h2 := scan_frs (X.drop s) was h.hb
  rw [← e2] at h2
  exact h2

end Go.Proofs.Ytfhdblbiamdplaa
