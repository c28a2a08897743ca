/-
  Slices of the call's own whose rows are whosoever's ('RowsA'); Append of both, told in full.
-/
import Derived.Test.YtfhdblbiamdplaaWx
namespace Go.Proofs.Ytfhdblbiamdplaa
open Go.RowKit

/-- A slice of the call's own, of rows that can be read. -/
def RowsA (w : World) (B C : Nat) (v : Value) (L : List (List UInt8)) : Prop :=
  ∃ xs, w.ownsRow B 36 1 v L.length xs ∧ xs.length = L.length ∧ ∀ (i : Nat) (h : i < xs.length) (h' : i < L.length), Rb w C 5 xs[i] L[i]

theorem RowsA.nil (w : World) (B C : Nat) : RowsA w B C (.slice none 0 0) [] := ⟨[], World.ownsRow_nil _ _ _ _, rfl, fun i h => by simp at h⟩

theorem RowsA.frame {w w' : World} {B C D : Nat} {v : Value} {L : List (List UInt8)} {ts : List TypeId} (h : RowsA w B C v L) (hf : Fr D ts w w') (hC : C ≤ D) (h1 : 36 ∉ ts) (h2 : 5 ∉ ts) : RowsA w' B C v L := by
  obtain ⟨xs, ho, hl, hr⟩ := h
  exact ⟨xs, ownsRow_frame ho hf h1, hl, fun i h3 h4 => (hr i h3 h4).frame hf hC h2⟩

theorem RowsA.keep {w w' : World} {B C : Nat} {v : Value} {L : List (List UInt8)} (h : RowsA w B C v L) (hk : Kept w w' []) : RowsA w' B C v L := h.frame (Fr.ofKept hk C []) (Nat.le_refl _) (by simp) (by simp)

theorem RowsA.rows {w : World} {B C : Nat} {v : Value} {L : List (List UInt8)} (h : RowsA w B C v L) : RowsR w 0 C v L := by
  obtain ⟨xs, ho, hl, hr⟩ := h
  refine ⟨xs, ⟨ho.1, ?_⟩, hl, fun i h3 h4 => ⟨hr i h3 h4, fun b _ => Nat.zero_le b⟩⟩
  rcases ho.2 with h2 | ⟨g, cap, cur, rfl, _, r⟩
  · exact .inl h2
  · exact .inr ⟨g, cap, cur, rfl, Nat.zero_le _, r⟩

theorem RowsA.shape {w : World} {B C : Nat} {v : Value} {L : List (List UInt8)} (h : RowsA w B C v L) : ∃ a c, v = .slice a L.length c ∧ L.length ≤ c := by
  obtain ⟨xs, ho, _⟩ := h
  obtain ⟨a, c, rfl⟩ := ownsRow_shape ho
  refine ⟨a, c, rfl, ?_⟩
  rcases ho.2 with ⟨hv, h0⟩ | ⟨g, cap, cur, hv, _, _, hnc, _⟩
  · omega
  · simp only [Value.slice.injEq] at hv
    omega

/-- One row more. -/
theorem RowsA.app {w w' : World} {B C : Nat} {v' x : Value} {L : List (List UInt8)} {l : List UInt8} {xs : List Value} (hl : xs.length = L.length) (hr : ∀ (i : Nat) (h : i < xs.length) (h' : i < L.length), Rb w C 5 xs[i] L[i]) (hx : Rb w C 5 x l)
    (ho : w'.ownsRow B 36 1 v' (L.length + 1) (xs ++ [x])) (hf : Fr B [36] w w') (hC : C ≤ B) : RowsA w' B C v' (L ++ [l]) := by
  refine ⟨xs ++ [x], by rw [List.length_append]; exact ho, by simp [hl], fun i h1 h2 => ?_⟩
  by_cases hi : i < xs.length
  · rw [List.getElem_append_left hi, List.getElem_append_left (by omega)]
    exact (hr i hi (by omega)).frame hf hC (by decide)
  · simp at h1 h2
    have e : i = xs.length := by omega
    subst e
    rw [List.getElem_append_right (Nat.le_refl _)]
    simp only [Nat.sub_self, List.getElem_cons_zero]
    have e2 : (L ++ [l])[xs.length]'(by simp; omega) = l := by
      rw [List.getElem_append_right (by omega)]
      simp [hl]
    rw [e2]
    exact hx.frame hf hC (by decide)

/-- The same rows in another slice. -/
theorem RowsA.copy {w w' : World} {B C : Nat} {v' : Value} {L : List (List UInt8)} {xs : List Value} (hl : xs.length = L.length) (hr : ∀ (i : Nat) (h : i < xs.length) (h' : i < L.length), Rb w C 5 xs[i] L[i])
    (ho : w'.ownsRow B 36 1 v' L.length xs) (hf : Fr B [36] w w') (hC : C ≤ B) : RowsA w' B C v' L :=
  ⟨xs, ho, hl, fun i h1 h2 => (hr i h1 h2).frame hf hC (by decide)⟩

theorem rb_one {w : World} {C : Nat} {x : Value} {l : List UInt8} (h : Rb w C 5 x l) : x.oneCell' = true := by
  obtain ⟨a, c, rfl, _⟩ := h
  rfl

/-- What such a slice yields to an append. -/
theorem rowsA_src {P : Program} {w : World} {B C : Nat} {v : Value} {L : List (List UInt8)} {xs : List Value} {tx e' : TypeId} (hk : P.underlying tx = some (.slice e')) (ho : w.ownsRow B 36 1 v L.length xs) (hl : xs.length = L.length) (hr : ∀ (i : Nat) (h : i < xs.length) (h' : i < L.length), Rb w C 5 xs[i] L[i]) : Src P 1 tx v L.length xs w := by
  rcases ho.2 with ⟨rfl, h0⟩ | ⟨g, cap, cur, rfl, _⟩
  · have hx : xs = [] := List.eq_nil_of_length_eq_zero (by omega)
    rw [hx, h0]
    exact Src.ofNil w hk 0
  · refine Src.ofSlice w hk ⟨g, 0, none⟩ L.length cap xs (by omega) (fun j u hu => World.ownsRow.cells ho (g := g) rfl j u hu) (fun u hu => ?_)
    obtain ⟨i, hi, rfl⟩ := List.getElem_of_mem hu
    exact rb_one (hr i hi (by omega))

/-- The first rows. -/
theorem rowsR_take {w : World} {B C k n c : Nat} {a : Option Addr} {L : List (List UInt8)} (h : RowsR w B C (.slice a n c) L) (hk : k ≤ L.length) : RowsR w B C (.slice a k c) (L.take k) := by
  obtain ⟨xs, ho, hl, hr⟩ := h
  refine ⟨xs.take k, ?_, by simp; omega, fun i h1 h2 => ?_⟩
  · have hlt : (L.take k).length = k := by simp; omega
    rw [hlt]
    refine ⟨by simp; omega, ?_⟩
    rcases ho.2 with ⟨hv, h0⟩ | ⟨g, cap, cur, hv, hbg, hg, hnc, hcm, hcs, htk⟩
    · simp only [Value.slice.injEq] at hv
      obtain ⟨rfl, _, rfl⟩ := hv
      have : k = 0 := by omega
      subst this
      exact .inl ⟨rfl, rfl⟩
    · simp only [Value.slice.injEq] at hv
      obtain ⟨rfl, _, rfl⟩ := hv
      refine .inr ⟨g, c, cur, rfl, hbg, hg, by omega, hcm, hcs, ?_⟩
      rw [← htk, List.take_take]
      congr 1
      omega
  · simp at h1 h2
    rw [List.getElem_take, List.getElem_take]
    exact hr i (by omega) (by omega)

/-- Append of both, the document's first. -/
theorem wp_appendD {w1 wx w2 w3 : World} {p gn gs q n lg rl s m : Nat} {now safe l : List UInt8} {ws : List Wt} {v vs vw : Value} (h : Wp w1 wx p gn gs q n lg rl now safe ws v vs vw s m)
    (h1 : RApp wx w1.heap.size q n rl s vs now safe l (pairs ws) w2) (h2 : App w2 w1.heap.size p gn gs n lg s now safe l ws w3) :
    ∃ ws' v' vw', Wp w1 w3 p gn gs q n lg rl (anow n s l now) safe ws' v' vs vw' (asz n s l) (m + n) ∧ pairs ws' = pairs ws ++ ablk n s l now := by
  obtain ⟨vw', hr, hh, hf⟩ := h1
  obtain ⟨v', ws', hd, hp, hl, hg, hf2⟩ := h2
  refine ⟨ws', v', vw', { D := hd, R := by rw [hp]; exact hr.frame hf2 (Nat.le_refl _) (by decide) (by decide) (by decide), N := ?_, G := hg, H := hh.frame hf2 (by decide), hs := asz_le l h.hs, bl := h.bl, br := h.br, hm := ?_, K := kept_fr (kept_fr h.K hf) hf2 }, hp⟩
  · rw [hp, laid_append, ← h.N, anow_laid h.D.ln]
  · have := ablk_len n s l now; have := h.hm; omega

theorem asz_ge (n s : Nat) (l : List UInt8) : s ≤ asz n s l := by
  unfold asz
  split <;> omega

theorem ae_ok {n s : Nat} {l : List UInt8} : (aeI n s l == 0) = aokB n s l := by
  unfold aeI
  cases aokB n s l with
  | true => rfl
  | false =>
    simp only [Bool.false_eq_true, if_false]
    split <;> rfl

end Go.Proofs.Ytfhdblbiamdplaa
