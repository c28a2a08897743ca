/-
  Both logs opened: what is there then.
-/
import Derived.Test.YtfhdblbiamdplaaWv
namespace Go.Proofs.Ytfhdblbiamdplaa
open Go.RowKit

/-- Both opened, on devices of the same blocks on which none waits. -/
theorem wp_opened {w1 w2 w3 w4 : World} {p gn gs q n lg rl : Nat} {X : List UInt8} {vs vr vr2 : Value} (hK : Kept w1 w2 []) (hR : Rf w3 w1.heap.size q vs (.slice none 0 0) n X [])
    (h1 : Opened w2 w1.heap.size p gn gs n X X [] lg vr w3) (h2 : ROpened w3 w1.heap.size q n X X [] rl vr2 w4) :
    (∃ safe v vs' vw', Wp w1 w4 p gn gs q n lg rl (clr X) safe [] v vs' vw' (szs (scan X)) 0) ∧ RowsR w4 w2.heap.size 0 vr (scan X) ∧ RowsR w4 w3.heap.size 0 vr2 (scan X) := by
  obtain ⟨v', safe', ws', hd, hl, ha, hb, hf, hg, hq, hrow⟩ := h1
  obtain ⟨vs2, vw2, safe2, ws2, hr, hl2, ha2, hb2, hf2, hg2, hq2, hrow2⟩ := h2
  have hlen : X.length = 32 * n := hR.ls
  have hsz : szs (scan X) ≤ 32 * n := by have := szs_scan X.length X (Nat.le_refl _); omega
  have hz := hK.size
  have hz2 := hf.size
  have key : safe2 = safe' ∧ ws' = [] ∧ ws2 = [] := by
    by_cases e : X = clr X
    · obtain ⟨e1, e2⟩ := ha e
      obtain ⟨e3, e4⟩ := ha2 e
      exact ⟨by rw [e1, e3], e2, e4⟩
    · obtain ⟨e1, e2⟩ := hb e
      obtain ⟨e3, e4⟩ := hb2 e
      exact ⟨by rw [e1, e3], e2, e4⟩
  obtain ⟨rfl, rfl, rfl⟩ := key
  refine ⟨⟨safe2, v', vs2, vw2, { D := hd.frame hf2 (by decide) (by decide) (by decide), R := hr, N := hl, G := hg.frame hf2 (by decide), H := hg2, hs := hsz, bl := by omega, br := by omega, hm := Nat.le_refl _, K := kept_fr (kept_fr hK hf) hf2 }⟩, ?_, hrow2⟩
  exact hrow.frame hf2 (Nat.zero_le _) (by decide) (by decide)

theorem clr_behind (X : List UInt8) (x : Nat) (h : szs (scan X) ≤ x) : (clr X).getD x 0 = 0 := by rw [clr_at, if_neg (by omega)]

end Go.Proofs.Ytfhdblbiamdplaa
