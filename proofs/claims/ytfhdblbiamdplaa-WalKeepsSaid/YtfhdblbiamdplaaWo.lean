/-
  The contract of carrierlaw04.same, for lists that are alike.
-/
import Derived.Test.YtfhdblbiamdplaaWn
namespace Go.Proofs.Ytfhdblbiamdplaa
open Go.RowKit

theorem RowsR.at {w : World} {B C : Nat} {v : Value} {L : List (List UInt8)} (h : RowsR w B C v L) (hne : L ≠ []) : ∃ g c, v = .slice (some ⟨g, 0, none⟩) L.length c ∧ L.length ≤ c ∧ ∀ k, (hk : k < L.length) → ∃ a cc, w.cell? ⟨g, k, none⟩ = some (.slice a L[k].length cc) ∧ Rd w (.slice a L[k].length cc) L[k] := by
  obtain ⟨xs, ho, hl, hr⟩ := h
  have hcells := fun g hg => World.ownsRow.cells ho (g := g) hg
  rcases ho.2 with ⟨rfl, h0⟩ | ⟨g, cap, cur, rfl, hb, hg, hnc, hcm, hcs, ht⟩
  · exact absurd (List.eq_nil_of_length_eq_zero h0) hne
  · refine ⟨g, cap, rfl, hnc, fun k hk => ?_⟩
    have hkx : k < xs.length := by omega
    obtain ⟨a, cc, e, _⟩ := id (hr k hkx hk).1
    refine ⟨a, cc, ?_, by rw [← e]; exact (hr k hkx hk).1.rd⟩
    have := hcells g rfl k xs[k] (List.getElem?_eq_getElem hkx)
    rw [e] at this
    simpa [Addr.add_lit] using this

set_option maxHeartbeats 1000000 in
set_option maxRecDepth 100000 in
theorem same_any {w : World} {B C B' C' : Nat} (va vb : Value) (L : List (List UInt8)) (ha : RowsR w B C va L) (hb : RowsR w B' C' vb L) (hL : L.length ≤ 1000000) (hl : ∀ x ∈ L, x.length ≤ 1000000) :
    Calls Try.prog 25 #[va, vb] w fun e w' => e = .returned (.bool true) ∧ Kept w w' [] := by
  by_cases hne : L = []
  · subst hne
    obtain ⟨_, h1, _⟩ := ha
    obtain ⟨_, h2, _⟩ := hb
    obtain ⟨a, c, rfl⟩ := ownsRow_shape h1
    obtain ⟨b, d, rfl⟩ := ownsRow_shape h2
    rw [List.length_nil]
    clear h1 h2
    go_enter Try.func25, Try.ntmps25
    go_wp2
    go_loop [5] (fun t => t = .int .i64 0) (fun _ => 0)
    case atStart => rfl
    case round =>
      subst hrel
      go_wp2
      go_ret
      exact ⟨rfl, Kept.refl _ _⟩
  · obtain ⟨g, c, rfl, hc, hca⟩ := ha.at hne
    obtain ⟨h, d, rfl, hd, hcb⟩ := hb.at hne
    have Ca := Lib.hid hca; have Cb := Lib.hid hcb
    clear hca hcb ha hb
    go_enter Try.func25, Try.ntmps25
    go_wp2
    go_loopw [5] (fun t wr => ∃ k : Nat, t = .int .i64 k ∧ k ≤ L.length ∧ Kept w wr []) (fun t _ => L.length - (intOf t).toNat)
    case atStart => exact ⟨0, rfl, Nat.zero_le _, Kept.refl _ _⟩
    case round =>
      obtain ⟨k, rfl, hk, hkr⟩ := hrel
      have K := Lib.hid hkr; clear hkr
      by_cases hlt : k < L.length
      · obtain ⟨a1, c1, q1, r1⟩ := Ca.out k hlt
        obtain ⟨a2, c2, q2, r2⟩ := Cb.out k hlt
        have hlk := hl L[k] (List.getElem_mem hlt)
        obtain ⟨x, hx⟩ : ∃ x, x = L[k] := ⟨_, rfl⟩
        rw [← hx] at q1 r1 q2 r2 hlk
        have Z := Lib.hid (And.intro q1 q2)
        have HB : Hid (∀ V, Kept w V [] → Calls Try.prog 26 #[.slice a1 x.length c1, .slice a2 x.length c2] V fun e w' => e = .returned (.bool true) ∧ Kept w w' []) := Lib.hid (fun V hV => by
          refine (alike_any _ _ x x V (r1.kept hV (by simp)) (r2.kept hV (by simp)) (by omega)).mono ?_
          rintro e w' ⟨rfl, hk⟩
          exact ⟨by simp, hV.trans hk (by simp)⟩)
        have x1 : (k : Int) < (L.length : Int) := by omega
        have k8 := K.out.drew
        have y2 := And.intro (k8.cell (p := ⟨g, k, none⟩) (by simp) Z.out.1) (k8.cell (p := ⟨h, k, none⟩) (by simp) Z.out.2)
        clear hx q1 q2 r1 r2
        go_wp2_with fail
        go_region_held3 (fun V => V.cell? ⟨g, k, none⟩ = some (.slice a1 x.length c1) ∧ V.cell? ⟨h, k, none⟩ = some (.slice a2 x.length c2)) (exact y2)
          (first
            | (go_at_call 26; refine (HB.out _ ?_).mono ?_; assumption; rintro e w8 ⟨rfl, k8⟩; have y2 := And.intro (k8.cell (p := ⟨g, k, none⟩) (by simp) Z.out.1) (k8.cell (p := ⟨h, k, none⟩) (by simp) Z.out.2)))
        go_wp2
        go_roundw
        case rel => exact ⟨k + 1, by go_num, by omega, k8⟩
        case measure => simp [intOf]; omega
      · have x1 : ¬ (k : Int) < (L.length : Int) := by omega
        go_wp2
        go_ret
        exact ⟨rfl, K.out⟩

end Go.Proofs.Ytfhdblbiamdplaa
