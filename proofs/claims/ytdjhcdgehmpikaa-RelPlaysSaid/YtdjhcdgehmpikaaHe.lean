/-
  mayWrite; slices.IndexFunc at versions, with any predicate; first, seenFirst.
-/
import Derived.Test.YtdjhcdgehmpikaaHd
import Derived.LoopTactic
namespace Go.Proofs.Ytdjhcdgehmpikaa
open Go.RowKit Go.Maps

theorem ret_i {a b : Int} (h : a = b) : Ending.returned (.int .i64 a) = .returned (.int .i64 b) := by rw [h]

/-- May one write? -/
def mwE (st : List Nat) (own : Int) : Int := if stAt st own = 1 then 0 else 7

variable {w : World} {B p h b mb : Nat} {v : Value} {S : Int → Value} {st : List Nat} {ks : List Int} {F : Int → List Vr}

theorem mayWrite_any (a : Sx w B p h b mb v S st ks F) (mx own : Int) (sa : Option Addr) (sn sc : Nat) (hx : (Lit.int .i64 own).wf = true) :
    Calls Try.prog 58 #[.pointer (some ⟨h, 0, none⟩), vw mx (.slice sa sn sc) own] w fun e w' => e = .returned (.int .i64 (mwE st own)) ∧ Kept w w' [] := by
  have K1 := Lib.hid ((Kept.refl w []).alloc (.cells #[.int .i64 mx, .slice sa sn sc, .int .i64 own] 51))
  have cm := missing_any (a.keep K1.out)
  obtain ⟨c0, c1⟩ := (a.keep K1.out).hp.cell
  obtain ⟨W1, hW1⟩ : ∃ W1, W1 = w.alloc (.cells #[.int .i64 mx, .slice sa sn sc, .int .i64 own] 51) := ⟨_, rfl⟩
  obtain ⟨n, hn⟩ : ∃ n, stAt st own = n := ⟨_, rfl⟩
  have HS : Hid (∀ k, Calls Try.prog 67 #[.pointer (some ⟨p, 0, none⟩), .int .i64 own] (W1.drewN k) fun e w' => e = .returned (.int .u8 n) ∧ w' = W1.drewN k) := Lib.hid (fun k => by
    rw [← hn, hW1]
    exact (mstate_any ((a.keep K1.out).keep ((Kept.refl _ []).drewN k)).mg own hx).mono fun _ _ h => ⟨h.1, h.2.symm⟩)
  have R : Hid (mwE st own = if n = 1 then 0 else 7) := Lib.hid (by rw [mwE, hn])
  have d2 : W1.cell? ⟨w.heap.size, 2, none⟩ = some (.int .i64 own) := by
    rw [hW1, cell_of_row _ _ 2 _ _ _ (heap_alloc_new w _)]; rfl
  rw [← hW1] at cm c0 K1
  unfold vw
  clear a hx hn c1
  by_cases h1 : n = 1
  · subst h1
    go_enter Try.func58, Try.ntmps58
    go_wp2_with fail
    rw [← hW1]
    clear hW1
    refine cm.mono ?_
    rintro e w' ⟨rfl, rfl⟩
    go_wp2
    go_quiet ((go_at_call 67; exact Calls.quiet_of_same (HS.out _)))
    go_wp2
    go_ret
    exact ⟨ret_i R.out.symm, K1.out.drewN _⟩
  · have h2 : ¬ (n : Int) = 1 := by omega
    rw [if_neg h1] at R
    clear h1
    go_enter Try.func58, Try.ntmps58
    go_wp2_with fail
    rw [← hW1]
    clear hW1
    refine cm.mono ?_
    rintro e w' ⟨rfl, rfl⟩
    go_wp2
    go_quiet ((go_at_call 67; exact Calls.quiet_of_same (HS.out _)))
    go_wp2
    go_ret
    exact ⟨ret_i R.out.symm, K1.out.drewN _⟩

/-- Where the first one is of which P holds; -1: there is none. -/
def idx (P : Vr → Bool) (l : List Vr) : Int := match l.findIdx? P with | some i => i | none => -1

theorem idx_hit {P : Vr → Bool} {l : List Vr} {k : Nat} {r : Vr} (hr : l[k]? = some r) (hp : P r = true) (hb : ∀ j s, j < k → l[j]? = some s → P s = false) : l.findIdx? P = some k := by
  obtain ⟨hk, e⟩ := List.getElem?_eq_some_iff.1 hr
  rw [List.findIdx?_eq_some_iff_getElem]
  refine ⟨hk, by rw [e]; exact hp, fun j hj => ?_⟩
  rw [hb j l[j] hj (List.getElem?_eq_getElem _)]
  simp

theorem idx_miss {P : Vr → Bool} {l : List Vr} (hb : ∀ j s, j < l.length → l[j]? = some s → P s = false) : l.findIdx? P = none := by
  rw [List.findIdx?_eq_none_iff]
  intro s hs
  obtain ⟨j, hj, e⟩ := List.mem_iff_getElem.1 hs
  exact hb j s hj (by rw [List.getElem?_eq_getElem hj, e])

/-- What a predicate is asked: in any world that keeps all. -/
def Pays (w : World) (key : Int) (l : List Vr) (c : Nat) (lb : Array Value) (P : Vr → Bool) : Prop :=
  ∀ r ∈ l, ∀ V, Kept w V [] → Calls Try.prog c (#[.agg #[.int .i64 key, .string r.txt, .int .i64 r.birth, .int .i64 r.death]] ++ lb) V fun e w' => e = .returned (.bool (P r)) ∧ Kept V w' []

theorem row_cells {w : World} {key : Int} {base g n c : Nat} {l : List Vr} (ho : w.ownsRow base 124 4 (.slice (some ⟨g, 0, none⟩) n c) l.length (vcl key l)) {k : Nat} {r : Vr} (hr : l[k]? = some r) :
    w.cell? ⟨g, k * 4, none⟩ = some (.int .i64 key) ∧ w.cell? ⟨g, k * 4 + 1, none⟩ = some (.string r.txt) ∧ w.cell? ⟨g, k * 4 + 2, none⟩ = some (.int .i64 r.birth) ∧ w.cell? ⟨g, k * 4 + 3, none⟩ = some (.int .i64 r.death) := by
  have cell : ∀ j u, j < 4 → (vcs key r)[j]? = some u → w.cell? ⟨g, k * 4 + j, none⟩ = some u := fun j u hj hu => by
    have := World.ownsRow.cells ho (g := g) rfl (k * 4 + j) u (by rw [vcl_get key l k j r hr hj]; exact hu)
    simpa [Addr.add_lit] using this
  exact ⟨cell 0 _ (by decide) rfl, cell 1 _ (by decide) rfl, cell 2 _ (by decide) rfl, cell 3 _ (by decide) rfl⟩

set_option maxHeartbeats 1000000 in
theorem indexFunc_any {w : World} {base : Nat} {key : Int} (l : List Vr) (sv : Value) (ho : w.ownsRow base 124 4 sv l.length (vcl key l)) (c : Nat) (lb : Array Value) (P : Vr → Bool) (ec : ∀ args w, (callFunc c args).run Try.prog w = .ok (.enter c args) w) (hc : Pays w key l c lb P) :
    Calls Try.prog 83 #[sv, .func (.func c) #[] lb] w fun e w' => e = .returned (.int .i64 (idx P l)) ∧ Kept w w' [] := by
  have HO := Lib.hid ho
  have HC := Lib.hid hc
  clear hc
  rcases ho.2 with ⟨rfl, h0⟩ | ⟨g, cap, cur, rfl, _, _, hnc, hcm, _, _⟩
  · obtain rfl : l = [] := List.eq_nil_of_length_eq_zero h0
    clear ho
    go_enter Try.func83, Try.ntmps83
    go_wp2
    go_loop [5, 8] (fun _ t => t = .int .i64 0) (fun _ _ => 0)
    case atStart => rfl
    case round =>
      subst hrel
      go_wp2
      go_ret
      exact ⟨rfl, Kept.refl w []⟩
  · have hlen : l.length ≤ 9223372036854775807 := by unfold maxLen at hcm; omega
    clear ho hnc hcm
    go_enter Try.func83, Try.ntmps83
    go_wp2
    go_loopw [5, 8] (fun _ t wr => ∃ k : Nat, t = .int .i64 k ∧ k ≤ l.length ∧ Kept w wr [] ∧ (∀ j s, j < k → l[j]? = some s → P s = false)) (fun _ t _ => l.length - (intOf t).toNat)
    case atStart => exact ⟨0, rfl, Nat.zero_le _, Kept.refl w [], fun j s hj => absurd hj (Nat.not_lt_zero _)⟩
    case round =>
      obtain ⟨k, rfl, hk, hkw, hx⟩ := hrel
      have Hx := Lib.hid hx; have K := Lib.hid hkw
      clear hx hkw
      by_cases hlt : k < l.length
      · obtain ⟨r, hr⟩ : ∃ r, l[k]? = some r := ⟨_, List.getElem?_eq_getElem hlt⟩
        obtain ⟨c0, c1, c2, c3⟩ := row_cells (ownsRow_fr HO.out (Fr.ofKept K.out 0 []) (by simp)) hr
        have HR := Lib.hid hr
        have x1 : (k : Int) < (l.length : Int) := by omega
        have call := HC.out r (List.mem_of_getElem? hr) wr K.out
        obtain ⟨q, hq⟩ : ∃ q, P r = q := ⟨_, rfl⟩
        rw [hq] at call
        have HQ := Lib.hid hq
        clear hr hq
        obtain ⟨txt, rb, rd⟩ := r
        simp only at c0 c1 c2 c3 call
        cases q
        · go_wp2_with (go_at_fn c; refine call.mono ?_; rintro e w2 ⟨rfl, k2⟩)
          go_roundw
          case rel =>
            refine ⟨k + 1, by go_num, by omega, K.out.trans k2 (by simp), fun j s hj hs => ?_⟩
            by_cases e : j = k
            · subst e
              rw [HR.out] at hs
              cases hs
              exact HQ.out
            · exact Hx.out j s (by omega) hs
          case measure => simp [intOf]; omega
        · have R : Hid (idx P l = k) := Lib.hid (by rw [idx, idx_hit HR.out HQ.out Hx.out])
          go_wp2_with (go_at_fn c; refine call.mono ?_; rintro e w2 ⟨rfl, k2⟩)
          go_ret
          exact ⟨ret_i R.out.symm, K.out.trans k2 (by simp)⟩
      · have x1 : ¬ (k : Int) < (l.length : Int) := by omega
        have R : Hid (idx P l = -1) := Lib.hid (by rw [idx, idx_miss (fun j s hj hs => Hx.out j s (by omega) hs)])
        go_wp2
        go_ret
        exact ⟨ret_i R.out.symm, K.out⟩

end Go.Proofs.Ytdjhcdgehmpikaa
