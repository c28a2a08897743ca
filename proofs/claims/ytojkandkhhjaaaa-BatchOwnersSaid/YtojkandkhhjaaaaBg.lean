/-
  Slices of snapshots that can be read; slices.IndexFunc and ContainsFunc at snapshots and at events.
-/
import Derived.Test.YtojkandkhhjaaaaBf
namespace Go.Proofs.Ytojkandkhhjaaaa
set_option linter.unusedVariables false
open Go.RowKit Go.Maps

/-- A snapshot: its Max, its Open as it stands in memory, and the numbers there. -/
structure Sv where
  M : Int
  v : Value
  l : List Int

/-- The slice v can be read: its elements are the snapshots ss. -/
def RdS (w : World) (v : Value) (ss : List Sv) : Prop :=
  ∃ a c, v = .slice a ss.length c ∧ (∀ i s, ss[i]? = some s → ∃ b o, a = some ⟨b, o, none⟩ ∧ w.cell? ⟨b, o + i * 2, none⟩ = some (.int .i64 s.M) ∧ w.cell? ⟨b, o + i * 2 + 1, none⟩ = some s.v) ∧ ∀ s ∈ ss, RdI w s.v s.l

theorem RdS.keep {w w' : World} {v : Value} {ss : List Sv} (h : RdS w v ss) (k : Kept w w' []) : RdS w' v ss := by
  obtain ⟨a, c, rfl, h1, h2⟩ := h
  refine ⟨a, c, rfl, fun i s hs => ?_, fun s hs => (h2 s hs).keep k⟩
  obtain ⟨b, o, rfl, c0, c1⟩ := h1 i s hs
  exact ⟨b, o, rfl, k.cell (by simp) c0, k.cell (by simp) c1⟩

theorem RdS.all {w : World} {v : Value} {ss : List Sv} (h : RdS w v ss) : ∀ s ∈ ss, RdI w s.v s.l := by
  obtain ⟨_, _, _, _, h2⟩ := h
  exact h2

/-- Where the first one is of which P holds; -1: there is none. -/
def idxB {α : Type} (P : α → Bool) (l : List α) : Int := match l.findIdx? P with | some i => i | none => -1

theorem idx_hit {α : Type} {P : α → Bool} {l : List α} {k : Nat} {r : α} (hr : l[k]? = some r) (hp : P r = true) (hb : ∀ j s, j < k → l[j]? = some s → P s = false) : idxB P l = k := by
  obtain ⟨hk, e⟩ := List.getElem?_eq_some_iff.1 hr
  have : l.findIdx? P = some k := by
    rw [List.findIdx?_eq_some_iff_getElem]
    refine ⟨hk, by rw [e]; exact hp, fun j hj => ?_⟩
    rw [hb j l[j] hj (List.getElem?_eq_getElem _)]
    simp
  rw [idxB, this]

theorem idx_miss {α : Type} {P : α → Bool} {l : List α} (hb : ∀ j s, j < l.length → l[j]? = some s → P s = false) : idxB P l = -1 := by
  have : l.findIdx? P = none := by
    rw [List.findIdx?_eq_none_iff]
    intro s hs
    obtain ⟨j, hj, e⟩ := List.mem_iff_getElem.1 hs
    exact hb j s hj (by rw [List.getElem?_eq_getElem hj, e])
  rw [idxB, this]

theorem idx_any {α : Type} (P : α → Bool) (l : List α) : (decide (idxB P l ≥ 0)) = l.any P := by
  unfold idxB
  cases h : l.findIdx? P with
  | some i =>
    have : l.any P = true := by
      obtain ⟨hi, hp, _⟩ := List.findIdx?_eq_some_iff_getElem.1 h
      exact List.any_eq_true.2 ⟨l[i], List.getElem_mem hi, hp⟩
    rw [this]; simp
  | none =>
    have : l.any P = false := by
      rw [List.findIdx?_eq_none_iff] at h
      rw [List.any_eq_false]
      intro x hx
      simp [h x hx]
    rw [this]; simp

/-- What a predicate on snapshots, on events, is asked. -/
def PaysS (w : World) (ss : List Sv) (c : Nat) (lb : Array Value) (P : Sv → Bool) : Prop :=
  ∀ (s : Sv) (V : World), s ∈ ss → Kept w V [] → Calls Try.prog c (#[.agg #[.int .i64 s.M, s.v]] ++ lb) V fun e w' => e = .returned (.bool (P s)) ∧ Kept V w' []
def PaysV (w : World) (l : List Ev) (c : Nat) (lb : Array Value) (P : Ev → Bool) : Prop :=
  ∀ (r : Ev) (V : World), r ∈ l → Kept w V [] → Calls Try.prog c (#[.agg r.cs] ++ lb) V fun e w' => e = .returned (.bool (P r)) ∧ Kept V w' []

set_option maxHeartbeats 2000000 in
theorem sindex_any {w : World} {sv : Value} {l : List Sv} (ho : RdS w sv l) (hlen : l.length < 1000000) (c : Nat) (lb : Array Value) (P : Sv → Bool) (ec : ∀ args w, (callFunc c args).run Try.prog w = .ok (.enter c args) w) (hc : PaysS w l c lb P) :
    Calls Try.prog 48 #[sv, .func (.func c) #[] lb] w fun e w' => e = .returned (.int .i64 (idxB P l)) ∧ Kept w w' [] := by
  have HO := Lib.hid ho
  have HC := Lib.hid hc
  obtain ⟨a, cp, rfl, _⟩ := ho
  clear hc
  go_enter Try.func48, Try.ntmps48
  go_wp2
  go_loopw [5, 8] (fun _ t wr => ∃ k : Nat, t = .int .i64 k ∧ k ≤ l.length ∧ Kept w wr [] ∧ (∀ j s, j < k → l[j]? = some s → P s = false)) (fun _ t _ => l.length - (intOf t).toNat)
  case atStart => exact ⟨0, rfl, Nat.zero_le _, Kept.refl w [], fun j s hj => absurd hj (Nat.not_lt_zero _)⟩
  case round =>
    obtain ⟨k, rfl, hk, hkw, hx⟩ := hrel
    have Hx := Lib.hid hx; have K := Lib.hid hkw
    clear hx hkw
    by_cases hlt : k < l.length
    · obtain ⟨r, hr⟩ : ∃ r, l[k]? = some r := ⟨_, List.getElem?_eq_getElem hlt⟩
      obtain ⟨a', c', e', h1, h2⟩ := HO.out.keep K.out
      simp only [Value.slice.injEq, true_and] at e'
      obtain ⟨rfl, rfl⟩ := e'
      obtain ⟨b, o, rfl, c0, c1⟩ := h1 k r hr
      have rv := h2 r (List.mem_of_getElem? hr)
      have HR := Lib.hid hr
      have x1 : (k : Int) < (l.length : Int) := by omega
      have call := HC.out r wr (List.mem_of_getElem? hr) K.out
      obtain ⟨q, hq⟩ : ∃ q, P r = q := ⟨_, rfl⟩
      rw [hq] at call
      have HQ := Lib.hid hq
      obtain ⟨M, v, m⟩ := r
      simp only at c0 c1 call rv
      obtain ⟨va, vc, hv, _⟩ := rv
      subst hv
      clear hr hq h1 h2
      cases q
      · go_wp2_with (go_at_fn c; refine call.mono ?_; rintro e w2 ⟨rfl, k2⟩)
        go_roundw
        case rel =>
          refine ⟨k + 1, by go_num, by omega, K.out.trans k2 (by simp), fun j s hj hs => ?_⟩
          by_cases e : j = k
          · subst e
            rw [HR.out] at hs
            cases hs
            exact HQ.out
          · exact Hx.out j s (by omega) hs
        case measure => simp [intOf]; omega
      · have R : RowKit.Hid (idxB P l = k) := Lib.hid (idx_hit HR.out HQ.out Hx.out)
        go_wp2_with (go_at_fn c; refine call.mono ?_; rintro e w2 ⟨rfl, k2⟩)
        go_ret
        rw [R.out]
        exact ⟨rfl, K.out.trans k2 (by simp)⟩
    · have R : RowKit.Hid (idxB P l = -1) := Lib.hid (idx_miss (fun j s hj => Hx.out j s (by omega)))
      have x1 : ¬ (k : Int) < (l.length : Int) := by omega
      go_wp2
      go_ret
      rw [R.out]
      exact ⟨rfl, K.out⟩

set_option maxHeartbeats 2000000 in
theorem vindex_any {w : World} {sv : Value} {l : List Ev} (ho : RdE w sv l) (hlen : l.length < 1000000) (c : Nat) (lb : Array Value) (P : Ev → Bool) (ec : ∀ args w, (callFunc c args).run Try.prog w = .ok (.enter c args) w) (hc : PaysV w l c lb P) :
    Calls Try.prog 50 #[sv, .func (.func c) #[] lb] w fun e w' => e = .returned (.int .i64 (idxB P l)) ∧ Kept w w' [] := by
  have HC := Lib.hid hc
  obtain ⟨a, cp, rfl⟩ := ho.shape3
  have HO := Lib.hid ho
  clear hc ho
  go_enter Try.func50, Try.ntmps50
  go_wp2
  go_loopw [5, 8] (fun _ t wr => ∃ k : Nat, t = .int .i64 k ∧ k ≤ l.length ∧ Kept w wr [] ∧ (∀ j s, j < k → l[j]? = some s → P s = false)) (fun _ t _ => l.length - (intOf t).toNat)
  case atStart => exact ⟨0, rfl, Nat.zero_le _, Kept.refl w [], fun j s hj => absurd hj (Nat.not_lt_zero _)⟩
  case round =>
    obtain ⟨k, rfl, hk, hkw, hx⟩ := hrel
    have Hx := Lib.hid hx; have K := Lib.hid hkw
    clear hx hkw
    by_cases hlt : k < l.length
    · obtain ⟨r, hr⟩ : ∃ r, l[k]? = some r := ⟨_, List.getElem?_eq_getElem hlt⟩
      obtain ⟨b, o, rfl, c0, c1, c2, c3, c4, c5, c6, c7⟩ := (HO.out.kept K.out (by simp)).eight hr
      have HR := Lib.hid hr
      have x1 : (k : Int) < (l.length : Int) := by omega
      have call := HC.out r wr (List.mem_of_getElem? hr) K.out
      obtain ⟨q, hq⟩ : ∃ q, P r = q := ⟨_, rfl⟩
      rw [hq] at call
      have HQ := Lib.hid hq
      clear hr hq
      obtain ⟨b0, b1, b2, b3, b4, b5, b6, b7⟩ := r
      simp only [Ev.cs] at c0 c1 c2 c3 c4 c5 c6 c7 call
      cases q
      · go_wp2_with (go_at_fn c; refine call.mono ?_; rintro e w2 ⟨rfl, k2⟩)
        go_roundw
        case rel =>
          refine ⟨k + 1, by go_num, by omega, K.out.trans k2 (by simp), fun j s hj hs => ?_⟩
          by_cases e : j = k
          · subst e
            rw [HR.out] at hs
            cases hs
            exact HQ.out
          · exact Hx.out j s (by omega) hs
        case measure => simp [intOf]; omega
      · have R : RowKit.Hid (idxB P l = k) := Lib.hid (idx_hit HR.out HQ.out Hx.out)
        go_wp2_with (go_at_fn c; refine call.mono ?_; rintro e w2 ⟨rfl, k2⟩)
        go_ret
        rw [R.out]
        exact ⟨rfl, K.out.trans k2 (by simp)⟩
    · have R : RowKit.Hid (idxB P l = -1) := Lib.hid (idx_miss (fun j s hj => Hx.out j s (by omega)))
      have x1 : ¬ (k : Int) < (l.length : Int) := by omega
      go_wp2
      go_ret
      rw [R.out]
      exact ⟨rfl, K.out⟩

theorem scontains_any {w : World} {sv : Value} {l : List Sv} (ho : RdS w sv l) (hlen : l.length < 1000000) (c : Nat) (lb : Array Value) (P : Sv → Bool) (ec : ∀ args w, (callFunc c args).run Try.prog w = .ok (.enter c args) w) (hc : PaysS w l c lb P) :
    Calls Try.prog 37 #[sv, .func (.func c) #[] lb] w fun e w' => e = .returned (.bool (l.any P)) ∧ Kept w w' [] := by
  have H := Lib.hid (sindex_any ho hlen c lb P ec hc)
  obtain ⟨a, cp, rfl, _⟩ := ho
  have R := Lib.hid (idx_any P l)
  generalize idxB P l = x at H R
  generalize l.any P = y at R ⊢
  clear hc
  go_enter Try.func37, Try.ntmps37
  go_wp2_with fail
  refine H.out.mono ?_
  rintro e w1 ⟨rfl, k1⟩
  go_wp2
  go_ret
  exact ⟨by rw [← R.out]; rfl, k1⟩

theorem vcontains_any {w : World} {sv : Value} {l : List Ev} (ho : RdE w sv l) (hlen : l.length < 1000000) (c : Nat) (lb : Array Value) (P : Ev → Bool) (ec : ∀ args w, (callFunc c args).run Try.prog w = .ok (.enter c args) w) (hc : PaysV w l c lb P) :
    Calls Try.prog 40 #[sv, .func (.func c) #[] lb] w fun e w' => e = .returned (.bool (l.any P)) ∧ Kept w w' [] := by
  have H := Lib.hid (vindex_any ho hlen c lb P ec hc)
  obtain ⟨a, cp, rfl⟩ := ho.shape3
  have R := Lib.hid (idx_any P l)
  generalize idxB P l = x at H R
  generalize l.any P = y at R ⊢
  clear hc ho
  go_enter Try.func40, Try.ntmps40
  go_wp2_with fail
  refine H.out.mono ?_
  rintro e w1 ⟨rfl, k1⟩
  go_wp2
  go_ret
  exact ⟨by rw [← R.out]; rfl, k1⟩

end Go.Proofs.Ytojkandkhhjaaaa
