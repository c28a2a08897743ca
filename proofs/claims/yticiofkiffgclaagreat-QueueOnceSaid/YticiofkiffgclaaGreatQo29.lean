/-
  Bg, Bh, Dqa, Dqb in one text.
-/
import Derived.Test.YticiofkiffgclaaGreatQo28
import Derived.Test.YticiofkiffgclaaGreatQo21
import Derived.Test.YticiofkiffgclaaGreatQo14
import Derived.Test.YticiofkiffgclaaGreatQo27
import Derived.Test.YticiofkiffgclaaGreatQo22
import Derived.Test.YticiofkiffgclaaGreatQo3
import Derived.Test.YticiofkiffgclaaGreatQo7
import Derived.Deep.DeepCutAuto
namespace Go.Proofs.YticiofkiffgclaaGreat
set_option linter.unusedVariables false
open Go.RowKit Go.Maps

structure Sv where
  M : Int
  v : Value
  l : List Int

def RdS (w : World) (v : Value) (ss : List Sv) : Prop :=
  ∃ a c, v = .slice a ss.length c ∧ (∀ i s, ss[i]? = some s → ∃ b o, a = some ⟨b, o, none⟩ ∧ w.cell? ⟨b, o + i * 2, none⟩ = some (.int .i64 s.M) ∧ w.cell? ⟨b, o + i * 2 + 1, none⟩ = some s.v) ∧ ∀ s ∈ ss, RdI w s.v s.l

theorem RdS.keep {w w' : World} {v : Value} {ss : List Sv} (h : RdS w v ss) (k : Kept w w' []) : RdS w' v ss := by
  obtain ⟨a, c, rfl, h1, h2⟩ := h
  refine ⟨a, c, rfl, fun i s hs => ?_, fun s hs => (h2 s hs).keep k⟩
  obtain ⟨b, o, rfl, c0, c1⟩ := h1 i s hs
  exact ⟨b, o, rfl, k.cell (by simp) c0, k.cell (by simp) c1⟩

theorem RdS.all {w : World} {v : Value} {ss : List Sv} (h : RdS w v ss) : ∀ s ∈ ss, RdI w s.v s.l := by
  obtain ⟨_, _, _, _, h2⟩ := h
  exact h2

def idxB {α : Type} (P : α → Bool) (l : List α) : Int := match l.findIdx? P with | some i => i | none => -1

theorem idx_hit {α : Type} {P : α → Bool} {l : List α} {k : Nat} {r : α} (hr : l[k]? = some r) (hp : P r = true) (hb : ∀ j s, j < k → l[j]? = some s → P s = false) : idxB P l = k := by
  obtain ⟨hk, e⟩ := List.getElem?_eq_some_iff.1 hr
  have : l.findIdx? P = some k := by
    rw [List.findIdx?_eq_some_iff_getElem]
    refine ⟨hk, by rw [e]; exact hp, fun j hj => ?_⟩
    rw [hb j l[j] hj (List.getElem?_eq_getElem _)]
    simp
  rw [idxB, this]

theorem idx_miss {α : Type} {P : α → Bool} {l : List α} (hb : ∀ j s, j < l.length → l[j]? = some s → P s = false) : idxB P l = -1 := by
  have : l.findIdx? P = none := by
    rw [List.findIdx?_eq_none_iff]
    intro s hs
    obtain ⟨j, hj, e⟩ := List.mem_iff_getElem.1 hs
    exact hb j s hj (by rw [List.getElem?_eq_getElem hj, e])
  rw [idxB, this]

theorem idx_any {α : Type} (P : α → Bool) (l : List α) : (decide (idxB P l ≥ 0)) = l.any P := by
  unfold idxB
  cases h : l.findIdx? P with
  | some i =>
    have : l.any P = true := by
      obtain ⟨hi, hp, _⟩ := List.findIdx?_eq_some_iff_getElem.1 h
      exact List.any_eq_true.2 ⟨l[i], List.getElem_mem hi, hp⟩
    rw [this]; simp
  | none =>
    have : l.any P = false := by
      rw [List.findIdx?_eq_none_iff] at h
      rw [List.any_eq_false]
      intro x hx
      simp [h x hx]
    rw [this]; simp

def PaysS (w : World) (ss : List Sv) (c : Nat) (lb : Array Value) (P : Sv → Bool) : Prop :=
  ∀ (s : Sv) (V : World), s ∈ ss → Kept w V [] → Calls Tryz.prog c (#[.agg #[.int .i64 s.M, s.v]] ++ lb) V fun e w' => e = .returned (.bool (P s)) ∧ Kept V w' []
def PaysV (w : World) (l : List Ev) (c : Nat) (lb : Array Value) (P : Ev → Bool) : Prop :=
  ∀ (r : Ev) (V : World), r ∈ l → Kept w V [] → Calls Tryz.prog c (#[.agg r.cs] ++ lb) V fun e w' => e = .returned (.bool (P r)) ∧ Kept V w' []

set_option maxHeartbeats 2000000 in
theorem sindex_any {w : World} {sv : Value} {l : List Sv} (ho : RdS w sv l) (hlen : l.length < 1000000) (c : Nat) (lb : Array Value) (P : Sv → Bool) (ec : ∀ args w, (callFunc c args).run Tryz.prog w = .ok (.enter c args) w) (hc : PaysS w l c lb P) :
    Calls Tryz.prog 216 #[sv, .func (.func c) #[] lb] w fun e w' => e = .returned (.int .i64 (idxB P l)) ∧ Kept w w' [] := by
  have HO := Lib.hid ho
  have HC := Lib.hid hc
  obtain ⟨a, cp, rfl, _⟩ := ho
  clear hc
  go_enter Tryz.func216, Tryz.ntmps216
  go_wp2
  go_loopw [5, 8] (fun _ t wr => ∃ k : Nat, t = .int .i64 k ∧ k ≤ l.length ∧ Kept w wr [] ∧ (∀ j s, j < k → l[j]? = some s → P s = false)) (fun _ t _ => l.length - (intOf t).toNat)
  case atStart => exact ⟨0, rfl, Nat.zero_le _, Kept.refl w [], fun j s hj => absurd hj (Nat.not_lt_zero _)⟩
  case round =>
    obtain ⟨k, rfl, hk, hkw, hx⟩ := hrel
    have Hx := Lib.hid hx; have K := Lib.hid hkw
    clear hx hkw
    by_cases hlt : k < l.length
    · obtain ⟨r, hr⟩ : ∃ r, l[k]? = some r := ⟨_, List.getElem?_eq_getElem hlt⟩
      obtain ⟨a', c', e', h1, h2⟩ := HO.out.keep K.out
      simp only [Value.slice.injEq, true_and] at e'
      obtain ⟨rfl, rfl⟩ := e'
      obtain ⟨b, o, rfl, c0, c1⟩ := h1 k r hr
      have rv := h2 r (List.mem_of_getElem? hr)
      have HR := Lib.hid hr
      have x1 : (k : Int) < (l.length : Int) := by omega
      have call := HC.out r wr (List.mem_of_getElem? hr) K.out
      obtain ⟨q, hq⟩ : ∃ q, P r = q := ⟨_, rfl⟩
      rw [hq] at call
      have HQ := Lib.hid hq
      obtain ⟨M, v, m⟩ := r
      simp only at c0 c1 call rv
      obtain ⟨va, vc, hv, _⟩ := rv
      subst hv
      clear hr hq h1 h2
      cases q
      · go_wp2_with (go_at_fn c; refine call.mono ?_; rintro e w2 ⟨rfl, k2⟩)
        go_roundw
        case rel =>
          refine ⟨k + 1, by go_num, by omega, K.out.trans k2 (by simp), fun j s hj hs => ?_⟩
          by_cases e : j = k
          · subst e
            rw [HR.out] at hs
            cases hs
            exact HQ.out
          · exact Hx.out j s (by omega) hs
        case measure => simp [intOf]; omega
      · have R : RowKit.Hid (idxB P l = k) := Lib.hid (idx_hit HR.out HQ.out Hx.out)
        go_wp2_with (go_at_fn c; refine call.mono ?_; rintro e w2 ⟨rfl, k2⟩)
        go_ret
        rw [R.out]
        exact ⟨rfl, K.out.trans k2 (by simp)⟩
    · have R : RowKit.Hid (idxB P l = -1) := Lib.hid (idx_miss (fun j s hj => Hx.out j s (by omega)))
      have x1 : ¬ (k : Int) < (l.length : Int) := by omega
      go_wp2
      go_ret
      rw [R.out]
      exact ⟨rfl, K.out⟩

set_option maxHeartbeats 2000000 in
theorem vindex_any {w : World} {sv : Value} {l : List Ev} (ho : RdE w sv l) (hlen : l.length < 1000000) (c : Nat) (lb : Array Value) (P : Ev → Bool) (ec : ∀ args w, (callFunc c args).run Tryz.prog w = .ok (.enter c args) w) (hc : PaysV w l c lb P) :
    Calls Tryz.prog 99 #[sv, .func (.func c) #[] lb] w fun e w' => e = .returned (.int .i64 (idxB P l)) ∧ Kept w w' [] := by
  have HC := Lib.hid hc
  obtain ⟨a, cp, rfl⟩ := ho.shape3
  have HO := Lib.hid ho
  clear hc ho
  go_enter Tryz.func99, Tryz.ntmps99
  go_wp2
  go_loopw [5, 8] (fun _ t wr => ∃ k : Nat, t = .int .i64 k ∧ k ≤ l.length ∧ Kept w wr [] ∧ (∀ j s, j < k → l[j]? = some s → P s = false)) (fun _ t _ => l.length - (intOf t).toNat)
  case atStart => exact ⟨0, rfl, Nat.zero_le _, Kept.refl w [], fun j s hj => absurd hj (Nat.not_lt_zero _)⟩
  case round =>
    obtain ⟨k, rfl, hk, hkw, hx⟩ := hrel
    have Hx := Lib.hid hx; have K := Lib.hid hkw
    clear hx hkw
    by_cases hlt : k < l.length
    · obtain ⟨r, hr⟩ : ∃ r, l[k]? = some r := ⟨_, List.getElem?_eq_getElem hlt⟩
      obtain ⟨b, o, rfl, c0, c1, c2, c3, c4, c5, c6, c7⟩ := (HO.out.kept K.out (by simp)).eight hr
      have HR := Lib.hid hr
      have x1 : (k : Int) < (l.length : Int) := by omega
      have call := HC.out r wr (List.mem_of_getElem? hr) K.out
      obtain ⟨q, hq⟩ : ∃ q, P r = q := ⟨_, rfl⟩
      rw [hq] at call
      have HQ := Lib.hid hq
      clear hr hq
      obtain ⟨b0, b1, b2, b3, b4, b5, b6, b7⟩ := r
      simp only [Ev.cs] at c0 c1 c2 c3 c4 c5 c6 c7 call
      cases q
      · go_wp2_with (go_at_fn c; refine call.mono ?_; rintro e w2 ⟨rfl, k2⟩)
        go_roundw
        case rel =>
          refine ⟨k + 1, by go_num, by omega, K.out.trans k2 (by simp), fun j s hj hs => ?_⟩
          by_cases e : j = k
          · subst e
            rw [HR.out] at hs
            cases hs
            exact HQ.out
          · exact Hx.out j s (by omega) hs
        case measure => simp [intOf]; omega
      · have R : RowKit.Hid (idxB P l = k) := Lib.hid (idx_hit HR.out HQ.out Hx.out)
        go_wp2_with (go_at_fn c; refine call.mono ?_; rintro e w2 ⟨rfl, k2⟩)
        go_ret
        rw [R.out]
        exact ⟨rfl, K.out.trans k2 (by simp)⟩
    · have R : RowKit.Hid (idxB P l = -1) := Lib.hid (idx_miss (fun j s hj => Hx.out j s (by omega)))
      have x1 : ¬ (k : Int) < (l.length : Int) := by omega
      go_wp2
      go_ret
      rw [R.out]
      exact ⟨rfl, K.out⟩

theorem scontains_any {w : World} {sv : Value} {l : List Sv} (ho : RdS w sv l) (hlen : l.length < 1000000) (c : Nat) (lb : Array Value) (P : Sv → Bool) (ec : ∀ args w, (callFunc c args).run Tryz.prog w = .ok (.enter c args) w) (hc : PaysS w l c lb P) :
    Calls Tryz.prog 195 #[sv, .func (.func c) #[] lb] w fun e w' => e = .returned (.bool (l.any P)) ∧ Kept w w' [] := by
  have H := Lib.hid (sindex_any ho hlen c lb P ec hc)
  obtain ⟨a, cp, rfl, _⟩ := ho
  have R := Lib.hid (idx_any P l)
  generalize idxB P l = x at H R
  generalize l.any P = y at R ⊢
  clear hc
  go_enter Tryz.func195, Tryz.ntmps195
  go_wp2_with fail
  refine H.out.mono ?_
  rintro e w1 ⟨rfl, k1⟩
  go_wp2
  go_ret
  exact ⟨by rw [← R.out]; rfl, k1⟩

theorem vcontains_any {w : World} {sv : Value} {l : List Ev} (ho : RdE w sv l) (hlen : l.length < 1000000) (c : Nat) (lb : Array Value) (P : Ev → Bool) (ec : ∀ args w, (callFunc c args).run Tryz.prog w = .ok (.enter c args) w) (hc : PaysV w l c lb P) :
    Calls Tryz.prog 164 #[sv, .func (.func c) #[] lb] w fun e w' => e = .returned (.bool (l.any P)) ∧ Kept w w' [] := by
  have H := Lib.hid (vindex_any ho hlen c lb P ec hc)
  obtain ⟨a, cp, rfl⟩ := ho.shape3
  have R := Lib.hid (idx_any P l)
  generalize idxB P l = x at H R
  generalize l.any P = y at R ⊢
  clear hc ho
  go_enter Tryz.func164, Tryz.ntmps164
  go_wp2_with fail
  refine H.out.mono ?_
  rintro e w1 ⟨rfl, k1⟩
  go_wp2
  go_ret
  exact ⟨by rw [← R.out]; rfl, k1⟩

end Go.Proofs.YticiofkiffgclaaGreat

namespace Go.Proofs.YticiofkiffgclaaGreat
set_option linter.unusedVariables false
open Go.RowKit Go.Maps

def needB (st : List Nat) (ss : List Sv) (e : Ev) : Bool := stAt st e.tx == 1 || (stAt st e.tx == 2 && ss.any fun s => !seesB s.M s.l e.tx)

set_option maxHeartbeats 1000000 in
theorem needs1_pays {w : World} {ss : List Sv} {e : Ev} {z : Nat} (hs : ∀ s ∈ ss, RdI w s.v s.l) (hz : w.heap[z]? = some (.cells e.cs 50 (0, 0))) :
    PaysS w ss 196 #[.pointer (some ⟨z, 0, none⟩)] (fun s => !seesB s.M s.l e.tx) := by
  intro s V hsm k
  have rv := (hs s hsm).keep k
  have g := k.heap (by simp) hz
  obtain ⟨M, v, m⟩ := s
  obtain ⟨b0, b1, b2, b3, b4, b5, b6, b7⟩ := e
  simp only at rv ⊢
  obtain ⟨q, hq⟩ : ∃ q, seesB M m b1 = q := ⟨_, rfl⟩
  have HQ := Lib.hid hq
  rw [hq]
  have RV := Lib.hid rv
  obtain ⟨va, vc, hv, _⟩ := rv
  subst hv
  obtain ⟨W1, hW1⟩ : ∃ W1, W1 = V.alloc (.cells #[.int .i64 M, .slice va m.length vc] 36) := ⟨_, rfl⟩
  have k1 : Kept V W1 [] := by rw [hW1]; exact (Kept.refl V []).alloc _
  have g1 : W1.heap[V.heap.size]? = some (.cells #[.int .i64 M, .slice va m.length vc] 36 (0, 0)) := by rw [hW1]; exact heap_alloc_new V _
  obtain ⟨q0, q1, q2, q3, q4, q5, q6, q7⟩ := ev_cells (k1.heap (by simp) g)
  obtain ⟨y0, y1⟩ := two_cells g1
  have hc := Lib.hid (by have := sees_any M b1 _ m W1 (RV.out.keep k1); rw [HQ.out] at this; exact this)
  have K1 := Lib.hid k1; have HW1 := Lib.hid hW1
  clear hs hz hsm k g hq k1 hW1 g1
  show Calls _ _ #[.agg #[.int .i64 M, .slice va m.length vc], .pointer (some ⟨z, 0, none⟩)] _ _
  go_enter Tryz.func196, Tryz.ntmps196
  go_upto_region 1 with fail
  rw [← HW1.out]
  go_wp2_with fail
  refine hc.out.mono ?_
  rintro e w1 ⟨rfl, k1⟩
  have K2 := Lib.hid (K1.out.trans k1 (by simp))
  clear k1
  go_wp2
  go_ret
  exact ⟨rfl, K2.out⟩

set_option maxHeartbeats 1000000 in
theorem bneeds_any {w : World} {u sv : Value} {ss : List Sv} {st : List Nat} (e : Ev) (hM : Man w u st) (hs : RdS w sv ss) (hl : ss.length < 1000000) (hx : (Lit.int .i64 e.tx).wf = true) :
    Calls Tryz.prog 166 #[.agg e.cs, u, sv] w fun r w' => r = .returned (.bool (needB st ss e)) ∧ Kept w w' [] := by
  obtain ⟨W1, hW1⟩ : ∃ W1, W1 = w.alloc (.cells e.cs 50) := ⟨_, rfl⟩
  have k1 : Kept w W1 [] := by rw [hW1]; exact (Kept.refl w []).alloc _
  have g1 : W1.heap[w.heap.size]? = some (.cells e.cs 50 (0, 0)) := by rw [hW1]; exact heap_alloc_new w _
  have hP := needs1_pays ((hs.keep k1).all) g1
  have hc := Lib.hid (scontains_any (hs.keep k1) hl 196 _ _ (enters_of Tryz.func196 (by kernel_rfl) rfl) hP)
  have hS := Lib.hid (hM e.tx W1 hx k1)
  have K1 := Lib.hid k1; have HW1 := Lib.hid hW1
  obtain ⟨a, cp, rfl, _⟩ := hs
  unfold needB
  generalize (ss.any fun s => !seesB s.M s.l e.tx) = y at hc ⊢
  generalize stAt st e.tx = s0 at hS ⊢
  obtain ⟨b0, b1, b2, b3, b4, b5, b6, b7⟩ := e
  obtain ⟨q0, q1, q2, q3, q4, q5, q6, q7⟩ := ev_cells g1
  simp only [Ev.cs] at hc hS HW1 ⊢
  clear hM hl hx hW1 k1 g1 hP
  go_enter Tryz.func166, Tryz.ntmps166
  go_upto_region 1 with fail
  rw [← HW1.out]
  go_wp2_with fail
  refine hS.out.mono ?_
  rintro r w2 ⟨rfl, rfl⟩
  by_cases h1 : s0 = 1
  · subst h1
    go_wp2
    go_ret
    exact ⟨by simp, K1.out⟩
  · have e1 : ((s0 : Int) == 1) = false := by rw [beq_eq_false_iff_ne]; omega
    have n1 : (s0 == 1) = false := by rw [beq_eq_false_iff_ne]; exact h1
    have N1 := Lib.hid n1
    clear n1 h1
    by_cases h2 : s0 = 2
    · subst h2
      go_wp2_with fail
      refine hc.out.mono ?_
      rintro r w3 ⟨rfl, k3⟩
      go_wp2
      go_ret
      exact ⟨by simp, K1.out.trans k3 (by simp)⟩
    · have e2 : ((s0 : Int) == 2) = false := by rw [beq_eq_false_iff_ne]; omega
      have n2 : (s0 == 2) = false := by rw [beq_eq_false_iff_ne]; exact h2
      have N2 := Lib.hid n2
      clear n2 h2
      go_wp2
      go_ret
      exact ⟨by rw [N1.out, N2.out]; rfl, K1.out⟩

set_option maxHeartbeats 1000000 in
theorem free1_pays {w : World} {x : Option Addr} {sv : Value} {ss : List Sv} {st : List Nat} {l : List Ev} {z1 z2 : Nat} (hM : Man w (.pointer x) st) (hs : RdS w sv ss) (hl : ss.length < 1000000) (hx : ∀ e ∈ l, (Lit.int .i64 e.tx).wf = true)
    (h1 : w.heap[z1]? = some (.cells #[.pointer x] 30 (0, 0))) (h2 : w.heap[z2]? = some (.cells #[sv] 157 (0, 0))) :
    PaysV w l 165 #[.pointer (some ⟨z1, 0, none⟩), .pointer (some ⟨z2, 0, none⟩)] (needB st ss) := by
  intro e V he k
  obtain ⟨W1, hW1⟩ : ∃ W1, W1 = V.alloc (.cells e.cs 50) := ⟨_, rfl⟩
  have k1 : Kept V W1 [] := by rw [hW1]; exact (Kept.refl V []).alloc _
  have g1 : W1.heap[V.heap.size]? = some (.cells e.cs 50 (0, 0)) := by rw [hW1]; exact heap_alloc_new V _
  have kk := k.trans k1 (by simp)
  have hc := Lib.hid (bneeds_any e (hM.keep kk) (hs.keep kk) hl (hx e he))
  have c1 : W1.cell? ⟨z1, 0, none⟩ = some (.pointer x) := by rw [cell_of_row _ _ _ _ _ _ (kk.heap (by simp) h1)]; rfl
  have c2 : W1.cell? ⟨z2, 0, none⟩ = some sv := by rw [cell_of_row _ _ _ _ _ _ (kk.heap (by simp) h2)]; rfl
  have K1 := Lib.hid k1; have HW1 := Lib.hid hW1
  obtain ⟨a, cp, rfl, _⟩ := hs
  generalize needB st ss e = y at hc ⊢
  obtain ⟨b0, b1, b2, b3, b4, b5, b6, b7⟩ := e
  obtain ⟨q0, q1, q2, q3, q4, q5, q6, q7⟩ := ev_cells g1
  simp only [Ev.cs] at hc HW1
  clear hM hl hx hW1 k1 g1 h1 h2 he k kk
  show Calls _ _ #[.agg #[.int .i64 b0, .int .i64 b1, .string b2, .int .i64 b3, .int .i64 b4, .int .u8 b5, .int .i64 b6, .string b7], .pointer (some ⟨z1, 0, none⟩), .pointer (some ⟨z2, 0, none⟩)] _ _
  go_enter Tryz.func165, Tryz.ntmps165
  go_upto_region 1 with fail
  rw [← HW1.out]
  go_wp2_with fail
  refine hc.out.mono ?_
  rintro r w2 ⟨rfl, k2⟩
  go_wp2
  go_ret
  exact ⟨rfl, K1.out.trans k2 (by simp)⟩

def freeB (st : List Nat) (ss : List Sv) (l : List Ev) : Bool := !l.any (needB st ss)

set_option maxHeartbeats 1000000 in
theorem bfree_any {w : World} {x : Option Addr} {v sv : Value} {ss : List Sv} {st : List Nat} {l : List Ev} (hv : RdE w v l) (hn : l.length < 1000000) (hM : Man w (.pointer x) st) (hs : RdS w sv ss) (hl : ss.length < 1000000) (hx : ∀ e ∈ l, (Lit.int .i64 e.tx).wf = true) :
    Calls Tryz.prog 108 #[v, .pointer x, sv] w fun r w' => r = .returned (.bool (freeB st ss l)) ∧ Kept w w' [] := by
  obtain ⟨a, cp, rfl, hs2⟩ := hs
  have hs : RdS w (.slice a ss.length cp) ss := ⟨a, cp, rfl, hs2⟩
  obtain ⟨W1, hW1⟩ : ∃ W1, W1 = (w.alloc (.cells #[.pointer x] 30)).alloc (.cells #[.slice a ss.length cp] 157) := ⟨_, rfl⟩
  have hz : (w.alloc (.cells #[.pointer x] 30)).heap.size = w.heap.size + 1 := by simp
  have k1 : Kept w W1 [] := by rw [hW1]; exact ((Kept.refl w []).alloc _).alloc _
  have g1 : W1.heap[w.heap.size]? = some (.cells #[.pointer x] 30 (0, 0)) := by rw [hW1]; exact ((Kept.refl _ []).alloc _).heap (by simp) (heap_alloc_new w _)
  have g2 : W1.heap[w.heap.size + 1]? = some (.cells #[.slice a ss.length cp] 157 (0, 0)) := by rw [hW1, ← hz]; exact heap_alloc_new _ _
  have hP := free1_pays (hM.keep k1) (hs.keep k1) hl hx g1 g2
  have hc := Lib.hid (vcontains_any (hv.kept k1 (by simp)) hn 165 _ _ (enters_of Tryz.func165 (by kernel_rfl) rfl) hP)
  obtain ⟨va, vc, rfl⟩ := hv.shape3
  unfold freeB
  generalize l.any (needB st ss) = y at hc ⊢
  have K1 := Lib.hid k1; have HW1 := Lib.hid hW1
  clear hv hn hM hs hs2 hl hx hW1 hz k1 g1 g2 hP
  go_enter Tryz.func108, Tryz.ntmps108
  go_upto_region 1 with fail
  rw [← HW1.out]
  go_wp2_with fail
  refine hc.out.mono ?_
  rintro r w2 ⟨rfl, k2⟩
  go_wp2
  go_ret
  exact ⟨rfl, K1.out.trans k2 (by simp)⟩

end Go.Proofs.YticiofkiffgclaaGreat

namespace Go.Proofs.YticiofkiffgclaaGreat
set_option linter.unusedVariables false
open Go.RowKit

structure Dv where
  mp : Value
  V : Nat → Value
  c : Nat
  VT : Value
  u : Value
  VC : Value
  VR : Value
  nx : Value
variable {T : TypeId} {w w' : World} {B h : Nat} {d : Dv} {l : Nat → List Ev} {xs : List Tk} {cs : List Cu} {rs : List It}

theorem tag_one {w : World} {k : Nat} {c1 c2 : Array Value} {t1 t2 : TypeId} {f1 f2 : Nat × Nat} (x : w.heap[k]? = some (.cells c1 t1 f1)) (y : w.heap[k]? = some (.cells c2 t2 f2)) : t1 = t2 := by
  rw [x] at y
  simp only [Option.some.injEq, Obj.cells.injEq] at y
  exact y.2.1

end Go.Proofs.YticiofkiffgclaaGreat

namespace Go.Proofs.YticiofkiffgclaaGreat
set_option linter.unusedVariables false
open Go.RowKit

structure Qs where
  l : Nat → List Ev
  c : Nat
  ps : List Pt
  cs : List Cu
  rs : List It
  nx : Int
def Qs.new : Qs := ⟨fun _ => [], 0, [], [], [], 1⟩

def wriV (q : Qs) (x tb kd key : Int) (t : ByteArray) : Ev := ⟨q.nx, x, ⟨#[]⟩, 0, tb, kd, key, t⟩
def wriQ (q : Qs) (x tb kd key : Int) (t : ByteArray) : Qs := { q with l := upd q.l q.c (q.l q.c ++ [wriV q x tb kd key t]), nx := wrap64 (q.nx + 1) }
def frgN (q : Qs) (x : Int) : Nat := lenN q.l - lenN (forL x q.l)
def frgQ (q : Qs) (x : Int) : Qs := { q with l := forL x q.l }
def tckQ (q : Qs) (M : Int) (lo : List Int) (now : Int) : Qs := { q with ps := addS q.ps M lo now }
def rgsE (q : Qs) (n : ByteArray) : Int := if lastN q.ps = 0 then 9 else regE q.cs n (lastN q.ps)
def rgsQ (q : Qs) (n : ByteArray) : Qs := if lastN q.ps = 0 then q else { q with cs := regL q.cs n (lastN q.ps) }
def zeroP : Pt := ⟨0, 0, [], 0⟩
def nxtO (q : Qs) (n : ByteArray) : Option Pt := match getC q.cs n with | none => none | some x => if 0 < x.op then none else aftS q.ps x.la
def nxtE (q : Qs) (n : ByteArray) : Int := match getC q.cs n with | none => 4 | some x => if 0 < x.op then 7 else if (aftS q.ps x.la).isSome then 0 else 9
def nxtP (q : Qs) (n : ByteArray) : Pt := (nxtO q n).getD zeroP
def nxtQ (q : Qs) (n : ByteArray) : Qs := match nxtO q n with | some p => { q with cs := opnL q.cs n p.n } | none => q
def tckP (q : Qs) (n : Int) : Pt := (getS q.ps n).getD zeroP
def batE (q : Qs) (n : ByteArray) : Int := match getC q.cs n with | none => 4 | some x => if x.op = 0 then 7 else 0
def allE (q : Qs) : List Ev := srt byId (pre q.l 3)
def batV (st : List Nat) (q : Qs) (n : ByteArray) : List Ev := match getC q.cs n with
  | none => []
  | some x => if x.op = 0 then [] else srt byId ((allE q).filter (told st (tckP q x.la).M (tckP q x.la).l (tckP q x.op).M (tckP q x.op).l n))
def fnsQ (q : Qs) (n : ByteArray) : Qs := { q with cs := finL q.cs n }
def snpP (q : Qs) : List Pt := (q.cs.map fun x => tckP q x.la) ++ (match q.ps.getLast? with | some p => [p] | none => [])
def needP (st : List Nat) (ss : List Pt) (e : Ev) : Bool := stAt st e.tx == 1 || (stAt st e.tx == 2 && ss.any fun s => !seesB s.M s.l e.tx)
def freQ (st : List Nat) (q : Qs) : Bool := !(q.l (nxt q.c)).any (needP st (snpP q))
def rotQ (st : List Nat) (q : Qs) : Nat × Int × Qs := let r := rotS q.l q.c (freQ st q); (r.1, r.2.1, { q with l := r.2.2.1, c := r.2.2.2 })
def lowQ (q : Qs) : Int := if q.cs.length = 0 then 9223372036854775807 else leaN q.cs
def trmN (q : Qs) : Int := (q.ps.length : Int) - (trimS q.ps (lowQ q)).length
def trmQ (q : Qs) : Qs := { q with ps := trimS q.ps (lowQ q) }

theorem needB_map (st : List Nat) (ss : List Sv) (e : Ev) : needB st ss e = needP st (ss.map fun s => ⟨0, s.M, s.l, 0⟩) e := by
  unfold needB needP
  rw [List.any_map]
  rfl
theorem needP_congr {st : List Nat} {s1 s2 : List Pt} (h : ∀ p : Pt, (∃ x ∈ s1, x.M = p.M ∧ x.l = p.l) ↔ (∃ x ∈ s2, x.M = p.M ∧ x.l = p.l)) (e : Ev) : needP st s1 e = needP st s2 e := by
  unfold needP
  congr 2
  rw [Bool.eq_iff_iff, List.any_eq_true, List.any_eq_true]
  constructor
  · rintro ⟨x, hx, hs⟩
    obtain ⟨y, hy, e1, e2⟩ := (h x).1 ⟨x, hx, rfl, rfl⟩
    exact ⟨y, hy, by rw [e1, e2]; exact hs⟩
  · rintro ⟨x, hx, hs⟩
    obtain ⟨y, hy, e1, e2⟩ := (h x).2 ⟨x, hx, rfl, rfl⟩
    exact ⟨y, hy, by rw [e1, e2]; exact hs⟩

end Go.Proofs.YticiofkiffgclaaGreat
