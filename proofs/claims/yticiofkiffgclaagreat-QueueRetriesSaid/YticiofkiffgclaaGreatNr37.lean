/-
  Kf in one text.
-/
import Derived.Test.YticiofkiffgclaaGreatNr36
import Derived.Lib.SliceRun
import Derived.LoopTactic
import Derived.Shelf.Abstract
namespace Go.Proofs.YticiofkiffgclaaGreat
set_option linter.unusedVariables false
open Go.RowKit

variable {w w' : World} {base : Nat} {l : List Tk}

def kidx (P : Tk → Bool) (l : List Tk) : Int := match l.findIdx? P with | some i => i | none => -1

theorem kidx_hit {P : Tk → Bool} {l : List Tk} {k : Nat} {r : Tk} (hr : l[k]? = some r) (hp : P r = true) (hb : ∀ j s, j < k → l[j]? = some s → P s = false) : l.findIdx? P = some k := by
  obtain ⟨hk, e⟩ := List.getElem?_eq_some_iff.1 hr
  rw [List.findIdx?_eq_some_iff_getElem]
  refine ⟨hk, by rw [e]; exact hp, fun j hj => ?_⟩
  rw [hb j l[j] hj (List.getElem?_eq_getElem _)]
  simp

theorem kidx_miss {P : Tk → Bool} {l : List Tk} (hb : ∀ j s, j < l.length → l[j]? = some s → P s = false) : l.findIdx? P = none := by
  rw [List.findIdx?_eq_none_iff]
  intro s hs
  obtain ⟨j, hj, e⟩ := List.mem_iff_getElem.1 hs
  exact hb j s hj (by rw [List.getElem?_eq_getElem hj, e])

theorem kfind_lt {P : Tk → Bool} {l : List Tk} {k : Nat} (h : l.findIdx? P = some k) : k < l.length := (List.findIdx?_eq_some_iff_getElem.1 h).1

theorem OwnT.four {e : TypeId} {g n c : Nat} (h : OwnT w base e (.slice (some ⟨g, 0, none⟩) n c) l) {k : Nat} {r : Tk} (hr : l[k]? = some r) :
    w.cell? ⟨g, k * 4, none⟩ = some (.int .i64 r.n) ∧ w.cell? ⟨g, k * 4 + 1, none⟩ = some (.int .i64 r.M) ∧ w.cell? ⟨g, k * 4 + 2, none⟩ = some r.op ∧ w.cell? ⟨g, k * 4 + 3, none⟩ = some (.int .i64 r.t) := by
  obtain ⟨hk, rfl⟩ := List.getElem?_eq_some_iff.1 hr
  obtain ⟨g', hg, hc⟩ := h.at k hk
  simp only [Option.some.injEq, Addr.mk.injEq] at hg
  obtain ⟨rfl, _⟩ := hg
  exact ⟨(hc 0 (by decide)).1, (hc 1 (by decide)).1, (hc 2 (by decide)).1, (hc 3 (by decide)).1⟩

def PaysK (w : World) (O : Nat → Prop) (c : Nat) (lb : Array Value) (P : Tk → Bool) : Prop :=
  ∀ (r : Tk) (V : World), Fo O w V → Calls Tryz.prog c (#[.agg r.cs] ++ lb) V fun e w' => e = .returned (.bool (P r)) ∧ Kept V w' []

set_option maxHeartbeats 2000000 in
theorem kindexFunc_any (sv : Value) (ho : OwnT w base 38 sv l) (hlen : l.length < 1000000) (c : Nat) (lb : Array Value) (P : Tk → Bool) (ec : ∀ args w, (callFunc c args).run Tryz.prog w = .ok (.enter c args) w) (O : Nat → Prop) (hc : PaysK w O c lb P) :
    Calls Tryz.prog 160 #[sv, .func (.func c) #[] lb] w fun e w' => e = .returned (.int .i64 (kidx P l)) ∧ Kept w w' [] := by
  have HO := Lib.hid ho
  have HC := Lib.hid hc
  clear hc
  rcases ho.2 with ⟨rfl, h0⟩ | ⟨g, cap, cur, rfl, _, _, hnc, hcm, _, _⟩
  · obtain rfl : l = [] := List.eq_nil_of_length_eq_zero h0
    clear ho
    go_enter Tryz.func160, Tryz.ntmps160
    go_wp2
    go_loop [5, 8] (fun _ t => t = .int .i64 0) (fun _ _ => 0)
    case atStart => rfl
    case round =>
      subst hrel
      go_wp2
      go_ret
      exact ⟨rfl, Kept.refl w []⟩
  · clear ho hnc hcm
    go_enter Tryz.func160, Tryz.ntmps160
    go_wp2
    go_loopw [5, 8] (fun _ t wr => ∃ k : Nat, t = .int .i64 k ∧ k ≤ l.length ∧ Kept w wr [] ∧ (∀ j s, j < k → l[j]? = some s → P s = false)) (fun _ t _ => l.length - (intOf t).toNat)
    case atStart => exact ⟨0, rfl, Nat.zero_le _, Kept.refl w [], fun j s hj => absurd hj (Nat.not_lt_zero _)⟩
    case round =>
      obtain ⟨k, rfl, hk, hkw, hx⟩ := hrel
      have Hx := Lib.hid hx; have K := Lib.hid hkw
      clear hx hkw
      by_cases hlt : k < l.length
      · obtain ⟨r, hr⟩ : ∃ r, l[k]? = some r := ⟨_, List.getElem?_eq_getElem hlt⟩
        obtain ⟨c0, c1, c2, c3⟩ := (HO.out.kept K.out (by simp)).four hr
        have HR := Lib.hid hr
        have x1 : (k : Int) < (l.length : Int) := by omega
        have call := HC.out r wr (Fo.ofKept K.out _)
        obtain ⟨q, hq⟩ : ∃ q, P r = q := ⟨_, rfl⟩
        rw [hq] at call
        have HQ := Lib.hid hq
        clear hr hq
        obtain ⟨b0, b1, b2, b3, b4, b5⟩ := r
        simp only [Tk.cs, Tk.op] at c0 c1 c2 c3 call
        cases q
        · go_wp2_with (go_at_fn c; refine call.mono ?_; rintro e w2 ⟨rfl, k2⟩)
          go_roundw
          case rel =>
            refine ⟨k + 1, by go_num, by omega, K.out.trans k2 (by simp), fun j s hj hs => ?_⟩
            by_cases e : j = k
            · subst e
              rw [HR.out] at hs
              cases hs
              exact HQ.out
            · exact Hx.out j s (by omega) hs
          case measure => simp [intOf]; omega
        · have R : RowKit.Hid (kidx P l = k) := Lib.hid (by rw [kidx, kidx_hit HR.out HQ.out Hx.out])
          go_wp2_with (go_at_fn c; refine call.mono ?_; rintro e w2 ⟨rfl, k2⟩)
          go_ret
          rw [R.out]
          exact ⟨rfl, K.out.trans k2 (by simp)⟩
      · have R : RowKit.Hid (kidx P l = -1) := Lib.hid (by rw [kidx, kidx_miss (fun j s hj => Hx.out j s (by omega))])
        have x1 : ¬ (k : Int) < (l.length : Int) := by omega
        go_wp2
        go_ret
        rw [R.out]
        exact ⟨rfl, K.out⟩

theorem PaysK.after {O : Nat → Prop} {c : Nat} {lb : Array Value} {P : Tk → Bool} {W1 : World} (hc : PaysK w O c lb P) (k : Kept w W1 []) : PaysK W1 O c lb P := fun r V hV => hc r V ((Fo.ofKept k O).trans hV)

theorem find_idx {P : Tk → Bool} : ∀ {l : List Tk}, (∀ k, l.findIdx? P = some k → l.find? P = l[k]?) ∧ (l.findIdx? P = none → l.find? P = none) := by
  intro l
  induction l with
  | nil => exact ⟨fun k h => by simp at h, fun _ => rfl⟩
  | cons x r ih =>
    rw [List.findIdx?_cons, List.find?_cons]
    cases hx : P x with
    | true => exact ⟨fun k h => by simp at h; subst h; rfl, fun h => by simp at h⟩
    | false =>
      refine ⟨fun k h => ?_, fun h => ?_⟩
      · simp at h
        obtain ⟨j, hj, rfl⟩ := h
        have := ih.1 j hj
        rw [List.getElem?_cons_succ]
        exact this
      · simp at h
        exact ih.2 (by simpa using h)

def FirstPost (w : World) (o : Option Pt) (e : Ending) (w' : World) : Prop :=
  ∃ (y : Tk), e = .returned (.tuple #[.agg y.cs, .bool o.isSome]) ∧ y.pl = o.getD ⟨0, 0, [], 0⟩ ∧ RdT w' y.op y.l ∧ (∀ b, y.op.ownBlock = some b → w.heap.size ≤ b) ∧ Kept w w' []

set_option maxHeartbeats 1000000 in
theorem first_nil (f : Value) (w : World) : Calls Tryz.prog 104 #[.pointer none, f] w fun e w' => e = .returned (.tuple #[.agg #[.int .i64 0, .int .i64 0, .slice none 0 0, .int .i64 0], .bool false]) ∧ Kept w w' [] := by
  go_enter Tryz.func104, Tryz.ntmps104
  go_wp2
  refine bodyPost_ret (v := .tuple #[.agg #[.int .i64 0, .int .i64 0, .slice none 0 0, .int .i64 0], .bool false]) (by simp [results, Tryz.results104, go_sem]) rfl ?_
  exact ⟨rfl, (Kept.refl w []).alloc _⟩

end Go.Proofs.YticiofkiffgclaaGreat
