/-
  A heap with one key: its calls.
-/
import Derived.Test.YtpknnpdnhdcnjaaHp
namespace Go.Proofs.Ytpknnpdnhdcnjaa
open Go.RowKit Go.Maps

/-- One key's versions. -/
def one (key : Int) (l : List Vr) : Int → List Vr := updF (fun _ => []) key l
theorem one_same (key : Int) (l : List Vr) : one key l key = l := updF_same _ _ _
theorem one_upd (key : Int) (l m : List Vr) : updF (one key l) key m = one key m := by
  funext q
  by_cases e : q = key
  · subst e; simp [one, updF]
  · simp [one, updF, e]
theorem one_le (key k : Int) {l : List Vr} {n : Nat} (h : l.length ≤ n) : (one key l k).length ≤ n := by
  by_cases e : k = key
  · subst e; rw [one_same]; exact h
  · simp [one, updF, e]
theorem insK_one (key : Int) : insK key [key] = [key] := by simp [insK]

/-- Update, of one key's versions. -/
def updL (st : List Nat) (V : Vw) (l : List Vr) (r : Vr) : Int × List Vr := ((delL st V l).1, if (delL st V l).1 = 0 then (delL st V l).2 ++ [r] else (delL st V l).2)

/-- Truncate's error, of one key's versions. -/
def truL (st : List Nat) (V : Vw) (l : List Vr) : Int := if stAt st V.own = 1 then (if (seenTo (sees st V) l l.length).any (fun i => match l[i]? with
  | some r => binds st V r.death
  | none => false) then 6 else 0) else 7

theorem truE_one (st : List Nat) (V : Vw) (key : Int) (l : List Vr) : truE st V [key] (one key l) = truL st V l := by
  have e1 : seenAll (sees st V) [key] (one key l) = (seenTo (sees st V) l l.length).map fun i => (key, i) := by simp [seenAll, one_same]
  have e2 : (boundAt st V (one key l) ∘ fun i => (key, i)) = fun i => match l[i]? with
    | some r => binds st V r.death
    | none => false := by
    funext i
    simp only [Function.comp, boundAt, one_same]
    cases l[i]? <;> rfl
  simp only [truE, truL, e1, List.any_map, e2]

variable {w : World} {B p h : Nat} {O : Nat → Prop} {st : List Nat} {key : Int} {l : List Vr}

theorem insert_one (a : Sd w B p h O st [] (fun _ => [])) (mx own : Int) (u : Option Addr) (n c : Nat) (opl : List Int) (hv : Vo w (.slice u n c) opl) (ho : (Lit.int .i64 own).wf = true) (key : Int) (txt : ByteArray) (hk : (Lit.int .i64 key).wf = true) (hs : stAt st own = 1) :
    Calls Try.prog 14 #[.pointer (some ⟨h, 0, none⟩), .agg #[.int .i64 mx, .slice u n c, .int .i64 own], .agg #[.int .i64 key, .string txt]] w fun e w' => e = .returned (.int .i64 0) ∧
      ∃ O', Sd w' B p h O' st [key] (one key [⟨txt, own, 0⟩]) ∧ Stp O O' w w' := by
  have e0 : insE st ⟨mx, opl, own⟩ ((fun _ => [] : Int → List Vr) key) = 0 := by simp [insE, hs]
  have := insert_sd a mx own u n c opl hv ho key txt hk (by simp) (by simp)
  rw [e0] at this
  exact this

theorem update_one (a : Sd w B p h O st [key] (one key l)) (mx own : Int) (u : Option Addr) (n c : Nat) (opl : List Int) (hv : Vo w (.slice u n c) opl) (ho : (Lit.int .i64 own).wf = true) (txt : ByteArray) (hk : (Lit.int .i64 key).wf = true) (hl : l.length < 1000000) :
    Calls Try.prog 17 #[.pointer (some ⟨h, 0, none⟩), .agg #[.int .i64 mx, .slice u n c, .int .i64 own], .agg #[.int .i64 key, .string txt]] w fun e w' => e = .returned (.int .i64 (updL st ⟨mx, opl, own⟩ l ⟨txt, own, 0⟩).1) ∧
      ∃ O', Sd w' B p h O' st [key] (one key (updL st ⟨mx, opl, own⟩ l ⟨txt, own, 0⟩).2) ∧ Stp O O' w w' := by
  have := update_sd a mx own u n c opl hv ho key txt hk (by simp) (by rw [one_same]; exact hl)
  rw [one_same, one_upd] at this
  refine this.mono ?_
  rintro e w' ⟨rfl, O', s, f⟩
  refine ⟨rfl, O', ?_, f⟩
  simp only [updL]
  by_cases e0 : (delL st ⟨mx, opl, own⟩ l).1 = 0
  · rw [e0, putK, putF, if_pos rfl, if_pos rfl, one_same, one_upd, insK_one] at s
    rw [if_pos e0]
    exact s
  · rw [putK, putF, if_neg e0, if_neg e0] at s
    rw [if_neg e0]
    exact s

theorem delete_one (a : Sd w B p h O st [key] (one key l)) (mx own : Int) (u : Option Addr) (n c : Nat) (opl : List Int) (hv : Vo w (.slice u n c) opl) (ho : (Lit.int .i64 own).wf = true) (hk : (Lit.int .i64 key).wf = true) :
    Calls Try.prog 18 #[.pointer (some ⟨h, 0, none⟩), .agg #[.int .i64 mx, .slice u n c, .int .i64 own], .int .i64 key] w fun e w' => e = .returned (.int .i64 (delL st ⟨mx, opl, own⟩ l).1) ∧
      ∃ O', Sd w' B p h O' st [key] (one key (delL st ⟨mx, opl, own⟩ l).2) ∧ Stp O O' w w' := by
  have := delete_sd a mx own u n c opl hv ho key hk
  rw [one_same, one_upd] at this
  exact this

theorem truncate_one (a : Sd w B p h O st [key] (one key l)) (mx own : Int) (u : Option Addr) (n c : Nat) (opl : List Int) (hv : Vo w (.slice u n c) opl) (ho : (Lit.int .i64 own).wf = true) (hl : l.length ≤ 900) :
    Calls Try.prog 19 #[.pointer (some ⟨h, 0, none⟩), .agg #[.int .i64 mx, .slice u n c, .int .i64 own]] w fun e w' => ∃ u' n' c', e = .returned (.tuple #[.slice u' n' c', .int .i64 (truL st ⟨mx, opl, own⟩ l)]) ∧
      ∃ O' F', Sd w' B p h O' st [key] F' ∧ Stp O O' w w' ∧ (truL st ⟨mx, opl, own⟩ l ≠ 0 → F' = one key l) := by
  have := truncate_sd a mx own u n c opl hv ho 900 ⟨by simp, fun k => one_le key k hl, Nat.le_refl _⟩
  rw [truE_one] at this
  refine this.mono ?_
  rintro e w' ⟨v', rfl, ho', O', s, f⟩
  obtain ⟨u', c', rfl⟩ := ownsRow_shape ho'
  refine ⟨u', _, c', rfl, O', _, s, f, fun hne => ?_⟩
  rw [truF, truE_one, if_neg hne]

/-- What Get tells has this form. -/
theorem getT_form (st : List Nat) (V : Vw) (key : Int) (l : List Vr) : ∃ k t f, getT st V key l = .tuple #[.agg #[.int .i64 k, .string t], .bool f] := by
  unfold getT
  split
  · split
    · exact ⟨_, _, _, rfl⟩
    · exact ⟨_, _, _, rfl⟩
  · exact ⟨_, _, _, rfl⟩

end Go.Proofs.Ytpknnpdnhdcnjaa
