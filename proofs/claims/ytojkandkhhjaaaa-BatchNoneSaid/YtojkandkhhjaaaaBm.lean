/-
  What the laws of layer 12 ask besides: one snapshot as a slice, pieces of a slice of events, nobody's transactions.
-/
import Derived.Test.YtojkandkhhjaaaaBl
namespace Go.Proofs.Ytojkandkhhjaaaa
set_option linter.unusedVariables false
open Go.RowKit Go.Maps

theorem rdS_one {w : World} {z : Nat} {M : Int} {v : Value} {l : List Int} {fz : Nat × Nat} (h : w.heap[z]? = some (.cells #[.int .i64 M, v] 31 fz)) (hv : RdI w v l) : RdS w (.slice (some ⟨z, 0, none⟩) 1 1) [⟨M, v, l⟩] := by
  obtain ⟨c0, c1⟩ := two_cells h
  refine ⟨_, _, rfl, fun i s hs => ?_, fun s hs => ?_⟩
  · obtain ⟨hi, rfl⟩ := List.getElem?_eq_some_iff.1 hs
    obtain rfl : i = 0 := by simpa using hi
    exact ⟨z, 0, rfl, c0, c1⟩
  · simp only [List.mem_singleton] at hs
    subst hs
    exact hv

theorem stAt_nil (x : Int) : stAt [] x = 0 := by simp [stAt]
theorem told_nil (A : Int) (la : List Int) (B : Int) (lb : List Int) (o : ByteArray) (l : List Ev) : srt byId (l.filter (told [] A la B lb o)) = [] := by
  have : l.filter (told [] A la B lb o) = [] := by
    rw [List.filter_eq_nil_iff]
    intro e _
    simp [told, stAt_nil]
  rw [this]; rfl
theorem free_nil (ss : List Sv) (l : List Ev) : freeB [] ss l = true :=
  free_yes (fun j e _ _ => by simp [needB, stAt_nil])

/-- One of them, as a slice of its own. -/
theorem RdE.one {w : World} {a : Option Addr} {n c i : Nat} {l : List Ev} (h : RdE w (.slice a n c) l) {e : Ev} (he : l[i]? = some e) : ∃ b o, a = some ⟨b, o, none⟩ ∧ ∀ c', 1 ≤ c' → RdE w (.slice (some ⟨b, o + i * 8, none⟩) 1 c') [e] := by
  obtain ⟨b, o, rfl, c0, c1, c2, c3, c4, c5, c6, c7⟩ := h.eight he
  refine ⟨b, o, rfl, fun c' hc => ⟨_, _, rfl, hc, by simp, fun _ => ⟨b, o + i * 8, rfl, fun k hk => ?_⟩⟩⟩
  simp only [List.length_cons, List.length_nil] at hk
  have ee : ecs [e] = e.cs.toList := by simp [ecs]
  rw [ee]
  match k, hk with
  | 0, _ => exact c0
  | 1, _ => exact c1
  | 2, _ => exact c2
  | 3, _ => exact c3
  | 4, _ => exact c4
  | 5, _ => exact c5
  | 6, _ => exact c6
  | 7, _ => exact c7

end Go.Proofs.Ytojkandkhhjaaaa
