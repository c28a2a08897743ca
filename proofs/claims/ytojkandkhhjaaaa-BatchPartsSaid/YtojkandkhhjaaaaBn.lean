/-
  What the laws on owners, on three snapshots and on what is free ask of plain lists.
-/
import Derived.Test.YtojkandkhhjaaaaBm
namespace Go.Proofs.Ytojkandkhhjaaaa
set_option linter.unusedVariables false
open Go.RowKit Go.Maps

theorem mem_srt {l : List Ev} {e : Ev} : e ∈ srt byId l ↔ e ∈ l := by rw [(srt_stab tot_byId l).mem tot_byId]

theorem ownA_list (n : Nat) : (ownA n).toList = if n % 6 = 0 then [97] else if n % 6 = 1 then [98] else [] := by
  unfold ownA
  split
  · rw [ByteArray.toList_eq]
  · split
    · rw [ByteArray.toList_eq]
    · rw [ByteArray.toList_eq]

theorem list_one (b : UInt8) : (⟨#[b]⟩ : ByteArray).toList = [b] := by rw [ByteArray.toList_eq]

/-- Of those that are told: owner, and that P holds. -/
theorem told_mem {st : List Nat} {A B : Int} {la lb : List Int} {o : ByteArray} {f : Nat → ActD} {n j : Nat} {e : Ev} (h : (srt byId ((evsA f n).filter (told st A la B lb o)))[j]? = some e) :
    dueB e.ow o = true ∧ ∃ k, e.ow = ownA k := by
  have h1 := List.mem_of_getElem? h
  rw [mem_srt, List.mem_filter] at h1
  obtain ⟨h2, h3⟩ := h1
  simp only [told, Bool.and_eq_true] at h3
  refine ⟨h3.1, ?_⟩
  simp only [evsA, List.mem_map] at h2
  obtain ⟨i, _, rfl⟩ := h2
  exact ⟨_, rfl⟩

theorem due_not {ow : ByteArray} {b c : UInt8} (hbc : b ≠ c) (h : dueB ow ⟨#[b]⟩ = true) : (ow.toList == [c]) = false := by
  simp only [dueB, Bool.or_eq_true, list_one, List.isEmpty_iff, beq_iff_eq] at h
  rw [beq_eq_false_iff_ne]
  rcases h with h | h
  · rw [h]; simp
  · rw [h]; simp [hbc]

theorem due_c {k : Nat} (h : dueB (ownA k) ⟨#[99]⟩ = true) : (ownA k).toList = [] := by
  simp only [dueB, Bool.or_eq_true, list_one, List.isEmpty_iff, beq_iff_eq] at h
  rcases h with h | h
  · exact h
  · rw [ownA_list] at h
    split at h
    · simp at h
    · split at h
      · simp at h
      · exact absurd h (by simp)

theorem told_le {st : List Nat} {A B : Int} {la lb : List Int} {b : UInt8} {f : Nat → ActD} {n : Nat} :
    (srt byId ((evsA f n).filter (told st A la B lb ⟨#[99]⟩))).length ≤ (srt byId ((evsA f n).filter (told st A la B lb ⟨#[b]⟩))).length := by
  rw [srt_length, srt_length, ← List.countP_eq_length_filter, ← List.countP_eq_length_filter]
  refine List.countP_mono_left fun e he h => ?_
  simp only [evsA, List.mem_map] at he
  obtain ⟨i, _, rfl⟩ := he
  simp only [told, Bool.and_eq_true] at h ⊢
  refine ⟨?_, h.2⟩
  exact dueB_empty (due_c h.1) _


theorem Try.infoSp : (Try.prog.info? 31).map (fun i => (i.zero, i.size, i.bytes)) = some (some (.agg #[.int .i64 0, .slice none 0 0]), 2, 32) := by kernel_rfl

/-- What is free from A on is told to nobody, from A, and from Y, which isn't less, on. -/
theorem free_told {st : List Nat} {A Y T : Int} {v : Value} {la : List Int} {o : ByteArray} {e : Ev} (h : freeB st [⟨A, v, la⟩] [e] = true) (hY : A ≤ Y) :
    srt byId ([e].filter (told st A la T [] o)) = [] ∧ srt byId ([e].filter (told st Y [] T [] o)) = [] := by
  have hn : needB st [⟨A, v, la⟩] e = false := by
    cases hq : needB st [⟨A, v, la⟩] e with
    | false => rfl
    | true => exact absurd (free_no (i := 0) (l := [e]) rfl hq) (by rw [h]; decide)
  have key : stAt st e.tx = 2 → seesB A la e.tx = true := by
    intro h2
    simp only [needB, h2, List.any_cons, List.any_nil, Bool.or_false] at hn
    simpa using hn
  have h1 : told st A la T [] o e = false := by
    unfold told betw
    by_cases h2 : stAt st e.tx = 2
    · rw [key h2]; simp
    · simp [h2]
  have h3 : told st Y [] T [] o e = false := by
    unfold told betw
    by_cases h2 : stAt st e.tx = 2
    · have hs := seesB_iff.1 (key h2)
      have : seesB Y [] e.tx = true := seesB_iff.2 ⟨hs.1, by omega, by simp⟩
      rw [this]; simp
    · simp [h2]
  constructor
  · rw [List.filter_cons, h1]; rfl
  · rw [List.filter_cons, h3]; rfl

end Go.Proofs.Ytojkandkhhjaaaa
