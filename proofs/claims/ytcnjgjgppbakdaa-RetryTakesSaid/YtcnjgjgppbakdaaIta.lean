/-
  Events that come again as data, and what becomes of them, as plain functions: by their times, numbers, owners. No function of the program.
-/
import Derived.Test.YtcnjgjgppbakdaaGkc
import Derived.Test.YtcnjgjgppbakdaaCua
import Derived.Test.YtcnjgjgppbakdaaEv0
namespace Go.Proofs.Ytcnjgjgppbakdaa
set_option linter.unusedVariables false
open Go.RowKit

/-- An item: when it comes, the event. -/
structure It where
  a : Int
  e : Ev
def It.cs (x : It) : Array Value := #[.int .i64 x.a, .int .i64 x.e.id, .int .i64 x.e.tx, .string x.e.ow, .int .i64 x.e.tr, .int .i64 x.e.tb, .int .u8 x.e.kd, .int .i64 x.e.key, .string x.e.t]
def encIt : Enc It where
  k := 9
  cs := It.cs
  size := fun _ => rfl
  one := fun x u h => by
    simp only [It.cs, List.mem_cons, List.not_mem_nil, or_false] at h
    rcases h with rfl | rfl | rfl | rfl | rfl | rfl | rfl | rfl | rfl <;> rfl
  pos := by decide

/-- Their order. -/
def ltI (x y : It) : Bool := decide (x.a < y.a) || (decide (x.a = y.a) && (decide (x.e.id < y.e.id) || (decide (x.e.id = y.e.id) && ltN x.e.ow y.e.ow)))
theorem ltI_iff {x y : It} : ltI x y = true ↔ x.a < y.a ∨ (x.a = y.a ∧ (x.e.id < y.e.id ∨ (x.e.id = y.e.id ∧ ltN x.e.ow y.e.ow = true))) := by
  simp only [ltI, Bool.or_eq_true, Bool.and_eq_true, decide_eq_true_eq]
theorem ltI_ord : Ord ltI where
  irr := fun a => by
    cases h : ltI a a with
    | false => rfl
    | true =>
      rw [ltI_iff, ltN, bl_irrefl] at h
      simp at h
  tr := fun a b c h k => by
    rw [ltI_iff] at h k ⊢
    rcases h with h | ⟨h1, h⟩
    · rcases k with k | ⟨k1, k⟩
      · exact .inl (by omega)
      · exact .inl (by omega)
    · rcases k with k | ⟨k1, k⟩
      · exact .inl (by omega)
      · refine .inr ⟨by omega, ?_⟩
        rcases h with h | ⟨h2, h⟩
        · rcases k with k | ⟨k2, k⟩
          · exact .inl (by omega)
          · exact .inl (by omega)
        · rcases k with k | ⟨k2, k⟩
          · exact .inl (by omega)
          · exact .inr ⟨by omega, bl_trans _ _ _ h k⟩
theorem ltI_tri {x y : It} (h : ltI x y = false) (k : ltI y x = false) : x.a = y.a ∧ x.e.id = y.e.id ∧ x.e.ow = y.e.ow := by
  have h' : ¬ (ltI x y = true) := by rw [h]; decide
  have k' : ¬ (ltI y x = true) := by rw [k]; decide
  rw [ltI_iff] at h' k'
  have e1 : x.a = y.a := by
    rcases Int.lt_trichotomy x.a y.a with c | c | c
    · exact absurd (.inl c) h'
    · exact c
    · exact absurd (.inl c) k'
  have e2 : x.e.id = y.e.id := by
    rcases Int.lt_trichotomy x.e.id y.e.id with c | c | c
    · exact absurd (.inr ⟨e1, .inl c⟩) h'
    · exact c
    · exact absurd (.inr ⟨e1.symm, .inl c⟩) k'
  refine ⟨e1, e2, toList_inj (bl_tri _ _ ?_ ?_)⟩
  · cases c : Op.bytesLess x.e.ow.toList y.e.ow.toList with
    | false => rfl
    | true => exact absurd (.inr ⟨e1, .inr ⟨e2, c⟩⟩) h'
  · cases c : Op.bytesLess y.e.ow.toList x.e.ow.toList with
    | false => rfl
    | true => exact absurd (.inr ⟨e1.symm, .inr ⟨e2.symm, c⟩⟩) k'

/-- Is it that event, for that owner? -/
def isK (id : Int) (ow : ByteArray) (x : It) : Bool := (x.e.id == id) && (x.e.ow.toList == ow.toList)
theorem isK_iff {id : Int} {ow : ByteArray} {x : It} : isK id ow x = true ↔ x.e.id = id ∧ x.e.ow = ow := by
  simp only [isK, Bool.and_eq_true, beq_iff_eq]
  exact ⟨fun ⟨h1, h2⟩ => ⟨h1, toList_inj h2⟩, fun ⟨h1, h2⟩ => ⟨h1, by rw [h2]⟩⟩

/-- One try more. -/
def trN (n : Int) : Int := if n < 2147483647 then n + 1 else n
/-- The item that Add makes. -/
def addX (e : Ev) (ow : ByteArray) (at' : Int) : It := ⟨at', ⟨e.id, e.tx, ow, trN e.tr, e.tb, e.kd, e.key, e.t⟩⟩
def adiE (l : List It) (id : Int) (ow : ByteArray) : Int := if ow.size < 1 then 1 else if l.any (isK id ow) then 5 else if 16 ≤ l.length then 8 else 0
def adiL (l : List It) (e : Ev) (ow : ByteArray) (at' : Int) : List It := if adiE l e.id ow = 0 then insG ltI (addX e ow at') l else l
/-- Those whose time has come, and the others. -/
def dueI (l : List It) (now : Int) : List It := l.filter fun x => decide (x.a ≤ now)
def lftI (l : List It) (now : Int) : List It := l.filter fun x => !decide (x.a ≤ now)
/-- Those that aren't that owner's. -/
def drpI (l : List It) (ow : ByteArray) : List It := l.filter fun x => !(x.e.ow.toList == ow.toList)

/-- What stands: they rise, no two are one event for one owner, sixteen at most. -/
structure OkI (l : List It) : Prop where
  rise : Rise ltI l
  uniq : l.Pairwise fun x y => ¬ (x.e.id = y.e.id ∧ x.e.ow = y.e.ow)
  few : l.length ≤ 16

theorem OkI.nil : OkI [] := ⟨List.Pairwise.nil, List.Pairwise.nil, by simp⟩
theorem OkI.sub {l m : List It} (h : OkI l) (hs : m.Sublist l) : OkI m := ⟨h.rise.sublist hs, h.uniq.sublist hs, Nat.le_trans hs.length_le h.few⟩
theorem OkI.due {l : List It} (h : OkI l) (now : Int) : OkI (dueI l now) := h.sub List.filter_sublist
theorem OkI.lft {l : List It} (h : OkI l) (now : Int) : OkI (lftI l now) := h.sub List.filter_sublist
theorem OkI.drp {l : List It} (h : OkI l) (ow : ByteArray) : OkI (drpI l ow) := h.sub List.filter_sublist
theorem adiE_zero {l : List It} {id : Int} {ow : ByteArray} (h : adiE l id ow = 0) : 1 ≤ ow.size ∧ (∀ x ∈ l, ¬ (x.e.id = id ∧ x.e.ow = ow)) ∧ l.length < 16 := by
  unfold adiE at h
  split at h
  · cases h
  · rename_i h1
    split at h
    · cases h
    · rename_i h2
      split at h
      · cases h
      · rename_i h3
        refine ⟨by omega, fun x hx hc => h2 ?_, by omega⟩
        rw [List.any_eq_true]
        exact ⟨x, hx, isK_iff.2 hc⟩
theorem OkI.add {l : List It} (h : OkI l) (e : Ev) (ow : ByteArray) (at' : Int) : OkI (adiL l e ow at') := by
  unfold adiL
  split
  · rename_i h0
    obtain ⟨_, h2, h3⟩ := adiE_zero h0
    refine ⟨insG_rise ltI_ord h.rise (fun y hy hc => ?_), insG_pairwise h.uniq (fun y hy => ⟨fun hc => h2 y hy ⟨hc.1.symm, hc.2.symm⟩, fun hc => h2 y hy hc⟩), by rw [insG_length]; omega⟩
    cases hk : ltI y (addX e ow at') with
    | true => rfl
    | false =>
      obtain ⟨_, e2, e3⟩ := ltI_tri hc hk
      exact absurd ⟨e2.symm, e3.symm⟩ (h2 y hy)
  · exact h

/-- Those whose time has come stand ahead. -/
theorem due_cut {l : List It} (h : Rise ltI l) (now : Int) : Cutp (fun x : It => decide (x.a ≤ now)) l := by
  refine List.Pairwise.imp (fun {x y} hxy => ?_) h
  intro hy
  have := ltI_iff.1 hxy
  simp only [decide_eq_true_eq] at hy ⊢
  omega
theorem due_take {l : List It} (h : Rise ltI l) (now : Int) : l.take (dueI l now).length = dueI l now ∧ l.drop (dueI l now).length = lftI l now := by
  have hc : (dueI l now).length = l.countP fun x => decide (x.a ≤ now) := by rw [dueI, List.countP_eq_length_filter]
  rw [hc]
  exact cut_take (due_cut h now)
/-- Where one stands that has not come, all behind it have not. -/
theorem due_stop {l : List It} (h : Rise ltI l) {now : Int} {i : Nat} (h1 : ∀ j y, j < i → l[j]? = some y → y.a ≤ now) (h2 : ∀ y, l[i]? = some y → ¬ y.a ≤ now) (hi : i ≤ l.length) : (dueI l now).length = i := by
  have hc : (dueI l now).length = l.countP fun x => decide (x.a ≤ now) := by rw [dueI, List.countP_eq_length_filter]
  obtain ⟨s1, s2⟩ := cut_spec (due_cut h now)
  rw [hc]
  rcases Nat.lt_trichotomy (l.countP fun x => decide (x.a ≤ now)) i with c | c | c
  · obtain ⟨y, hy⟩ : ∃ y, l[l.countP fun x => decide (x.a ≤ now)]? = some y := ⟨_, List.getElem?_eq_getElem (by omega)⟩
    have := s2 _ y (Nat.le_refl _) hy
    have h3 := h1 _ y c hy
    simp at this
    omega
  · exact c
  · have hil : i < l.length := Nat.lt_of_lt_of_le c List.countP_le_length
    have h3 := s1 i l[i] c (List.getElem?_eq_getElem hil)
    have h4 := h2 l[i] (List.getElem?_eq_getElem hil)
    simp at h3
    omega

end Go.Proofs.Ytcnjgjgppbakdaa
