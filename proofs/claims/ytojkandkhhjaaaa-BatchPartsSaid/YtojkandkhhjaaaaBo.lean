/-
  What lies between three snapshots that rise: plain lists; two events compared.
-/
import Derived.Test.YtojkandkhhjaaaaBn
namespace Go.Proofs.Ytojkandkhhjaaaa
set_option linter.unusedVariables false
open Go.RowKit Go.Maps

theorem ev_eq (a b : Int) (o : ByteArray) (c d k y : Int) (t : ByteArray) (w : World) :
    (binOp .eql 42 (.agg #[.int .i64 a, .int .i64 b, .string o, .int .i64 c, .int .i64 d, .int .u8 k, .int .i64 y, .string t]) (.agg #[.int .i64 a, .int .i64 b, .string o, .int .i64 c, .int .i64 d, .int .u8 k, .int .i64 y, .string t])).run Try.prog w = .ok (.bool true) w := by
  rw [run_eql_struct]
  go_simp

theorem ev_df (a b : Int) (o : ByteArray) (c d k y : Int) (t : ByteArray) (a' b' : Int) (o' : ByteArray) (c' d' k' y' : Int) (t' : ByteArray) (h : d ≠ d') (w : World) :
    (binOp .eql 42 (.agg #[.int .i64 a, .int .i64 b, .string o, .int .i64 c, .int .i64 d, .int .u8 k, .int .i64 y, .string t]) (.agg #[.int .i64 a', .int .i64 b', .string o', .int .i64 c', .int .i64 d', .int .u8 k', .int .i64 y', .string t'])).run Try.prog w = .ok (.bool false) w := by
  have h1 : (d == d') = false := beq_eq_false_iff_ne.2 h
  rw [run_eql_struct]
  go_simp

/-- How many bear the place that e bears. -/
def cnt (l : List Ev) (e : Ev) : Nat := l.countP fun x => x.tb == e.tb
theorem cnt_step {l : List Ev} {i : Nat} {x e : Ev} (h : l[i]? = some x) : cnt (l.take (i + 1)) e = cnt (l.take i) e + if x.tb = e.tb then 1 else 0 := by
  unfold cnt
  rw [List.take_add_one, h, List.countP_append]
  simp only [Option.toList_some, List.countP_cons, List.countP_nil, Nat.zero_add, beq_iff_eq]
theorem cnt_le (l : List Ev) (i : Nat) (e : Ev) : cnt (l.take i) e ≤ l.length := Nat.le_trans List.countP_le_length (by rw [List.length_take]; omega)

theorem ins_countP (p : Ev → Bool) (x : Ev) (l : List Ev) : (ins byId x l).countP p = l.countP p + if p x then 1 else 0 := by
  induction l with
  | nil => simp [ins, List.countP_cons]
  | cons y t ih =>
    rw [ins]
    split
    · rw [List.countP_cons, ih, List.countP_cons]; omega
    · rw [List.countP_cons]
theorem srt_countP (p : Ev → Bool) (l : List Ev) : (srt byId l).countP p = l.countP p := by
  have : ∀ (l o : List Ev), (l.foldl (fun o x => ins byId x o) o).countP p = o.countP p + l.countP p := by
    intro l
    induction l with
    | nil => intro o; simp
    | cons x t ih => intro o; rw [List.foldl_cons, ih, ins_countP, List.countP_cons]; omega
  simpa [srt] using this l []

theorem evsA_count (P : Ev → Bool) (f : Nat → ActD) (j n : Nat) : ((evsA f n).filter P).countP (fun x => x.tb == (j : Int)) = if j < n ∧ P (evA f j) = true then 1 else 0 := by
  rw [List.countP_filter]
  induction n with
  | zero => simp [evsA]
  | succ n ih =>
    rw [evsA_succ, List.countP_append, ih, List.countP_cons, List.countP_nil]
    have e1 : (evA f n).tb = (n : Int) := rfl
    rw [e1]
    by_cases h : n = j
    · subst h
      cases hp : P (evA f n) <;> simp
    · have e2 : ((n : Int) == (j : Int)) = false := by rw [beq_eq_false_iff_ne]; omega
      rw [e2]
      cases hp : P (evA f j)
      · simp
      · by_cases h3 : j < n
        · have h4 : j < n + 1 := by omega
          simp [h3, h4]
        · have h4 : ¬ j < n + 1 := by omega
          simp [h3, h4]

/-- Those of one place are one. -/
theorem evsA_same {f : Nat → ActD} {n : Nat} {P Q : Ev → Bool} {i k : Nat} {x y : Ev} (hx : (srt byId ((evsA f n).filter P))[i]? = some x) (hy : (srt byId ((evsA f n).filter Q))[k]? = some y) (h : x.tb = y.tb) : x = y := by
  have h1 := List.mem_of_getElem? hx
  have h2 := List.mem_of_getElem? hy
  rw [mem_srt, List.mem_filter] at h1 h2
  simp only [evsA, List.mem_map] at h1 h2
  obtain ⟨⟨a, _, rfl⟩, _⟩ := h1
  obtain ⟨⟨b, _, rfl⟩, _⟩ := h2
  have e1 : (evA f a).tb = (a : Int) := rfl
  have e2 : (evA f b).tb = (b : Int) := rfl
  rw [e1, e2] at h
  obtain rfl : a = b := by omega
  rfl

/-- The middle one covers the first, the last the middle one. -/
theorem parts_one {st : List Nat} {A Y Z : Int} {la l : List Int} {o : ByteArray} (hAY : A ≤ Y) (hYZ : Y ≤ Z) (hl : ∀ x ∈ l, x ∈ la) (e : Ev) :
    (if told st A la Z [] o e = true then 1 else 0) = (if told st A la Y l o e = true then 1 else 0) + (if told st Y l Z [] o e = true then 1 else 0) := by
  unfold told betw
  cases dueB e.ow o with
  | false => simp
  | true =>
    cases h2 : (stAt st e.tx == 2) with
    | false => simp
    | true =>
      have c1 : seesB A la e.tx = true → seesB Y l e.tx = true := fun h => by
        obtain ⟨h1, h2, h3⟩ := seesB_iff.1 h
        exact seesB_iff.2 ⟨h1, by omega, fun hm => h3 (hl _ hm)⟩
      have c2 : seesB Y l e.tx = true → seesB Z [] e.tx = true := fun h => by
        obtain ⟨h1, h2, h3⟩ := seesB_iff.1 h
        exact seesB_iff.2 ⟨h1, by omega, by simp⟩
      cases a1 : seesB A la e.tx with
      | true => rw [c1 a1, c2 (c1 a1)]; simp
      | false =>
        cases a2 : seesB Y l e.tx with
        | true => rw [c2 a2]; simp
        | false => simp

theorem parts_len {st : List Nat} {A Y Z : Int} {la l : List Int} {o : ByteArray} (hAY : A ≤ Y) (hYZ : Y ≤ Z) (hl : ∀ x ∈ l, x ∈ la) (L : List Ev) :
    (srt byId (L.filter (told st A la Z [] o))).length = (srt byId (L.filter (told st A la Y l o))).length + (srt byId (L.filter (told st Y l Z [] o))).length := by
  rw [srt_length, srt_length, srt_length]
  induction L with
  | nil => rfl
  | cons e L ih =>
    have := parts_one (st := st) (o := o) hAY hYZ hl e
    rw [List.filter_cons, List.filter_cons, List.filter_cons]
    split <;> split <;> split <;> simp_all <;> omega

theorem parts_cnt {st : List Nat} {A Y Z : Int} {la l : List Int} {o : ByteArray} (hAY : A ≤ Y) (hYZ : Y ≤ Z) (hl : ∀ x ∈ l, x ∈ la) {f : Nat → ActD} {n i : Nat} {e : Ev} (he : (srt byId ((evsA f n).filter (told st A la Z [] o)))[i]? = some e) :
    cnt (srt byId ((evsA f n).filter (told st A la Y l o))) e + cnt (srt byId ((evsA f n).filter (told st Y l Z [] o))) e = 1 := by
  have h1 := List.mem_of_getElem? he
  rw [mem_srt, List.mem_filter] at h1
  obtain ⟨h2, h3⟩ := h1
  simp only [evsA, List.mem_map, List.mem_range] at h2
  obtain ⟨j, hj, rfl⟩ := h2
  have e1 : (evA f j).tb = (j : Int) := rfl
  unfold cnt
  rw [e1, srt_countP, srt_countP, evsA_count, evsA_count]
  have := parts_one (st := st) (o := o) hAY hYZ hl (evA f j)
  rw [h3] at this
  simp only [hj, true_and]
  exact this.symm

end Go.Proofs.Ytojkandkhhjaaaa
