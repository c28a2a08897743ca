/-
  An event as plain data, its bytes, and how they are read: the code's way (a mark beside the reader) and the document's. No program in sight.
-/
import Derived.Test.YtkpjbmcgfdophaaItems
namespace Go.Proofs.Ytkpjbmcgfdophaa
open Go.RowKit

/-- An event. -/
structure Ev where
  id : Int
  tx : Int
  ow : ByteArray
  tr : Int
  tb : Int
  kd : Int
  key : Int
  t : ByteArray

def Ev.zero : Ev := ⟨0, 0, ⟨#[]⟩, 0, 0, 0, 0, ⟨#[]⟩⟩

/-- Its cells. -/
def Ev.cs (e : Ev) : Array Value := #[.int .i64 e.id, .int .i64 e.tx, .string e.ow, .int .i64 e.tr, .int .i64 e.tb, .int .u8 e.kd, .int .i64 e.key, .string e.t]

/-- Its numbers are what their types may be. -/
structure Ev.Ok (e : Ev) : Prop where
  id : -9223372036854775808 ≤ e.id ∧ e.id ≤ 9223372036854775807
  tx : -9223372036854775808 ≤ e.tx ∧ e.tx ≤ 9223372036854775807
  tr : -9223372036854775808 ≤ e.tr ∧ e.tr ≤ 9223372036854775807
  tb : -9223372036854775808 ≤ e.tb ∧ e.tb ≤ 9223372036854775807
  kd : 0 ≤ e.kd ∧ e.kd ≤ 255
  key : -9223372036854775808 ≤ e.key ∧ e.key ≤ 9223372036854775807
  ow : e.ow.size ≤ 9223372036854775807
  t : e.t.size ≤ 9223372036854775807

/-- May an event be? -/
structure Ev.Right (e : Ev) : Prop where
  id : 1 ≤ e.id
  tx : 1 ≤ e.tx
  ow : e.ow.size ≤ 40
  t : e.t.size ≤ 40
  tr : 0 ≤ e.tr ∧ e.tr ≤ 2147483647
  tb : 0 ≤ e.tb ∧ e.tb ≤ 3
  kd : 1 ≤ e.kd ∧ e.kd ≤ 4

def Ev.rightB (e : Ev) : Bool :=
  decide (1 ≤ e.id) && decide (1 ≤ e.tx) && decide (e.ow.size ≤ 40) && decide (e.t.size ≤ 40) && decide (0 ≤ e.tr) && decide (e.tr ≤ 2147483647) && decide (0 ≤ e.tb) && decide (e.tb ≤ 3) && decide (1 ≤ e.kd) && decide (e.kd ≤ 4)

theorem Ev.rightB_iff (e : Ev) : e.rightB = true ↔ e.Right := by
  unfold Ev.rightB
  simp only [Bool.and_eq_true, decide_eq_true_eq]
  constructor
  · rintro ⟨⟨⟨⟨⟨⟨⟨⟨⟨h1, h2⟩, h3⟩, h4⟩, h5⟩, h6⟩, h7⟩, h8⟩, h9⟩, h10⟩
    exact ⟨h1, h2, h3, h4, ⟨h5, h6⟩, ⟨h7, h8⟩, ⟨h9, h10⟩⟩
  · rintro ⟨h1, h2, h3, h4, ⟨h5, h6⟩, ⟨h7, h8⟩, ⟨h9, h10⟩⟩
    exact ⟨⟨⟨⟨⟨⟨⟨⟨⟨h1, h2⟩, h3⟩, h4⟩, h5⟩, h6⟩, h7⟩, h8⟩, h9⟩, h10⟩

/-- An event's bytes. -/
def Ev.r8 (e : Ev) : List UInt8 := textL e.t.data.toList
def Ev.r7 (e : Ev) : List UInt8 := intL e.key ++ e.r8
def Ev.r6 (e : Ev) : List UInt8 := numL e.kd.toNat ++ e.r7
def Ev.r5 (e : Ev) : List UInt8 := numL e.tb.toNat ++ e.r6
def Ev.r4 (e : Ev) : List UInt8 := numL e.tr.toNat ++ e.r5
def Ev.r3 (e : Ev) : List UInt8 := textL e.ow.data.toList ++ e.r4
def Ev.r2 (e : Ev) : List UInt8 := numL e.tx.toNat ++ e.r3
def Ev.encL (e : Ev) : List UInt8 := numL e.id.toNat ++ e.r2

theorem size_list (s : ByteArray) : s.data.toList.length = s.size := by rw [Array.length_toList]; rfl

theorem Ev.encL_len {e : Ev} (h : e.Right) (o : e.Ok) : e.encL.length ≤ 200 := by
  have a1 := numL_ten (n := e.id.toNat) (by have := o.id; omega)
  have a2 := numL_ten (n := e.tx.toNat) (by have := o.tx; omega)
  have a3 := numL_ten (n := e.tr.toNat) (by have := o.tr; omega)
  have a4 := numL_ten (n := e.tb.toNat) (by have := o.tb; omega)
  have a5 := numL_ten (n := e.kd.toNat) (by have := o.kd; omega)
  have a6 := numL_ten (Lib.zigzag_lt o.key.1 o.key.2)
  have a7 := numL_ten (n := e.ow.data.toList.length) (by have := h.ow; rw [size_list]; omega)
  have a8 := numL_ten (n := e.t.data.toList.length) (by have := h.t; rw [size_list]; omega)
  have b1 := h.ow
  have b2 := h.t
  have b3 := size_list e.ow
  have b4 := size_list e.t
  simp only [Ev.encL, Ev.r2, Ev.r3, Ev.r4, Ev.r5, Ev.r6, Ev.r7, Ev.r8, textL, intL, List.length_append]
  omega

/-- The code's reader of fields: was a number bad? the first error, what is left. -/
structure Sd where
  bad : Bool
  e : Int
  l : List UInt8

def badN (lo hi : Nat) (e1 : Int) (n : Nat) : Bool := decide (e1 = 0) && (decide (n < lo) || decide (hi < n))

def stN (lo hi : Nat) (s : Sd) : Nat × Sd :=
  ((rNum s.e s.l).1, ⟨s.bad || badN lo hi (rNum s.e s.l).2.2 (rNum s.e s.l).1, (rNum s.e s.l).2.2, (rNum s.e s.l).2.1⟩)
def stT (s : Sd) : List UInt8 × Sd := ((rText 40 s.e s.l).1, ⟨s.bad, (rText 40 s.e s.l).2.2, (rText 40 s.e s.l).2.1⟩)
def stI (s : Sd) : Int × Sd := (unzig (rNum s.e s.l).1, ⟨s.bad, (rNum s.e s.l).2.2, (rNum s.e s.l).2.1⟩)

/-- The document's reader of a number between two. -/
def rfN (lo hi : Nat) (e : Int) (l : List UInt8) : Nat × List UInt8 × Int :=
  if badN lo hi (rNum e l).2.2 (rNum e l).1 = true then (0, [], 2) else rNum e l
def rfI (e : Int) (l : List UInt8) : Int × List UInt8 × Int := (unzig (rNum e l).1, (rNum e l).2.1, (rNum e l).2.2)

/-- The code's fields, one by one. -/
def c1 (p : List UInt8) := stN 1 9223372036854775807 ⟨false, 0, p⟩
def c2 (p : List UInt8) := stN 1 9223372036854775807 (c1 p).2
def c3 (p : List UInt8) := stT (c2 p).2
def c4 (p : List UInt8) := stN 0 2147483647 (c3 p).2
def c5 (p : List UInt8) := stN 0 3 (c4 p).2
def c6 (p : List UInt8) := stN 1 4 (c5 p).2
def c7 (p : List UInt8) := stI (c6 p).2
def c8 (p : List UInt8) := stT (c7 p).2

/-- The document's. -/
def d1 (p : List UInt8) := rfN 1 9223372036854775807 0 p
def d2 (p : List UInt8) := rfN 1 9223372036854775807 (d1 p).2.2 (d1 p).2.1
def d3 (p : List UInt8) := rText 40 (d2 p).2.2 (d2 p).2.1
def d4 (p : List UInt8) := rfN 0 2147483647 (d3 p).2.2 (d3 p).2.1
def d5 (p : List UInt8) := rfN 0 3 (d4 p).2.2 (d4 p).2.1
def d6 (p : List UInt8) := rfN 1 4 (d5 p).2.2 (d5 p).2.1
def d7 (p : List UInt8) := rfI (d6 p).2.2 (d6 p).2.1
def d8 (p : List UInt8) := rText 40 (d7 p).2.2 (d7 p).2.1

def evOf (a b : Nat) (o : List UInt8) (c d k : Nat) (y : Int) (t : List UInt8) : Ev :=
  ⟨wrap64 a, wrap64 b, strL o, wrap64 c, wrap64 d, (k : Int) % 256, y, strL t⟩

/-- What is told: the error, the event. -/
def cErr (p : List UInt8) : Int := if (c8 p).2.bad = true then 2 else rEnd (c8 p).2.e (c8 p).2.l
def cEv (p : List UInt8) : Ev := if cErr p = 0 then evOf (c1 p).1 (c2 p).1 (c3 p).1 (c4 p).1 (c5 p).1 (c6 p).1 (c7 p).1 (c8 p).1 else Ev.zero
def dErr (p : List UInt8) : Int := rEnd (d8 p).2.2 (d8 p).2.1
def dEv (p : List UInt8) : Ev := if dErr p = 0 then evOf (d1 p).1 (d2 p).1 (d3 p).1 (d4 p).1 (d5 p).1 (d6 p).1 (d7 p).1 (d8 p).1 else Ev.zero

/-- How both stand to each other. -/
def Like (s : Sd) (e : Int) (l : List UInt8) : Prop := (s.bad = false → s.e = e ∧ s.l = l) ∧ (s.bad = true → e = 2)

theorem rNum_err {e : Int} (h : e ≠ 0) (l : List UInt8) : rNum e l = (0, l, e) := by rw [rNum, if_neg h]
theorem rText_err {e : Int} (h : e ≠ 0) (m : Int) (l : List UInt8) : rText m e l = ([], l, e) := by rw [rText, rNum_err h, rTextOf, if_neg h]

theorem like_N {s : Sd} {e : Int} {l : List UInt8} (h : Like s e l) (lo hi : Nat) :
    Like (stN lo hi s).2 (rfN lo hi e l).2.2 (rfN lo hi e l).2.1 ∧ ((stN lo hi s).2.bad = false → s.bad = false ∧ (stN lo hi s).1 = (rfN lo hi e l).1) := by
  cases hb : s.bad with
  | false =>
    obtain ⟨rfl, rfl⟩ := h.1 hb
    unfold stN rfN Like
    rw [hb]
    simp only [Bool.false_or]
    cases hx : badN lo hi (rNum s.e s.l).2.2 (rNum s.e s.l).1 <;> simp
  | true =>
    obtain rfl := h.2 hb
    unfold stN rfN Like
    rw [hb, rNum_err (by decide) l]
    simp [badN]

theorem like_T {s : Sd} {e : Int} {l : List UInt8} (h : Like s e l) :
    Like (stT s).2 (rText 40 e l).2.2 (rText 40 e l).2.1 ∧ ((stT s).2.bad = false → s.bad = false ∧ (stT s).1 = (rText 40 e l).1) := by
  cases hb : s.bad with
  | false =>
    obtain ⟨rfl, rfl⟩ := h.1 hb
    unfold stT Like
    rw [hb]
    simp
  | true =>
    obtain rfl := h.2 hb
    unfold stT Like
    rw [hb, rText_err (by decide) 40 l]
    simp

theorem like_I {s : Sd} {e : Int} {l : List UInt8} (h : Like s e l) :
    Like (stI s).2 (rfI e l).2.2 (rfI e l).2.1 ∧ ((stI s).2.bad = false → s.bad = false ∧ (stI s).1 = (rfI e l).1) := by
  cases hb : s.bad with
  | false =>
    obtain ⟨rfl, rfl⟩ := h.1 hb
    unfold stI rfI Like
    rw [hb]
    simp
  | true =>
    obtain rfl := h.2 hb
    unfold stI rfI Like
    rw [hb, rNum_err (by decide) l]
    simp

/-- BOTH READ ALIKE. -/
theorem dec_same (p : List UInt8) : cErr p = dErr p ∧ cEv p = dEv p := by
  have l0 : Like ⟨false, 0, p⟩ 0 p := ⟨fun _ => ⟨rfl, rfl⟩, fun h => by simp at h⟩
  obtain ⟨l1, v1⟩ := like_N l0 1 9223372036854775807
  obtain ⟨l2, v2⟩ := like_N l1 1 9223372036854775807
  obtain ⟨l3, v3⟩ := like_T l2
  obtain ⟨l4, v4⟩ := like_N l3 0 2147483647
  obtain ⟨l5, v5⟩ := like_N l4 0 3
  obtain ⟨l6, v6⟩ := like_N l5 1 4
  obtain ⟨l7, v7⟩ := like_I l6
  obtain ⟨l8, v8⟩ := like_T l7
  change Like (c8 p).2 (d8 p).2.2 (d8 p).2.1 at l8
  have herr : cErr p = dErr p := by
    unfold cErr dErr
    cases hb : (c8 p).2.bad with
    | false =>
      obtain ⟨h1, h2⟩ := l8.1 hb
      rw [h1, h2]
      simp
    | true =>
      rw [l8.2 hb]
      simp [rEnd]
  refine ⟨herr, ?_⟩
  unfold cEv dEv
  rw [← herr]
  by_cases h0 : cErr p = 0
  · rw [if_pos h0, if_pos h0]
    have b8 : (c8 p).2.bad = false := by
      cases hb : (c8 p).2.bad with
      | false => rfl
      | true => rw [cErr, if_pos hb] at h0; simp at h0
    obtain ⟨b7, e8⟩ := v8 b8
    obtain ⟨b6, e7⟩ := v7 b7
    obtain ⟨b5, e6⟩ := v6 b6
    obtain ⟨b4, e5⟩ := v5 b5
    obtain ⟨b3, e4⟩ := v4 b4
    obtain ⟨b2, e3⟩ := v3 b3
    obtain ⟨b1, e2⟩ := v2 b2
    obtain ⟨_, e1⟩ := v1 b1
    change (c1 p).1 = (d1 p).1 at e1
    change (c2 p).1 = (d2 p).1 at e2
    change (c3 p).1 = (d3 p).1 at e3
    change (c4 p).1 = (d4 p).1 at e4
    change (c5 p).1 = (d5 p).1 at e5
    change (c6 p).1 = (d6 p).1 at e6
    change (c7 p).1 = (d7 p).1 at e7
    change (c8 p).1 = (d8 p).1 at e8
    rw [e1, e2, e3, e4, e5, e6, e7, e8]
  · rw [if_neg h0, if_neg h0]

/-- A number that is read stands there in its one form. -/
theorem rn_form (l : List UInt8) : ∀ (i acc x s : Nat), rn i acc l = (x, s, 0) → i ≤ 9 → ∃ n, x = acc + n * 128 ^ i ∧ (0 < i → 0 < n) ∧ i < s ∧ l = numL n ++ l.drop (s - i) := by
  induction l with
  | nil => intro i acc x s h; simp [rn] at h
  | cons b t ih =>
    intro i acc x s h hi
    rw [rn] at h
    by_cases h1 : (i = 9 ∧ 1 < b.toNat) ∨ (0 < i ∧ b.toNat = 0)
    · rw [if_pos h1] at h; simp at h
    · rw [if_neg h1] at h
      by_cases h2 : b.toNat < 128
      · rw [if_pos h2] at h
        simp only [Prod.mk.injEq] at h
        obtain ⟨rfl, rfl, _⟩ := h
        refine ⟨b.toNat, rfl, by omega, by omega, ?_⟩
        rw [numL_small h2, show i + 1 - i = 1 from by omega]
        simp
      · rw [if_neg h2] at h
        have hi9 : i ≠ 9 := by intro h9; exact h1 (.inl ⟨h9, by omega⟩)
        obtain ⟨n, rfl, hn, hs, ht⟩ := ih (i + 1) _ x s h (by omega)
        have hn0 := hn (by omega)
        have hb := UInt8.toNat_lt b
        refine ⟨n * 128 + (b.toNat - 128), ?_, by omega, by omega, ?_⟩
        · rw [Nat.pow_succ, Nat.add_mul, Nat.mul_comm (128 ^ i) 128, ← Nat.mul_assoc]
          omega
        · rw [numL_great (by omega), show (n * 128 + (b.toNat - 128)) / 128 = n from by omega, show (n * 128 + (b.toNat - 128)) % 128 + 128 = b.toNat from by omega]
          obtain ⟨k, hk⟩ : ∃ k, s - i = k + 1 := ⟨s - i - 1, by omega⟩
          rw [hk, List.drop_succ_cons, show k = s - (i + 1) from by omega]
          simp only [UInt8.ofNat_toNat, List.cons_append]
          rw [← ht]

theorem rdN_form (l : List UInt8) (h : (rdN l).2.2 = 0) : l = numL (rdN l).1 ++ l.drop (rdN l).2.1 := by
  obtain ⟨n, h1, _, _, h4⟩ := rn_form l 0 0 (rdN l).1 (rdN l).2.1 (by rw [← h]; rfl) (by omega)
  rw [h1]
  simpa using h4

theorem rNum_ok {e : Int} {l : List UInt8} (h : (rNum e l).2.2 = 0) : e = 0 ∧ l = numL (rNum e l).1 ++ (rNum e l).2.1 ∧ (rNum e l).1 < 18446744073709551616 := by
  by_cases he : e = 0
  · subst he
    by_cases h1 : (rdN l).2.2 = 0
    · have hr : rNum 0 l = ((rdN l).1, l.drop (rdN l).2.1, 0) := by rw [rNum, if_pos rfl, if_pos h1]
      rw [hr]
      exact ⟨rfl, rdN_form l h1, (rdN_ok l h1).2.2⟩
    · rw [rNum, if_pos rfl, if_neg h1] at h
      exact absurd h h1
  · rw [rNum_err he] at h
    exact absurd h he

theorem rText_ok {e : Int} {l : List UInt8} (h : (rText 40 e l).2.2 = 0) : e = 0 ∧ l = textL (rText 40 e l).1 ++ (rText 40 e l).2.1 ∧ (rText 40 e l).1.length ≤ 40 := by
  unfold rText rTextOf at h ⊢
  by_cases h1 : (rNum e l).2.2 = 0
  · obtain ⟨he, hl, _⟩ := rNum_ok h1
    rw [if_pos h1] at h ⊢
    by_cases h2 : max (40 : Int) 0 < ((rNum e l).1 : Int)
    · rw [if_pos h2] at h; simp at h
    · rw [if_neg h2] at h ⊢
      by_cases h3 : (rNum e l).2.1.length < (rNum e l).1
      · rw [if_pos h3] at h; simp at h
      · rw [if_neg h3]
        refine ⟨he, ?_, ?_⟩
        · show l = textL ((rNum e l).2.1.take (rNum e l).1) ++ (rNum e l).2.1.drop (rNum e l).1
          unfold textL
          rw [List.length_take, Nat.min_eq_left (by omega), List.append_assoc, List.take_append_drop]
          exact hl
        · show ((rNum e l).2.1.take (rNum e l).1).length ≤ 40
          rw [List.length_take]
          omega
  · rw [if_neg h1] at h
    exact absurd h h1

theorem badN_no {lo hi : Nat} {n : Nat} (h : badN lo hi 0 n = false) : lo ≤ n ∧ n ≤ hi := by
  unfold badN at h
  simp at h
  omega

theorem rfN_ok {lo hi : Nat} {e : Int} {l : List UInt8} (h : (rfN lo hi e l).2.2 = 0) : e = 0 ∧ l = numL (rfN lo hi e l).1 ++ (rfN lo hi e l).2.1 ∧ lo ≤ (rfN lo hi e l).1 ∧ (rfN lo hi e l).1 ≤ hi := by
  unfold rfN at h ⊢
  cases hb : badN lo hi (rNum e l).2.2 (rNum e l).1 with
  | true => rw [hb] at h; simp at h
  | false =>
    rw [hb] at h
    simp only [Bool.false_eq_true, if_false] at h ⊢
    obtain ⟨h1, h2, h3⟩ := rNum_ok h
    rw [h] at hb
    exact ⟨h1, h2, badN_no hb⟩

theorem zigzag_unzig (n : Nat) (hn : n < 18446744073709551616) : Lib.zigzag (unzig n) = n := by
  unfold unzig Lib.zigzag
  by_cases h : n % 2 = 1
  · rw [if_pos h, if_neg (by omega)]; omega
  · rw [if_neg h, if_pos (by omega)]; omega

theorem unzig_range (n : Nat) (hn : n < 18446744073709551616) : -9223372036854775808 ≤ unzig n ∧ unzig n ≤ 9223372036854775807 := by
  unfold unzig
  by_cases h : n % 2 = 1
  · rw [if_pos h]; omega
  · rw [if_neg h]; omega

theorem strL_list (l : List UInt8) : (strL l).data.toList = l := rfl
theorem strL_size (l : List UInt8) : (strL l).size = l.length := rfl

theorem wrap64_id {n : Nat} (h : n ≤ 9223372036854775807) : wrap64 (n : Int) = n := by unfold wrap64; omega

/-- WHAT IS READ IS RIGHT, and has just these bytes. -/
theorem dec_ok {p : List UInt8} (h : dErr p = 0) : (dEv p).Right ∧ (dEv p).Ok ∧ (dEv p).encL = p := by
  have h' := h
  unfold dErr rEnd at h
  have e8 : (d8 p).2.2 = 0 := by
    by_cases h1 : (d8 p).2.2 = 0
    · exact h1
    · rw [if_neg h1] at h; exact h
  rw [if_pos e8] at h
  have n8 : (d8 p).2.1 = [] := by
    by_cases h1 : (d8 p).2.1 = []
    · exact h1
    · rw [if_neg h1] at h; simp at h
  obtain ⟨e7, q8, s8⟩ := rText_ok (e := (d7 p).2.2) (l := (d7 p).2.1) e8
  change (d7 p).2.1 = textL (d8 p).1 ++ (d8 p).2.1 at q8
  change (d8 p).1.length ≤ 40 at s8
  rw [n8, List.append_nil] at q8
  obtain ⟨e6, q7, s7⟩ := rNum_ok (e := (d6 p).2.2) (l := (d6 p).2.1) e7
  change (d6 p).2.1 = _ ++ (d7 p).2.1 at q7
  obtain ⟨e5, q6, s6⟩ := rfN_ok (e := (d5 p).2.2) (l := (d5 p).2.1) e6
  change (d5 p).2.1 = numL (d6 p).1 ++ (d6 p).2.1 at q6
  obtain ⟨e4, q5, s5⟩ := rfN_ok (e := (d4 p).2.2) (l := (d4 p).2.1) e5
  change (d4 p).2.1 = numL (d5 p).1 ++ (d5 p).2.1 at q5
  obtain ⟨e3, q4, s4⟩ := rfN_ok (e := (d3 p).2.2) (l := (d3 p).2.1) e4
  change (d3 p).2.1 = numL (d4 p).1 ++ (d4 p).2.1 at q4
  obtain ⟨e2, q3, s3⟩ := rText_ok (e := (d2 p).2.2) (l := (d2 p).2.1) e3
  change (d2 p).2.1 = textL (d3 p).1 ++ (d3 p).2.1 at q3
  change (d3 p).1.length ≤ 40 at s3
  obtain ⟨e1, q2, s2⟩ := rfN_ok (e := (d1 p).2.2) (l := (d1 p).2.1) e2
  change (d1 p).2.1 = numL (d2 p).1 ++ (d2 p).2.1 at q2
  obtain ⟨_, q1, s1⟩ := rfN_ok (e := 0) (l := p) e1
  change p = numL (d1 p).1 ++ (d1 p).2.1 at q1
  change 1 ≤ (d1 p).1 ∧ (d1 p).1 ≤ 9223372036854775807 at s1
  change 1 ≤ (d2 p).1 ∧ (d2 p).1 ≤ 9223372036854775807 at s2
  change 0 ≤ (d4 p).1 ∧ (d4 p).1 ≤ 2147483647 at s4
  change 0 ≤ (d5 p).1 ∧ (d5 p).1 ≤ 3 at s5
  change 1 ≤ (d6 p).1 ∧ (d6 p).1 ≤ 4 at s6
  have z7 : (d7 p).1 = unzig (rNum (d6 p).2.2 (d6 p).2.1).1 := rfl
  have r7 := unzig_range _ s7
  have i7 : intL (d7 p).1 = numL (rNum (d6 p).2.2 (d6 p).2.1).1 := by rw [intL, z7, zigzag_unzig _ s7]
  rw [← i7] at q7
  have hE : dEv p = ⟨((d1 p).1 : Int), ((d2 p).1 : Int), strL (d3 p).1, ((d4 p).1 : Int), ((d5 p).1 : Int), ((d6 p).1 : Int), (d7 p).1, strL (d8 p).1⟩ := by
    rw [dEv, if_pos h', evOf, wrap64_id (by omega), wrap64_id (by omega), wrap64_id (by omega), wrap64_id (by omega), show ((d6 p).1 : Int) % 256 = (d6 p).1 from by omega]
  rw [hE]
  refine ⟨⟨by dsimp only; omega, by dsimp only; omega, by rw [strL_size]; exact s3, by rw [strL_size]; exact s8, by dsimp only; omega, by dsimp only; omega, by dsimp only; omega⟩,
    ⟨by dsimp only; omega, by dsimp only; omega, by dsimp only; omega, by dsimp only; omega, by dsimp only; omega, by rw [← z7] at r7; exact r7, by rw [strL_size]; omega, by rw [strL_size]; omega⟩, ?_⟩
  simp only [Ev.encL, Ev.r2, Ev.r3, Ev.r4, Ev.r5, Ev.r6, Ev.r7, Ev.r8, Int.toNat_natCast, strL_list]
  rw [← q8, ← q7, ← q6, ← q5, ← q4, ← q3, ← q2, ← q1]

theorem rfN_back {lo hi n : Nat} (t : List UInt8) (h1 : lo ≤ n) (h2 : n ≤ hi) (h3 : n < 18446744073709551616) : rfN lo hi 0 (numL n ++ t) = (n, t, 0) := by
  unfold rfN
  rw [rNum_back n t h3, if_neg]
  simp [badN]
  omega

theorem strL_self' (s : ByteArray) : strL s.data.toList = s := by
  cases s
  simp [strL]

/-- WHAT WAS LAID IS READ. -/
theorem dec_back {e : Ev} (h : e.Right) (o : e.Ok) : dErr e.encL = 0 ∧ dEv e.encL = e := by
  have k1 := h.id; have k2 := h.tx; have k3 := h.tr; have k4 := h.tb; have k5 := h.kd
  have o1 := o.id; have o2 := o.tx; have o3 := o.key
  have g1 := h.ow; have g2 := h.t
  have x1 : d1 e.encL = (e.id.toNat, e.r2, 0) := rfN_back _ (by omega) (by omega) (by omega)
  have x2 : d2 e.encL = (e.tx.toNat, e.r3, 0) := by rw [d2, x1]; exact rfN_back _ (by omega) (by omega) (by omega)
  have x3 : d3 e.encL = (e.ow.data.toList, e.r4, 0) := by rw [d3, x2]; exact rText_back 40 _ _ (by rw [size_list]; omega) (by rw [size_list]; omega)
  have x4 : d4 e.encL = (e.tr.toNat, e.r5, 0) := by rw [d4, x3]; exact rfN_back _ (by omega) (by omega) (by omega)
  have x5 : d5 e.encL = (e.tb.toNat, e.r6, 0) := by rw [d5, x4]; exact rfN_back _ (by omega) (by omega) (by omega)
  have x6 : d6 e.encL = (e.kd.toNat, e.r7, 0) := by rw [d6, x5]; exact rfN_back _ (by omega) (by omega) (by omega)
  have x7 : d7 e.encL = (e.key, e.r8, 0) := by
    rw [d7, x6]
    show rfI 0 (intL e.key ++ e.r8) = _
    rw [rfI, intL, rNum_back _ _ (Lib.zigzag_lt o3.1 o3.2), unzig_zigzag]
  have x8 : d8 e.encL = (e.t.data.toList, [], 0) := by
    rw [d8, x7]
    have := rText_back 40 e.t.data.toList [] (by rw [size_list]; omega) (by rw [size_list]; omega)
    rw [List.append_nil] at this
    exact this
  have hE : dErr e.encL = 0 := by rw [dErr, x8]; rfl
  refine ⟨hE, ?_⟩
  rw [dEv, if_pos hE, x1, x2, x3, x4, x5, x6, x7, x8, evOf, strL_self', strL_self', wrap64_id (by omega), wrap64_id (by omega), wrap64_id (by omega), wrap64_id (by omega)]
  rw [show ((e.id.toNat : Nat) : Int) = e.id from by omega, show ((e.tx.toNat : Nat) : Int) = e.tx from by omega, show ((e.tr.toNat : Nat) : Int) = e.tr from by omega, show ((e.tb.toNat : Nat) : Int) = e.tb from by omega, show ((e.kd.toNat : Nat) : Int) % 256 = e.kd from by omega]

end Go.Proofs.Ytkpjbmcgfdophaa
