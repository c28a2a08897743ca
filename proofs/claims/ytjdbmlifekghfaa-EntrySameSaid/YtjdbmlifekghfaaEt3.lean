/-
  Ea, Ena, Three, Laws, Eb in one text.
-/
import Derived.Test.YtjdbmlifekghfaaEt2
import Derived.Test.YtjdbmlifekghfaaEt1
import Derived.Deep.RegionHeld3
import Derived.ProofKit
import Derived.OpenShut
import Derived.ShutString
import Derived.ChangeOld
import Derived.Below
import Derived.Test.YtjdbmlifekghfaaEt0
set_option linter.unusedVariables false
set_option maxHeartbeats 16000000
set_option maxRecDepth 100000
namespace Go.Proofs.Ytjdbmlifekghfaa
open Go.RowKit
structure Ev.Ok (e : Ev) : Prop where
 id : -9223372036854775808 <= e.id /\ e.id <= 9223372036854775807
 tx : -9223372036854775808 <= e.tx /\ e.tx <= 9223372036854775807
 tr : -9223372036854775808 <= e.tr /\ e.tr <= 9223372036854775807
 tb : -9223372036854775808 <= e.tb /\ e.tb <= 9223372036854775807
 kd : 0 <= e.kd /\ e.kd <= 255
 key : -9223372036854775808 <= e.key /\ e.key <= 9223372036854775807
 ow : e.ow.size <= 9223372036854775807
 t : e.t.size <= 9223372036854775807
structure Ev.Right (e : Ev) : Prop where
 id : 1 <= e.id
 tx : 1 <= e.tx
 ow : e.ow.size <= 40
 t : e.t.size <= 40
 tr : 0 <= e.tr /\ e.tr <= 2147483647
 tb : 0 <= e.tb /\ e.tb <= 3
 kd : 1 <= e.kd /\ e.kd <= 4
def Ev.rightB (e : Ev) : Bool :=
 decide (1 <= e.id) && decide (1 <= e.tx) && decide (e.ow.size <= 40) && decide (e.t.size <= 40) && decide (0 <= e.tr) && decide (e.tr <= 2147483647) && decide (0 <= e.tb) && decide (e.tb <= 3) && decide (1 <= e.kd) && decide (e.kd <= 4)
theorem Ev.rightB_iff (e : Ev) : e.rightB = true ↔ e.Right := by
 unfold Ev.rightB
 simp only [Bool.and_eq_true, decide_eq_true_eq]
 constructor
 ·rintro ⟨⟨⟨⟨⟨⟨⟨⟨⟨h1, h2⟩, h3⟩, h4⟩, h5⟩, h6⟩, h7⟩, h8⟩, h9⟩, h10⟩
  exact ⟨h1, h2, h3, h4, ⟨h5, h6⟩, ⟨h7, h8⟩, ⟨h9, h10⟩⟩
 rintro ⟨h1, h2, h3, h4, ⟨h5, h6⟩, ⟨h7, h8⟩, ⟨h9, h10⟩⟩
 exact ⟨⟨⟨⟨⟨⟨⟨⟨⟨h1, h2⟩, h3⟩, h4⟩, h5⟩, h6⟩, h7⟩, h8⟩, h9⟩, h10⟩
def Ev.r8 (e : Ev) : List UInt8 := xqr e.t.data.toList
def Ev.r7 (e : Ev) : List UInt8 := intL e.key ++ e.r8
def Ev.r6 (e : Ev) : List UInt8 := numL e.kd.toNat ++ e.r7
def Ev.r5 (e : Ev) : List UInt8 := numL e.tb.toNat ++ e.r6
def Ev.r4 (e : Ev) : List UInt8 := numL e.tr.toNat ++ e.r5
def Ev.r3 (e : Ev) : List UInt8 := xqr e.ow.data.toList ++ e.r4
def Ev.r2 (e : Ev) : List UInt8 := numL e.tx.toNat ++ e.r3
def Ev.encL (e : Ev) : List UInt8 := numL e.id.toNat ++ e.r2
theorem xqk (s : ByteArray) : s.data.toList.length = s.size := by rw [Array.length_toList]; rfl
theorem Ev.encL_len {e : Ev} (h : e.Right) (o : e.Ok) : e.encL.length <= 200 := by
 have a1 := xqc (n := e.id.toNat) (by have := o.id; omega)
 have a2 := xqc (n := e.tx.toNat) (by have := o.tx; omega)
 have a3 := xqc (n := e.tr.toNat) (by have := o.tr; omega)
 have a4 := xqc (n := e.tb.toNat) (by have := o.tb; omega)
 have a5 := xqc (n := e.kd.toNat) (by have := o.kd; omega)
 have a6 := xqc (Lib.zigzag_lt o.key.1 o.key.2)
 have a7 := xqc (n := e.ow.data.toList.length) (by have := h.ow; rw [xqk]; omega)
 have a8 := xqc (n := e.t.data.toList.length) (by have := h.t; rw [xqk]; omega)
 have b1 := h.ow
 have b2 := h.t
 have b3 := xqk e.ow
 have b4 := xqk e.t
 simp only [Ev.encL, Ev.r2, Ev.r3, Ev.r4, Ev.r5, Ev.r6, Ev.r7, Ev.r8, xqr, intL, List.length_append]
 omega
structure Sd where
 bad : Bool
 e : Int
 l : List UInt8
def badN (lo hi : Nat) (e1 : Int) (n : Nat) : Bool := decide (e1 = 0) && (decide (n < lo) || decide (hi < n))
def stN (lo hi : Nat) (s : Sd) : Nat × Sd :=
 ((rNum s.e s.l).1, ⟨s.bad || badN lo hi (rNum s.e s.l).2.2 (rNum s.e s.l).1, (rNum s.e s.l).2.2, (rNum s.e s.l).2.1⟩)
def stT (s : Sd) : List UInt8 × Sd := ((xqg 40 s.e s.l).1, ⟨s.bad, (xqg 40 s.e s.l).2.2, (xqg 40 s.e s.l).2.1⟩)
def stI (s : Sd) : Int × Sd := (unzig (rNum s.e s.l).1, ⟨s.bad, (rNum s.e s.l).2.2, (rNum s.e s.l).2.1⟩)
def rfN (lo hi : Nat) (e : Int) (l : List UInt8) : Nat × List UInt8 × Int :=
 if badN lo hi (rNum e l).2.2 (rNum e l).1 = true then (0, [], 2) else rNum e l
def rfI (e : Int) (l : List UInt8) : Int × List UInt8 × Int := (unzig (rNum e l).1, (rNum e l).2.1, (rNum e l).2.2)
def c1 (p : List UInt8) := stN 1 9223372036854775807 ⟨false, 0, p⟩
def c2 (p : List UInt8) := stN 1 9223372036854775807 (c1 p).2
def c3 (p : List UInt8) := stT (c2 p).2
def c4 (p : List UInt8) := stN 0 2147483647 (c3 p).2
def c5 (p : List UInt8) := stN 0 3 (c4 p).2
def c6 (p : List UInt8) := stN 1 4 (c5 p).2
def c7 (p : List UInt8) := stI (c6 p).2
def c8 (p : List UInt8) := stT (c7 p).2
def d1 (p : List UInt8) := rfN 1 9223372036854775807 0 p
def d2 (p : List UInt8) := rfN 1 9223372036854775807 (d1 p).2.2 (d1 p).2.1
def d3 (p : List UInt8) := xqg 40 (d2 p).2.2 (d2 p).2.1
def d4 (p : List UInt8) := rfN 0 2147483647 (d3 p).2.2 (d3 p).2.1
def d5 (p : List UInt8) := rfN 0 3 (d4 p).2.2 (d4 p).2.1
def d6 (p : List UInt8) := rfN 1 4 (d5 p).2.2 (d5 p).2.1
def d7 (p : List UInt8) := rfI (d6 p).2.2 (d6 p).2.1
def d8 (p : List UInt8) := xqg 40 (d7 p).2.2 (d7 p).2.1
def evOf (a b : Nat) (o : List UInt8) (c d k : Nat) (y : Int) (t : List UInt8) : Ev :=
 ⟨wrap64 a, wrap64 b, strL o, wrap64 c, wrap64 d, (k : Int) % 256, y, strL t⟩
def cErr (p : List UInt8) : Int := if (c8 p).2.bad = true then 2 else rEnd (c8 p).2.e (c8 p).2.l
def cEv (p : List UInt8) : Ev := if cErr p = 0 then evOf (c1 p).1 (c2 p).1 (c3 p).1 (c4 p).1 (c5 p).1 (c6 p).1 (c7 p).1 (c8 p).1 else Ev.zero
def dErr (p : List UInt8) : Int := rEnd (d8 p).2.2 (d8 p).2.1
def dEv (p : List UInt8) : Ev := if dErr p = 0 then evOf (d1 p).1 (d2 p).1 (d3 p).1 (d4 p).1 (d5 p).1 (d6 p).1 (d7 p).1 (d8 p).1 else Ev.zero
def Like (s : Sd) (e : Int) (l : List UInt8) : Prop := (s.bad = false -> s.e = e /\ s.l = l) /\ (s.bad = true -> e = 2)
theorem rNum_err {e : Int} (h : e ≠ 0) (l : List UInt8) : rNum e l = (0, l, e) := by rw [rNum, if_neg h]
theorem rText_err {e : Int} (h : e ≠ 0) (m : Int) (l : List UInt8) : xqg m e l = ([], l, e) := by rw [xqg, rNum_err h, xqG, if_neg h]
theorem like_N {s : Sd} {e : Int} {l : List UInt8} (h : Like s e l) (lo hi : Nat) :
  Like (stN lo hi s).2 (rfN lo hi e l).2.2 (rfN lo hi e l).2.1 /\ ((stN lo hi s).2.bad = false -> s.bad = false /\ (stN lo hi s).1 = (rfN lo hi e l).1) := by
 cases hb : s.bad with
 | false =>
  obtain ⟨rfl, rfl⟩ := h.1 hb
  unfold stN rfN Like
  rw [hb]
  simp only [Bool.false_or]
  cases hx : badN lo hi (rNum s.e s.l).2.2 (rNum s.e s.l).1 <;> simp
 | true =>
  obtain rfl := h.2 hb
  unfold stN rfN Like
  rw [hb, rNum_err (by decide) l]
  simp [badN]
theorem like_T {s : Sd} {e : Int} {l : List UInt8} (h : Like s e l) :
  Like (stT s).2 (xqg 40 e l).2.2 (xqg 40 e l).2.1 /\ ((stT s).2.bad = false -> s.bad = false /\ (stT s).1 = (xqg 40 e l).1) := by
 cases hb : s.bad with
 | false =>
  obtain ⟨rfl, rfl⟩ := h.1 hb
  unfold stT Like
  rw [hb]
  simp
 | true =>
  obtain rfl := h.2 hb
  unfold stT Like
  rw [hb, rText_err (by decide) 40 l]
  simp
theorem like_I {s : Sd} {e : Int} {l : List UInt8} (h : Like s e l) :
  Like (stI s).2 (rfI e l).2.2 (rfI e l).2.1 /\ ((stI s).2.bad = false -> s.bad = false /\ (stI s).1 = (rfI e l).1) := by
 cases hb : s.bad with
 | false =>
  obtain ⟨rfl, rfl⟩ := h.1 hb
  unfold stI rfI Like
  rw [hb]
  simp
 | true =>
  obtain rfl := h.2 hb
  unfold stI rfI Like
  rw [hb, rNum_err (by decide) l]
  simp
theorem dec_same (p : List UInt8) : cErr p = dErr p /\ cEv p = dEv p := by
 have l0 : Like ⟨false, 0, p⟩ 0 p := ⟨fun _ => ⟨rfl, rfl⟩, fun h => by simp at h⟩
 obtain ⟨l1, v1⟩ := like_N l0 1 9223372036854775807
 obtain ⟨l2, v2⟩ := like_N l1 1 9223372036854775807
 obtain ⟨l3, v3⟩ := like_T l2
 obtain ⟨l4, v4⟩ := like_N l3 0 2147483647
 obtain ⟨l5, v5⟩ := like_N l4 0 3
 obtain ⟨l6, v6⟩ := like_N l5 1 4
 obtain ⟨l7, v7⟩ := like_I l6
 obtain ⟨l8, v8⟩ := like_T l7
 change Like (c8 p).2 (d8 p).2.2 (d8 p).2.1 at l8
 have herr : cErr p = dErr p := by
  unfold cErr dErr
  cases hb : (c8 p).2.bad with
  | false =>
  obtain ⟨h1, h2⟩ := l8.1 hb
  rw [h1, h2]
  simp
  | true =>
  rw [l8.2 hb]
  simp [rEnd]
 refine ⟨herr, ?_⟩
 unfold cEv dEv
 rw [<- herr]
 by_cases h0 : cErr p = 0
 ·rw [if_pos h0, if_pos h0]
  have b8 : (c8 p).2.bad = false := by
   cases hb : (c8 p).2.bad with
   | false => rfl
   | true => rw [cErr, if_pos hb] at h0; simp at h0
  obtain ⟨b7, e8⟩ := v8 b8
  obtain ⟨b6, e7⟩ := v7 b7
  obtain ⟨b5, e6⟩ := v6 b6
  obtain ⟨b4, e5⟩ := v5 b5
  obtain ⟨b3, e4⟩ := v4 b4
  obtain ⟨b2, e3⟩ := v3 b3
  obtain ⟨b1, e2⟩ := v2 b2
  obtain ⟨_, e1⟩ := v1 b1
  change (c1 p).1 = (d1 p).1 at e1
  change (c2 p).1 = (d2 p).1 at e2
  change (c3 p).1 = (d3 p).1 at e3
  change (c4 p).1 = (d4 p).1 at e4
  change (c5 p).1 = (d5 p).1 at e5
  change (c6 p).1 = (d6 p).1 at e6
  change (c7 p).1 = (d7 p).1 at e7
  change (c8 p).1 = (d8 p).1 at e8
  rw [e1, e2, e3, e4, e5, e6, e7, e8]
 rw [if_neg h0, if_neg h0]
theorem rn_form (l : List UInt8) : ∀ (i acc x s : Nat), rn i acc l = (x, s, 0) -> i <= 9 -> ∃ n, x = acc + n * 128 ^ i /\ (0 < i -> 0 < n) /\ i < s /\ l = numL n ++ l.drop (s - i) := by
 induction l with
 | nil => intro i acc x s h; simp [rn] at h
 | cons b t ih =>
 intro i acc x s h hi
 rw [rn] at h
 by_cases h1 : (i = 9 /\ 1 < b.toNat) ∨ (0 < i /\ b.toNat = 0)
 ·rw [if_pos h1] at h; simp at h
 rw [if_neg h1] at h
 by_cases h2 : b.toNat < 128
 ·rw [if_pos h2] at h
  simp only [Prod.mk.injEq] at h
  obtain ⟨rfl, rfl, _⟩ := h
  refine ⟨b.toNat, rfl, by omega, by omega, ?_⟩
  rw [xqF h2, show i + 1 - i = 1 from by omega]
  simp
 rw [if_neg h2] at h
 have hi9 : i ≠ 9 := by intro h9; exact h1 (.inl ⟨h9, by omega⟩)
 obtain ⟨n, rfl, hn, hs, ht⟩ := ih (i + 1) _ x s h (by omega)
 have hn0 := hn (by omega)
 have hb := UInt8.toNat_lt b
 refine ⟨n * 128 + (b.toNat - 128), ?_, by omega, by omega, ?_⟩
 ·rw [Nat.pow_succ, Nat.add_mul, Nat.mul_comm (128 ^ i) 128, <- Nat.mul_assoc]
  omega
 rw [xqX (by omega), show (n * 128 + (b.toNat - 128)) / 128 = n from by omega, show (n * 128 + (b.toNat - 128)) % 128 + 128 = b.toNat from by omega]
 obtain ⟨k, hk⟩ : ∃ k, s - i = k + 1 := ⟨s - i - 1, by omega⟩
 rw [hk, List.drop_succ_cons, show k = s - (i + 1) from by omega]
 simp only [UInt8.ofNat_toNat, List.cons_append]
 rw [<- ht]
theorem rdN_form (l : List UInt8) (h : (rdN l).2.2 = 0) : l = numL (rdN l).1 ++ l.drop (rdN l).2.1 := by
 obtain ⟨n, h1, _, _, h4⟩ := rn_form l 0 0 (rdN l).1 (rdN l).2.1 (by rw [<- h]; rfl) (by omega)
 rw [h1]
 simpa using h4
theorem rNum_ok {e : Int} {l : List UInt8} (h : (rNum e l).2.2 = 0) : e = 0 /\ l = numL (rNum e l).1 ++ (rNum e l).2.1 /\ (rNum e l).1 < 18446744073709551616 := by
 by_cases he : e = 0
 ·subst he
  by_cases h1 : (rdN l).2.2 = 0
  ·have hr : rNum 0 l = ((rdN l).1, l.drop (rdN l).2.1, 0) := by rw [rNum, if_pos rfl, if_pos h1]
   rw [hr]
   exact ⟨rfl, rdN_form l h1, (rdN_ok l h1).2.2⟩
  rw [rNum, if_pos rfl, if_neg h1] at h
  exact absurd h h1
 rw [rNum_err he] at h
 exact absurd h he
theorem badN_no {lo hi : Nat} {n : Nat} (h : badN lo hi 0 n = false) : lo <= n /\ n <= hi := by
 unfold badN at h
 simp at h
 omega
theorem rfN_ok {lo hi : Nat} {e : Int} {l : List UInt8} (h : (rfN lo hi e l).2.2 = 0) : e = 0 /\ l = numL (rfN lo hi e l).1 ++ (rfN lo hi e l).2.1 /\ lo <= (rfN lo hi e l).1 /\ (rfN lo hi e l).1 <= hi := by
 unfold rfN at h ⊢
 cases hb : badN lo hi (rNum e l).2.2 (rNum e l).1 with
 | true => rw [hb] at h; simp at h
 | false =>
 rw [hb] at h
 simp only [Bool.false_eq_true, if_false] at h ⊢
 obtain ⟨h1, h2, h3⟩ := rNum_ok h
 rw [h] at hb
 exact ⟨h1, h2, badN_no hb⟩
theorem strL_size (l : List UInt8) : (strL l).size = l.length := rfl
theorem xqZ {n : Nat} (h : n <= 9223372036854775807) : wrap64 (n : Int) = n := by unfold wrap64; omega
theorem xqN {lo hi n : Nat} (t : List UInt8) (h1 : lo <= n) (h2 : n <= hi) (h3 : n < 18446744073709551616) : rfN lo hi 0 (numL n ++ t) = (n, t, 0) := by
 unfold rfN
 rw [rNum_back n t h3, if_neg]
 simp [badN]
 omega
theorem xq3 (s : ByteArray) : strL s.data.toList = s := by
 cases s
 simp [strL]
theorem dec_back {e : Ev} (h : e.Right) (o : e.Ok) : dErr e.encL = 0 /\ dEv e.encL = e := by
 have k1 := h.id; have k2 := h.tx; have k3 := h.tr; have k4 := h.tb; have k5 := h.kd
 have o1 := o.id; have o2 := o.tx; have o3 := o.key
 have g1 := h.ow; have g2 := h.t
 have x1 : d1 e.encL = (e.id.toNat, e.r2, 0) := xqN _ (by omega) (by omega) (by omega)
 have x2 : d2 e.encL = (e.tx.toNat, e.r3, 0) := by rw [d2, x1]; exact xqN _ (by omega) (by omega) (by omega)
 have x3 : d3 e.encL = (e.ow.data.toList, e.r4, 0) := by rw [d3, x2]; exact xq6 40 _ _ (by rw [xqk]; omega) (by rw [xqk]; omega)
 have x4 : d4 e.encL = (e.tr.toNat, e.r5, 0) := by rw [d4, x3]; exact xqN _ (by omega) (by omega) (by omega)
 have x5 : d5 e.encL = (e.tb.toNat, e.r6, 0) := by rw [d5, x4]; exact xqN _ (by omega) (by omega) (by omega)
 have x6 : d6 e.encL = (e.kd.toNat, e.r7, 0) := by rw [d6, x5]; exact xqN _ (by omega) (by omega) (by omega)
 have x7 : d7 e.encL = (e.key, e.r8, 0) := by
  rw [d7, x6]
  show rfI 0 (intL e.key ++ e.r8) = _
  rw [rfI, intL, rNum_back _ _ (Lib.zigzag_lt o3.1 o3.2), unzig_zigzag]
 have x8 : d8 e.encL = (e.t.data.toList, [], 0) := by
  rw [d8, x7]
  have := xq6 40 e.t.data.toList [] (by rw [xqk]; omega) (by rw [xqk]; omega)
  rw [List.append_nil] at this
  exact this
 have hE : dErr e.encL = 0 := by rw [dErr, x8]; rfl
 refine ⟨hE, ?_⟩
 rw [dEv, if_pos hE, x1, x2, x3, x4, x5, x6, x7, x8, evOf, xq3, xq3, xqZ (by omega), xqZ (by omega), xqZ (by omega), xqZ (by omega)]
 rw [show ((e.id.toNat : Nat) : Int) = e.id from by omega, show ((e.tx.toNat : Nat) : Int) = e.tx from by omega, show ((e.tr.toNat : Nat) : Int) = e.tr from by omega, show ((e.tb.toNat : Nat) : Int) = e.tb from by omega, show ((e.kd.toNat : Nat) : Int) % 256 = e.kd from by omega]
structure Ox where
 tb : Int
 g : Bool
 key : Int
 t : ByteArray
structure Px where
 sp : Int
 ev : Ev
structure En where
 k : Int
 tx : Int
 nx : Int
 id : Int
 ops : List Ox
 evs : List Px
 tn : Int
 tm : Int
 op : List Int
 ta : Int
 nm : ByteArray
 n : Int
 at' : Int
def Ox.cs (o : Ox) : Array Value := #[.int .i64 o.tb, .bool o.g, .int .i64 o.key, .string o.t]
def Px.cs (x : Px) : Array Value := #[.int .i64 x.sp, .int .i64 x.ev.id, .int .i64 x.ev.tx, .string x.ev.ow, .int .i64 x.ev.tr, .int .i64 x.ev.tb, .int .u8 x.ev.kd, .int .i64 x.ev.key, .string x.ev.t]
def En.zero : En := ⟨0, 0, 0, 0, [], [], 0, 0, [], 0, ⟨#[]⟩, 0, 0⟩
def flag (b : Bool) : Nat := if b = true then 1 else 0
def Ox.r4 (o : Ox) : List UInt8 := xqr o.t.data.toList
def Ox.r3 (o : Ox) : List UInt8 := intL o.key ++ o.r4
def Ox.r2 (o : Ox) : List UInt8 := numL (flag o.g) ++ o.r3
def Ox.encL (o : Ox) : List UInt8 := numL o.tb.toNat ++ o.r2
def Px.encL (x : Px) : List UInt8 := numL x.sp.toNat ++ xqr x.ev.encL
def xqf {α : Type} (f : α -> List UInt8) : List α -> List UInt8
 | [] => []
 | x :: t => f x ++ xqf f t
def xqb (n : Int) : List UInt8 := numL n.toNat
def opsL (l : List Ox) : List UInt8 := numL l.length ++ xqf Ox.encL l
def evsL (l : List Px) : List UInt8 := numL l.length ++ xqf Px.encL l
def openL (l : List Int) : List UInt8 := numL l.length ++ xqf xqb l
theorem manyL_append {α : Type} (f : α -> List UInt8) (l m : List α) : xqf f (l ++ m) = xqf f l ++ xqf f m := by
 induction l with
 | nil => rfl
 | cons x t ih => rw [List.cons_append, xqf, xqf, ih, List.append_assoc]
theorem manyL_snoc {α : Type} (f : α -> List UInt8) (l : List α) (x : α) : xqf f (l ++ [x]) = xqf f l ++ f x := by rw [manyL_append]; simp [xqf]
theorem xqA {α : Type} (f : α -> List UInt8) (m : Nat) (l : List α) (h : ∀ x ∈ l, (f x).length <= m) : (xqf f l).length <= m * l.length := by
 induction l with
 | nil => simp [xqf]
 | cons x t ih =>
 have h1 := ih (fun y hy => h y (List.mem_cons_of_mem _ hy))
 have h2 := h x (List.mem_cons_self ..)
 rw [xqf, List.length_append, List.length_cons, Nat.mul_succ]
 omega
def En.b1 (e : En) : List UInt8 := xqb e.tx ++ (xqb e.nx ++ (xqb e.id ++ (opsL e.ops ++ evsL e.evs)))
def En.b8 (e : En) : List UInt8 := xqb e.tx ++ (xqb e.nx ++ (xqb e.id ++ (evsL e.evs ++ intL e.at')))
def En.b2 (e : En) : List UInt8 := xqb e.tn ++ (xqb e.tm ++ (openL e.op ++ intL e.ta))
def En.b3 (e : En) : List UInt8 := xqr e.nm.data.toList ++ xqb e.n
def En.b7 (e : En) : List UInt8 := xqr e.nm.data.toList ++ (xqb e.n ++ intL e.at')
def En.b9 (e : En) : List UInt8 := xqb e.n
def En.b11 (e : En) : List UInt8 := xqb e.n ++ opsL e.ops
def En.body (e : En) : List UInt8 :=
 if e.k = 1 then e.b1 else if e.k = 8 then e.b8 else if e.k = 2 then e.b2 else if 3 <= e.k /\ e.k <= 6 then e.b3 else if e.k = 7 then e.b7 else if e.k = 9 ∨ e.k = 10 then e.b9 else if e.k = 11 then e.b11 else []
def En.encL (e : En) : List UInt8 := UInt8.ofNat e.k.toNat :: e.body
def En.norm (e : En) : En :=
 if e.k = 1 then ⟨1, e.tx, e.nx, e.id, e.ops, e.evs, 0, 0, [], 0, ⟨#[]⟩, 0, 0⟩
 else if e.k = 8 then ⟨8, e.tx, e.nx, e.id, [], e.evs, 0, 0, [], 0, ⟨#[]⟩, 0, e.at'⟩
 else if e.k = 2 then ⟨2, 0, 0, 0, [], [], e.tn, e.tm, e.op, e.ta, ⟨#[]⟩, 0, 0⟩
 else if 3 <= e.k /\ e.k <= 6 then ⟨e.k, 0, 0, 0, [], [], 0, 0, [], 0, e.nm, e.n, 0⟩
 else if e.k = 7 then ⟨7, 0, 0, 0, [], [], 0, 0, [], 0, e.nm, e.n, e.at'⟩
 else if e.k = 9 ∨ e.k = 10 then ⟨e.k, 0, 0, 0, [], [], 0, 0, [], 0, ⟨#[]⟩, e.n, 0⟩
 else if e.k = 11 then ⟨11, 0, 0, 0, e.ops, [], 0, 0, [], 0, ⟨#[]⟩, e.n, 0⟩
 else ⟨e.k, 0, 0, 0, [], [], 0, 0, [], 0, ⟨#[]⟩, 0, 0⟩
structure Ox.Right (o : Ox) : Prop where
 tb : 0 <= o.tb /\ o.tb <= 255
 key : -9223372036854775808 <= o.key /\ o.key <= 9223372036854775807
 t : o.t.size <= 40
structure Px.Right (x : Px) : Prop where
 sp : 0 <= x.sp /\ x.sp <= 255
 ev : x.ev.Right
 ok : x.ev.Ok
def whole (n : Int) : Prop := 0 <= n /\ n <= 9223372036854775807
structure En.Right (e : En) : Prop where
 k : 1 <= e.k /\ e.k <= 11
 tx : whole e.tx
 nx : whole e.nx
 id : whole e.id
 ops : ∀ o ∈ e.ops, o.Right
 nops : e.ops.length <= 255
 evs : ∀ x ∈ e.evs, x.Right
 nevs : e.evs.length <= 255
 tn : whole e.tn
 tm : whole e.tm
 op : ∀ n ∈ e.op, whole n
 nop : e.op.length <= 255
 ta : -9223372036854775808 <= e.ta /\ e.ta <= 9223372036854775807
 nm : e.nm.size <= 40
 n : whole e.n
 at' : -9223372036854775808 <= e.at' /\ e.at' <= 9223372036854775807
def oA (e : Int) (l : List UInt8) := rfN 0 255 e l
def oB (e : Int) (l : List UInt8) := rfN 0 1 (oA e l).2.2 (oA e l).2.1
def oC (e : Int) (l : List UInt8) := rfI (oB e l).2.2 (oB e l).2.1
def oD (e : Int) (l : List UInt8) := xqg 40 (oC e l).2.2 (oC e l).2.1
def dOp (e : Int) (l : List UInt8) : Ox := ⟨((oA e l).1 : Int), decide ((oB e l).1 = 1), (oC e l).1, strL (oD e l).1⟩
def dOps : Nat -> Int -> List UInt8 -> List Ox × List UInt8 × Int
 | 0, e, l => ([], l, e)
 | n + 1, e, l => if e = 0 then (dOp e l :: (dOps n (oD e l).2.2 (oD e l).2.1).1, (dOps n (oD e l).2.2 (oD e l).2.1).2) else ([], l, e)
def pA (e : Int) (l : List UInt8) := rfN 0 255 e l
def pB (e : Int) (l : List UInt8) := xqg 400 (pA e l).2.2 (pA e l).2.1
def dPl (e : Int) (l : List UInt8) : Px := ⟨((pA e l).1 : Int), dEv (pB e l).1⟩
def pL (e : Int) (l : List UInt8) : List UInt8 := if dErr (pB e l).1 = 0 then (pB e l).2.1 else []
def dEvs : Nat -> Int -> List UInt8 -> List Px × List UInt8 × Int
 | 0, e, l => ([], l, e)
 | n + 1, e, l => if e = 0 then (if (pB e l).2.2 = 0 then (dPl e l :: (dEvs n (dErr (pB e l).1) (pL e l)).1, (dEvs n (dErr (pB e l).1) (pL e l)).2) else ([], (pB e l).2)) else ([], l, e)
def wA (e : Int) (l : List UInt8) := rfN 0 9223372036854775807 e l
def xqs : Nat -> Int -> List UInt8 -> List Int × List UInt8 × Int
 | 0, e, l => ([], l, e)
 | n + 1, e, l => if e = 0 then (((wA e l).1 : Int) :: (xqs n (wA e l).2.2 (wA e l).2.1).1, (xqs n (wA e l).2.2 (wA e l).2.1).2) else ([], l, e)
def bA (e : Int) (l : List UInt8) := rfN 0 255 e l
def gOps (e : Int) (l : List UInt8) := dOps (bA e l).1 (bA e l).2.2 (bA e l).2.1
def gEvs (e : Int) (l : List UInt8) := dEvs (bA e l).1 (bA e l).2.2 (bA e l).2.1
def gOpen (e : Int) (l : List UInt8) := xqs (bA e l).1 (bA e l).2.2 (bA e l).2.1
def fx1 (l : List UInt8) := wA 0 l
def fx2 (l : List UInt8) := wA (fx1 l).2.2 (fx1 l).2.1
def fx3 (l : List UInt8) := wA (fx2 l).2.2 (fx2 l).2.1
def fx4 (l : List UInt8) := gOps (fx3 l).2.2 (fx3 l).2.1
def fx5 (l : List UInt8) := gEvs (fx4 l).2.2 (fx4 l).2.1
def fy4 (l : List UInt8) := gEvs (fx3 l).2.2 (fx3 l).2.1
def fy5 (l : List UInt8) := rfI (fy4 l).2.2 (fy4 l).2.1
def ft1 (l : List UInt8) := wA 0 l
def ft2 (l : List UInt8) := wA (ft1 l).2.2 (ft1 l).2.1
def ft3 (l : List UInt8) := gOpen (ft2 l).2.2 (ft2 l).2.1
def ft4 (l : List UInt8) := rfI (ft3 l).2.2 (ft3 l).2.1
def fn1 (l : List UInt8) := xqg 40 0 l
def fn2 (l : List UInt8) := wA (fn1 l).2.2 (fn1 l).2.1
def fn3 (l : List UInt8) := rfI (fn2 l).2.2 (fn2 l).2.1
def fm1 (l : List UInt8) := wA 0 l
def fm2 (l : List UInt8) := gOps (fm1 l).2.2 (fm1 l).2.1
def xqO (k : Int) (l : List UInt8) : En × List UInt8 × Int :=
 if k = 1 then (⟨1, (fx1 l).1, (fx2 l).1, (fx3 l).1, (fx4 l).1, (fx5 l).1, 0, 0, [], 0, ⟨#[]⟩, 0, 0⟩, (fx5 l).2)
 else if k = 8 then (⟨8, (fx1 l).1, (fx2 l).1, (fx3 l).1, [], (fy4 l).1, 0, 0, [], 0, ⟨#[]⟩, 0, (fy5 l).1⟩, (fy5 l).2)
 else if k = 2 then (⟨2, 0, 0, 0, [], [], (ft1 l).1, (ft2 l).1, (ft3 l).1, (ft4 l).1, ⟨#[]⟩, 0, 0⟩, (ft4 l).2)
 else if 3 <= k /\ k <= 6 then (⟨k, 0, 0, 0, [], [], 0, 0, [], 0, strL (fn1 l).1, (fn2 l).1, 0⟩, (fn2 l).2)
 else if k = 7 then (⟨7, 0, 0, 0, [], [], 0, 0, [], 0, strL (fn1 l).1, (fn2 l).1, (fn3 l).1⟩, (fn3 l).2)
 else if k = 9 ∨ k = 10 then (⟨k, 0, 0, 0, [], [], 0, 0, [], 0, ⟨#[]⟩, (fm1 l).1, 0⟩, (fm1 l).2)
 else (⟨11, 0, 0, 0, (fm2 l).1, [], 0, 0, [], 0, ⟨#[]⟩, (fm1 l).1, 0⟩, (fm2 l).2)
def kOf (b : UInt8) : Int := b.toNat
def dEr : List UInt8 -> Int
 | [] => 3
 | b :: l => if 1 <= kOf b /\ kOf b <= 11 then rEnd (xqO (kOf b) l).2.2 (xqO (kOf b) l).2.1 else 2
def dEn : List UInt8 -> En
 | [] => En.zero
 | b :: l => if dEr (b :: l) = 0 then (xqO (kOf b) l).1 else En.zero
theorem xqP {n : Int} (h : whole n) (t : List UInt8) : wA 0 (xqb n ++ t) = (n.toNat, t, 0) :=
 xqN t (by omega) (by have := h.2; omega) (by have := h.1; have := h.2; omega)
theorem rfI_back {n : Int} (h : -9223372036854775808 <= n /\ n <= 9223372036854775807) (t : List UInt8) : rfI 0 (intL n ++ t) = (n, t, 0) := by
 rw [rfI, intL, rNum_back _ _ (Lib.zigzag_lt h.1 h.2), unzig_zigzag]
theorem flag_le (b : Bool) : flag b <= 1 := by cases b <;> decide
theorem flag_one (b : Bool) : decide (flag b = 1) = b := by cases b <;> decide
theorem op_back {o : Ox} (h : o.Right) (t : List UInt8) : oD 0 (o.encL ++ t) = (o.t.data.toList, t, 0) /\ dOp 0 (o.encL ++ t) = o := by
 have h1 := h.tb; have h3 := h.t
 have xa : oA 0 (o.encL ++ t) = (o.tb.toNat, o.r2 ++ t, 0) := by rw [Ox.encL, List.append_assoc]; exact xqN _ (by omega) (by omega) (by omega)
 have xb : oB 0 (o.encL ++ t) = (flag o.g, o.r3 ++ t, 0) := by rw [oB, xa, Ox.r2, List.append_assoc]; exact xqN _ (by omega) (flag_le _) (by have := flag_le o.g; omega)
 have xc : oC 0 (o.encL ++ t) = (o.key, o.r4 ++ t, 0) := by rw [oC, xb, Ox.r3, List.append_assoc]; exact rfI_back h.key _
 have xd : oD 0 (o.encL ++ t) = (o.t.data.toList, t, 0) := by rw [oD, xc]; exact xq6 40 _ _ (by rw [xqk]; omega) (by rw [xqk]; omega)
 refine ⟨xd, ?_⟩
 rw [dOp, xa, xb, xc, xd]
 simp only
 rw [flag_one, xq3, show ((o.tb.toNat : Nat) : Int) = o.tb from by omega]
theorem ops_back (l : List Ox) (h : ∀ o ∈ l, o.Right) (t : List UInt8) : dOps l.length 0 (xqf Ox.encL l ++ t) = (l, t, 0) := by
 induction l with
 | nil => rfl
 | cons o l ih =>
 obtain ⟨a, b⟩ := op_back (h o (List.mem_cons_self ..)) (xqf Ox.encL l ++ t)
 rw [xqf, List.append_assoc, List.length_cons, dOps, if_pos rfl, a, b, ih (fun x hx => h x (List.mem_cons_of_mem _ hx))]
theorem gOps_back {l : List Ox} (h : ∀ o ∈ l, o.Right) (hn : l.length <= 255) (t : List UInt8) : gOps 0 (opsL l ++ t) = (l, t, 0) := by
 have x : bA 0 (opsL l ++ t) = (l.length, xqf Ox.encL l ++ t, 0) := by rw [opsL, List.append_assoc]; exact xqN _ (by omega) hn (by omega)
 rw [gOps, x]
 exact ops_back l h t
theorem gOps_many {l : List Ox} (hn : 255 < l.length) (hm : l.length < 18446744073709551616) (t : List UInt8) : gOps 0 (opsL l ++ t) = ([], [], 2) := by
 have x : bA 0 (opsL l ++ t) = (0, [], 2) := by
  rw [opsL, List.append_assoc, bA, rfN, rNum_back _ _ hm, if_pos]
  simp [badN]; omega
 rw [gOps, x]
 rfl
theorem pl_back {x : Px} (h : x.Right) (t : List UInt8) : (pB 0 (x.encL ++ t)) = (x.ev.encL, t, 0) /\ dPl 0 (x.encL ++ t) = x := by
 have h1 := h.sp
 have hl := Ev.encL_len h.ev h.ok
 have xa : pA 0 (x.encL ++ t) = (x.sp.toNat, xqr x.ev.encL ++ t, 0) := by rw [Px.encL, List.append_assoc]; exact xqN _ (by omega) (by omega) (by omega)
 have xb : pB 0 (x.encL ++ t) = (x.ev.encL, t, 0) := by rw [pB, xa]; exact xq6 400 _ _ (by omega) (by omega)
 refine ⟨xb, ?_⟩
 rw [dPl, xa, xb, (dec_back h.ev h.ok).2]
 simp only
 rw [show ((x.sp.toNat : Nat) : Int) = x.sp from by omega]
theorem evs_back (l : List Px) (h : ∀ x ∈ l, x.Right) (t : List UInt8) : dEvs l.length 0 (xqf Px.encL l ++ t) = (l, t, 0) := by
 induction l with
 | nil => rfl
 | cons x l ih =>
 have hx := h x (List.mem_cons_self ..)
 obtain ⟨a, b⟩ := pl_back hx (xqf Px.encL l ++ t)
 have e0 := (dec_back hx.ev hx.ok).1
 have c : pL 0 (x.encL ++ (xqf Px.encL l ++ t)) = xqf Px.encL l ++ t := by rw [pL, a, if_pos e0]
 rw [xqf, List.append_assoc, List.length_cons, dEvs, if_pos rfl, c, a, b, if_pos rfl, e0, ih (fun x hx => h x (List.mem_cons_of_mem _ hx))]
theorem gEvs_back {l : List Px} (h : ∀ x ∈ l, x.Right) (hn : l.length <= 255) (t : List UInt8) : gEvs 0 (evsL l ++ t) = (l, t, 0) := by
 have x : bA 0 (evsL l ++ t) = (l.length, xqf Px.encL l ++ t, 0) := by rw [evsL, List.append_assoc]; exact xqN _ (by omega) hn (by omega)
 rw [gEvs, x]
 exact evs_back l h t
theorem open_back (l : List Int) (h : ∀ n ∈ l, whole n) (t : List UInt8) : xqs l.length 0 (xqf xqb l ++ t) = (l, t, 0) := by
 induction l with
 | nil => rfl
 | cons n l ih =>
 have hn := h n (List.mem_cons_self ..)
 rw [xqf, List.append_assoc, List.length_cons, xqs, if_pos rfl, xqP hn, ih (fun x hx => h x (List.mem_cons_of_mem _ hx))]
 simp only
 rw [show ((n.toNat : Nat) : Int) = n from by have := hn.1; omega]
theorem gOpen_back {l : List Int} (h : ∀ n ∈ l, whole n) (hn : l.length <= 255) (t : List UInt8) : gOpen 0 (openL l ++ t) = (l, t, 0) := by
 have x : bA 0 (openL l ++ t) = (l.length, xqf xqb l ++ t, 0) := by rw [openL, List.append_assoc]; exact xqN _ (by omega) hn (by omega)
 rw [gOpen, x]
 exact open_back l h t
theorem nm_back {s : ByteArray} (h : s.size <= 40) (t : List UInt8) : xqg 40 0 (xqr s.data.toList ++ t) = (s.data.toList, t, 0) :=
 xq6 40 _ _ (by rw [xqk]; omega) (by rw [xqk]; omega)
theorem xqV {n : Int} (h : whole n) : ((n.toNat : Nat) : Int) = n := by have := h.1; omega
theorem xq2 (l : List UInt8) : l = l ++ [] := (List.append_nil l).symm
theorem body_back {e : En} (h : e.Right) : xqO e.k e.body = (e.norm, [], 0) := by
 have hk := h.k
 unfold xqO En.body En.norm
 by_cases h1 : e.k = 1
 ·rw [if_pos h1, if_pos h1, if_pos h1]
  have a1 : fx1 e.b1 = (e.tx.toNat, xqb e.nx ++ (xqb e.id ++ (opsL e.ops ++ evsL e.evs)), 0) := xqP h.tx _
  have a2 : fx2 e.b1 = (e.nx.toNat, xqb e.id ++ (opsL e.ops ++ evsL e.evs), 0) := by rw [fx2, a1]; exact xqP h.nx _
  have a3 : fx3 e.b1 = (e.id.toNat, opsL e.ops ++ evsL e.evs, 0) := by rw [fx3, a2]; exact xqP h.id _
  have a4 : fx4 e.b1 = (e.ops, evsL e.evs, 0) := by rw [fx4, a3]; exact gOps_back h.ops h.nops _
  have a5 : fx5 e.b1 = (e.evs, [], 0) := by rw [fx5, a4, xq2 (evsL e.evs)]; exact gEvs_back h.evs h.nevs _
  rw [a1, a2, a3, a4, a5]
  simp only
  rw [xqV h.tx, xqV h.nx, xqV h.id]
 rw [if_neg h1, if_neg h1, if_neg h1]
 by_cases h8 : e.k = 8
 ·rw [if_pos h8, if_pos h8, if_pos h8]
  have a1 : fx1 e.b8 = (e.tx.toNat, xqb e.nx ++ (xqb e.id ++ (evsL e.evs ++ intL e.at')), 0) := xqP h.tx _
  have a2 : fx2 e.b8 = (e.nx.toNat, xqb e.id ++ (evsL e.evs ++ intL e.at'), 0) := by rw [fx2, a1]; exact xqP h.nx _
  have a3 : fx3 e.b8 = (e.id.toNat, evsL e.evs ++ intL e.at', 0) := by rw [fx3, a2]; exact xqP h.id _
  have a4 : fy4 e.b8 = (e.evs, intL e.at', 0) := by rw [fy4, a3]; exact gEvs_back h.evs h.nevs _
  have a5 : fy5 e.b8 = (e.at', [], 0) := by rw [fy5, a4, xq2 (intL e.at')]; exact rfI_back h.at' _
  rw [a1, a2, a3, a4, a5]
  simp only
  rw [xqV h.tx, xqV h.nx, xqV h.id]
 rw [if_neg h8, if_neg h8, if_neg h8]
 by_cases h2 : e.k = 2
 ·rw [if_pos h2, if_pos h2, if_pos h2]
  have a1 : ft1 e.b2 = (e.tn.toNat, xqb e.tm ++ (openL e.op ++ intL e.ta), 0) := xqP h.tn _
  have a2 : ft2 e.b2 = (e.tm.toNat, openL e.op ++ intL e.ta, 0) := by rw [ft2, a1]; exact xqP h.tm _
  have a3 : ft3 e.b2 = (e.op, intL e.ta, 0) := by rw [ft3, a2]; exact gOpen_back h.op h.nop _
  have a4 : ft4 e.b2 = (e.ta, [], 0) := by rw [ft4, a3, xq2 (intL e.ta)]; exact rfI_back h.ta _
  rw [a1, a2, a3, a4]
  simp only
  rw [xqV h.tn, xqV h.tm]
 rw [if_neg h2, if_neg h2, if_neg h2]
 by_cases h3 : 3 <= e.k /\ e.k <= 6
 ·rw [if_pos h3, if_pos h3, if_pos h3]
  have a1 : fn1 e.b3 = (e.nm.data.toList, xqb e.n, 0) := nm_back h.nm _
  have a2 : fn2 e.b3 = (e.n.toNat, [], 0) := by rw [fn2, a1, xq2 (xqb e.n)]; exact xqP h.n _
  rw [a1, a2]
  simp only
  rw [xqV h.n, xq3]
 rw [if_neg h3, if_neg h3, if_neg h3]
 by_cases h7 : e.k = 7
 ·rw [if_pos h7, if_pos h7, if_pos h7]
  have a1 : fn1 e.b7 = (e.nm.data.toList, xqb e.n ++ intL e.at', 0) := nm_back h.nm _
  have a2 : fn2 e.b7 = (e.n.toNat, intL e.at', 0) := by rw [fn2, a1]; exact xqP h.n _
  have a3 : fn3 e.b7 = (e.at', [], 0) := by rw [fn3, a2, xq2 (intL e.at')]; exact rfI_back h.at' _
  rw [a1, a2, a3]
  simp only
  rw [xqV h.n, xq3]
 rw [if_neg h7, if_neg h7, if_neg h7]
 by_cases h9 : e.k = 9 ∨ e.k = 10
 ·rw [if_pos h9, if_pos h9, if_pos h9]
  have a1 : fm1 e.b9 = (e.n.toNat, [], 0) := by rw [fm1, En.b9, xq2 (xqb e.n)]; exact xqP h.n _
  rw [a1]
  simp only
  rw [xqV h.n]
 rw [if_neg h9, if_neg h9, if_neg h9, if_pos (by omega), if_pos (by omega)]
 have a1 : fm1 e.b11 = (e.n.toNat, opsL e.ops, 0) := xqP h.n _
 have a2 : fm2 e.b11 = (e.ops, [], 0) := by rw [fm2, a1, xq2 (opsL e.ops)]; exact gOps_back h.ops h.nops _
 rw [a1, a2]
 simp only
 rw [xqV h.n]
theorem kOf_ofNat {k : Int} (h : 0 <= k /\ k <= 255) : kOf (UInt8.ofNat k.toNat) = k := by
 unfold kOf
 rw [UInt8.toNat_ofNat']
 omega
theorem en_back {e : En} (h : e.Right) : dEr e.encL = 0 /\ dEn e.encL = e.norm := by
 have hk := h.k
 have hb := body_back h
 have e1 := kOf_ofNat (k := e.k) (by omega)
 have hE : dEr e.encL = 0 := by
  rw [En.encL, dEr, e1, if_pos hk, hb]
  rfl
 refine ⟨hE, ?_⟩
 have h2 := hE
 rw [En.encL] at h2 ⊢
 rw [dEn, if_pos h2, e1, hb]
theorem en_many {n : Int} {l : List Ox} (hw : whole n) (hn : 255 < l.length) (hm : l.length < 18446744073709551616) : dEr ((⟨11, 0, 0, 0, l, [], 0, 0, [], 0, ⟨#[]⟩, n, 0⟩ : En).encL) = 2 := by
 obtain ⟨e, he⟩ : ∃ e : En, e = ⟨11, 0, 0, 0, l, [], 0, 0, [], 0, ⟨#[]⟩, n, 0⟩ := ⟨_, rfl⟩
 rw [<- he]
 have hk : e.k = 11 := by rw [he]
 have e1 := kOf_ofNat (k := e.k) (by omega)
 have a1 : fm1 e.b11 = (n.toNat, opsL l, 0) := by rw [he]; exact xqP hw _
 have a2 : fm2 e.b11 = ([], [], 2) := by rw [fm2, a1, xq2 (opsL l)]; exact gOps_many hn hm _
 have hB : e.body = e.b11 := by unfold En.body; rw [hk]; rfl
 rw [En.encL, dEr, e1, if_pos (by omega), hB, hk]
 show rEnd (fm2 e.b11).2.2 (fm2 e.b11).2.1 = 2
 rw [a2]
 rfl
variable {R : Bx}
theorem xq1 (w : World) (l : List UInt8) (cs : Array Value) (T : TypeId) (n : Nat) (hn : n = l.length) (h : cs.toList = bc l) : Rd (w.alloc (.cells cs T)) (.slice (some ⟨w.heap.size, 0, none⟩) n n) l := by
 subst hn
 refine ⟨_, _, rfl, Nat.le_refl _, by simp, fun _ => ⟨w.heap.size, 0, rfl, fun i hi => ?_⟩⟩
 rw [World.cell?_alloc_at _ _ _ _ rfl, <- Array.getElem?_toList, h, Nat.zero_add]
 exact bc_at l i hi
end Go.Proofs.Ytjdbmlifekghfaa
namespace Go.Proofs.Ytjdbmlifekghfaa
open Go.ChangeShapes Go.WideShapes Go.ChangeAt Go.RowKit
variable {R : Bx}
def IsRow (k : IntKind) (w : World) (a : Option Addr) (len cap : Nat) (zs : List Int) : Prop :=
 (a = none /\ len = 0 /\ cap = 0 /\ zs = []) ∨
 ∃ x, a = some x /\ len <= cap /\ cap <= maxLen /\ zs.length = cap /\ (∀ i, i < zs.length -> w.cell? (x.add i) = some (.int k (zs.getD i 0))) /\ ∀ n ∈ zs, (Lit.int k n).wf = true
theorem isRow_rd {w : World} {a : Option Addr} {len cap : Nat} {zs : List Int} (h : IsRow .u8 w a len cap zs) : ∃ l : List UInt8, l.length = len /\ Rd w (.slice a len cap) l := by
 rcases h with ⟨rfl, rfl, rfl, rfl⟩ | ⟨x, rfl, hl, hm, hz, hcell, hwz⟩
 ·exact ⟨[], rfl, Rd.nil w⟩
 refine ⟨(zs.take len).map fun n => UInt8.ofNat n.toNat, by simp; omega, ?_⟩
 have hlen : ((zs.take len).map fun n => UInt8.ofNat n.toNat).length = len := by simp; omega
 refine ⟨some x, cap, by rw [hlen], by omega, by simp, fun hne => ?_⟩
 have hpos : 0 < len := by rw [<- hlen]; exact List.length_pos_iff.2 hne
 obtain ⟨b, off, spot⟩ := x
 have h0 := hcell 0 (by omega)
 have hspot : spot = none := by simpa [Addr.add] using World.cell?_spot h0
 subst hspot
 refine ⟨b, off, rfl, fun i hi => ?_⟩
 rw [hlen] at hi
 have hc := hcell i (by omega)
 rw [Addr.add_lit] at hc
 rw [hc]
 have hb := bounds_u8 (hwz (zs.getD i 0) (by simp [List.getD, show i < zs.length by omega]))
 have e : ((zs.take len).map fun n => UInt8.ofNat n.toNat).getD i 0 = UInt8.ofNat (zs.getD i 0).toNat := by
  simp [List.getD, hi, show i < zs.length by omega]
 rw [e]
 have h2 : (UInt8.ofNat (zs.getD i 0).toNat).toNat = (zs.getD i 0).toNat := by
  rw [UInt8.toNat_ofNat']
  omega
 rw [h2]
 congr 2
 omega
theorem Wr.kept {w w' : World} {base p : Nat} {v : Value} {l : List UInt8} {bs : List Nat} (h : Wr R w base p v l) (hk : Kept w w' bs) (hp : p ∉ bs) (hb : ∀ b, v.ownBlock = some b -> b ∉ bs) : Wr R w' base p v l :=
 ⟨hk.heap hp h.1, h.2.kept hk hb⟩
theorem own_store {w : World} {base g n c : Nat} {e : TypeId} {l : List UInt8} (h : Own w base e (.slice (some ⟨g, 0, none⟩) n c) l) (k : Nat) (_hk : k < l.length) (b : UInt8) :
  Own (w.setCell ⟨g, k, none⟩ (.int .u8 (b.toNat : Int))) base e (.slice (some ⟨g, 0, none⟩) n c) (l.set k b) := by
 refine ⟨by rw [bc_length, List.length_set]; omega, ?_⟩
 rcases h.2 with ⟨h1, _⟩ | ⟨g', cap, cur, hv, hbg, hg, hnc, hcm, hcs, ht⟩
 ·simp at h1
 ·simp only [Value.slice.injEq, Option.some.injEq, Addr.mk.injEq] at hv
  obtain ⟨⟨rfl, _⟩, rfl, rfl⟩ := hv
  refine .inr ⟨g, c, cur.setIfInBounds k (.int .u8 (b.toNat : Int)), by rw [List.length_set], hbg, xqa hg k _, by rw [List.length_set]; exact hnc, hcm, by simpa using hcs, ?_⟩
  rw [Array.toList_setIfInBounds, List.length_set, Nat.mul_one, List.take_set]
  rw [Nat.mul_one] at ht
  rw [ht]
  simp [bc, List.map_set]
theorem own_at {w : World} {base g n c : Nat} {e : TypeId} {l : List UInt8} (h : Own w base e (.slice (some ⟨g, 0, none⟩) n c) l) (k : Nat) (hk : k < l.length) :
  w.cell? ⟨g, k, none⟩ = some (.int .u8 ((l.getD k 0).toNat : Int)) /\ w.frozen? ⟨g, k, none⟩ = false := by
 refine ⟨?_, ?_⟩
 ·have := World.ownsRow.cells h (g := g) rfl k _ (bc_at l k hk)
  simpa [Addr.add_lit] using this
 ·rcases h.2 with ⟨h1, _⟩ | ⟨g', cap, cur, hv, hbg, hg, _⟩
  ·simp at h1
  simp only [Value.slice.injEq, Option.some.injEq, Addr.mk.injEq] at hv
  obtain ⟨⟨rfl, _⟩, _⟩ := hv
  exact frozen_of_row _ _ _ _ _ hg
end Go.Proofs.Ytjdbmlifekghfaa
namespace Go.Proofs.Ytjdbmlifekghfaa
open Go.RowKit
theorem new_any2 (v : Value) (l : List UInt8) (w : World) (h : Rd w v l) (hl : l.length <= 1099511627796) :
  Calls Try.prog 29 #[v] w fun e w' => ∃ r v', e = .returned (.pointer (some ⟨r, 0, none⟩)) /\ Rr w' r v' 0 l /\ w.heap.size <= r /\ r < w'.heap.size /\ (∀ b, v'.ownBlock = some b -> w.heap.size <= b /\ b < w'.heap.size) /\ Kept w w' [] := by
 have H := iH h; clear h
 go_enter Try.func29, Try.ntmps29
 go_wp2_with fail
 refine (clone_any v l w H.out hl).mono ?_
 rintro e w1 ⟨v', rfl, ho, hk⟩
 obtain ⟨a2, n2, c2, hv2⟩ := ho.shape3
 have Ho := iH ho; have Hk := iH hk; clear ho hk
 subst hv2
 go_wp2
 go_ret
 have hs := Hk.out.size
 refine ⟨w1.heap.size, _, rfl, ⟨heap_alloc_new w1 _, (Ho.out.rd).kept (((Kept.refl w1 []).alloc _)) (by simp), ?_⟩, hs, by simp, fun b hb => ⟨(Ho.out.lt b hb).1, by have := (Ho.out.lt b hb).2; simp; omega⟩, Hk.out.alloc _⟩
 intro b hb
 have := (Ho.out.lt b hb).2
 omega
def Er (w : World) (q r : Nat) (v : Value) (s : Sd) : Prop :=
 w.heap[q]? = some (.cells #[.pointer (some ⟨r, 0, none⟩), .bool s.bad] 156 (0, 0)) /\ Rr w r v s.e s.l /\ (∀ b, v.ownBlock = some b -> b ≠ q) /\ q ≠ r
theorem Er.cells {w : World} {q r : Nat} {v : Value} {s : Sd} (h : Er w q r v s) :
  w.cell? ⟨q, 0, none⟩ = some (.pointer (some ⟨r, 0, none⟩)) /\ w.cell? ⟨q, 1, none⟩ = some (.bool s.bad) /\ w.frozen? ⟨q, 1, none⟩ = false :=
 ⟨by simpa using cell_of_row w q 0 _ _ _ h.1, by simpa using cell_of_row w q 1 _ _ _ h.1, frozen_of_row w q 1 _ _ h.1⟩
theorem Er.kept {w w' : World} {q r : Nat} {v : Value} {s : Sd} {bs : List Nat} (h : Er w q r v s) (hk : Kept w w' bs) (hq : q ∉ bs) (hr : r ∉ bs) (hb : ∀ b, v.ownBlock = some b -> b ∉ bs) : Er w' q r v s :=
 ⟨hk.heap hq h.1, h.2.1.kept hk hr hb, h.2.2⟩
theorem Er.read {w w' : World} {q r : Nat} {v v' : Value} {s : Sd} (h : Er w q r v s) {e' : Int} {l' : List UInt8} (hr : Rr w' r v' e' l') (hk : Kept w w' [r]) (hb : ∀ b, v'.ownBlock = some b -> v.ownBlock = some b) : Er w' q r v' ⟨s.bad, e', l'⟩ :=
 ⟨hk.heap (by simpa using h.2.2.2) h.1, hr, fun b hb' => h.2.2.1 b (hb b hb'), h.2.2.2⟩
theorem Er.mark {w : World} {q r : Nat} {v : Value} {s : Sd} (h : Er w q r v s) : Er (w.setCell ⟨q, 1, none⟩ (.bool true)) q r v ⟨true, s.e, s.l⟩ :=
 ⟨by simpa using xqa h.1 1 (.bool true), h.2.1.kept ((Kept.refl w [q]).setCell (.inl (by simp)) _) (by simpa using h.2.2.2.symm) (by simpa using h.2.2.1), h.2.2⟩
theorem ernum_any (q r : Nat) (v : Value) (s : Sd) (lo hi : Nat) (w : World) (h : Er w q r v s) (hl : s.l.length <= 1099511627796) :
  Calls Try.prog 94 #[.pointer (some ⟨q, 0, none⟩), .int .u64 lo, .int .u64 hi] w fun en w' => en = .returned (.int .u64 (stN lo hi s).1) /\ ∃ v', Er w' q r v' (stN lo hi s).2 /\ Kept w w' [q, r] /\ (∀ b, v'.ownBlock = some b -> v.ownBlock = some b) := by
 obtain ⟨c0, _, _⟩ := h.cells
 have H := iH h; clear h
 obtain ⟨n, hn⟩ : ∃ n, n = (rNum s.e s.l).1 := ⟨_, rfl⟩
 obtain ⟨l1, hl1⟩ : ∃ l1, l1 = (rNum s.e s.l).2.1 := ⟨_, rfl⟩
 obtain ⟨e1, he1⟩ : ∃ e1, e1 = (rNum s.e s.l).2.2 := ⟨_, rfl⟩
 have hS : stN lo hi s = (n, ⟨s.bad || badN lo hi e1 n, e1, l1⟩) := by rw [stN, <- hn, <- hl1, <- he1]
 have CN := iH (rnum_any r v s.e s.l w H.out.2.1 hl)
 have hnb := rNum_lt s.e s.l
 rw [<- hn] at hnb
 have Hn := iH hn; have Hl1 := iH hl1; have He1 := iH he1; have HS := iH hS
 clear hn hl1 he1 hS
 go_enter Try.func94, Try.ntmps94
 go_wp2_with fail
 refine CN.out.mono ?_
 rw [<- Hn.out, <- Hl1.out, <- He1.out]
 rintro en w1 ⟨rfl, v1, hr1, hk1, hb1⟩
 have E1 := iH (H.out.read hr1 hk1 hb1)
 obtain ⟨d0, d1, g1⟩ := E1.out.cells
 have Hk1 := iH (hk1.mono (cs := [q, r]) (by simp)); have Hb1 := iH hb1; have Hr1 := iH hr1
 clear hr1 hk1 hb1 c0
 by_cases he : e1 = 0
 ·subst he
  by_cases h1 : n < lo
  ·have x1 : (n : Int) < (lo : Int) := by omega
   have HB : RowKit.Hid ((s.bad || badN lo hi 0 n) = true) := iH (by simp [badN]; omega)
   go_wp2_with fail
   refine (xqC r v1 0 l1 w1 Hr1.out).mono ?_
   rintro en w2 ⟨rfl, rfl⟩
   go_wp2
   go_ret
   rw [HS.out, HB.out]
   exact ⟨rfl, v1, E1.out.mark, Hk1.out.setCell (.inl (by simp)) _, Hb1.out⟩
  have x1 : ¬ (n : Int) < (lo : Int) := by omega
  by_cases h2 : hi < n
  ·have x2 : (hi : Int) < (n : Int) := by omega
   have HB : RowKit.Hid ((s.bad || badN lo hi 0 n) = true) := iH (by simp [badN]; omega)
   go_wp2_with fail
   refine (xqC r v1 0 l1 w1 Hr1.out).mono ?_
   rintro en w2 ⟨rfl, rfl⟩
   go_wp2
   go_ret
   rw [HS.out, HB.out]
   exact ⟨rfl, v1, E1.out.mark, Hk1.out.setCell (.inl (by simp)) _, Hb1.out⟩
  have x2 : ¬ (hi : Int) < (n : Int) := by omega
  have HB : RowKit.Hid ((s.bad || badN lo hi 0 n) = s.bad) := iH (by simp [badN]; omega)
  go_wp2_with fail
  refine (xqC r v1 0 l1 w1 Hr1.out).mono ?_
  rintro en w2 ⟨rfl, rfl⟩
  go_wp2
  go_ret
  rw [HS.out, HB.out]
  exact ⟨rfl, v1, E1.out, Hk1.out, Hb1.out⟩
 ·have x0 : (e1 == 0) = false := by simpa using he
  have HB : RowKit.Hid ((s.bad || badN lo hi e1 n) = s.bad) := iH (by simp [badN, he])
  clear he
  go_wp2_with fail
  refine (xqC r v1 e1 l1 w1 Hr1.out).mono ?_
  rintro en w2 ⟨rfl, rfl⟩
  go_wp2
  go_ret
  rw [HS.out, HB.out]
  exact ⟨rfl, v1, E1.out, Hk1.out, Hb1.out⟩
theorem erend_any (q r : Nat) (v : Value) (s : Sd) (w : World) (h : Er w q r v s) (hl : s.l.length <= 1099511627796) :
  Calls Try.prog 95 #[.pointer (some ⟨q, 0, none⟩)] w fun en w' => en = .returned (.int .i64 (if s.bad = true then 2 else rEnd s.e s.l)) /\ w = w' := by
 obtain ⟨c0, c1, _⟩ := h.cells
 have H := iH h; clear h
 cases hb : s.bad with
 | true =>
  rw [hb] at c1
  have Hb := iH hb; clear hb
  go_enter Try.func95, Try.ntmps95
  go_wp2
  go_ret
  exact ⟨rfl, rfl⟩
 | false =>
  rw [hb] at c1
  have Hb := iH hb; clear hb
  go_enter Try.func95, Try.ntmps95
  go_wp2_with fail
  refine (end_any r v s.e s.l w H.out.2.1 hl).mono ?_
  rintro en w1 ⟨rfl, rfl⟩
  go_wp2
  go_ret
  exact ⟨by simp, rfl⟩
end Go.Proofs.Ytjdbmlifekghfaa
