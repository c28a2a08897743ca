/-
  Ena, Three, Laws, Eb in one text.
-/
import Derived.Test.YtjdbmlifekghfaaEr2
import Derived.Test.YtjdbmlifekghfaaEr1
import Derived.Deep.RegionHeld3
import Derived.ProofKit
import Derived.OpenShut
import Derived.ShutString
import Derived.ChangeOld
import Derived.Below
namespace Go.Proofs.Ytjdbmlifekghfaa
set_option linter.unusedVariables false
open Go.RowKit

structure Ox where
  tb : Int
  g : Bool
  key : Int
  t : ByteArray
structure Px where
  sp : Int
  ev : Ev

structure En where
  k : Int
  tx : Int
  nx : Int
  id : Int
  ops : List Ox
  evs : List Px
  tn : Int
  tm : Int
  op : List Int
  ta : Int
  nm : ByteArray
  n : Int
  at' : Int

def Ox.cs (o : Ox) : Array Value := #[.int .i64 o.tb, .bool o.g, .int .i64 o.key, .string o.t]
def Px.cs (x : Px) : Array Value := #[.int .i64 x.sp, .int .i64 x.ev.id, .int .i64 x.ev.tx, .string x.ev.ow, .int .i64 x.ev.tr, .int .i64 x.ev.tb, .int .u8 x.ev.kd, .int .i64 x.ev.key, .string x.ev.t]

def En.zero : En := ⟨0, 0, 0, 0, [], [], 0, 0, [], 0, ⟨#[]⟩, 0, 0⟩

def flag (b : Bool) : Nat := if b = true then 1 else 0
def Ox.r4 (o : Ox) : List UInt8 := textL o.t.data.toList
def Ox.r3 (o : Ox) : List UInt8 := intL o.key ++ o.r4
def Ox.r2 (o : Ox) : List UInt8 := numL (flag o.g) ++ o.r3
def Ox.encL (o : Ox) : List UInt8 := numL o.tb.toNat ++ o.r2
def Px.encL (x : Px) : List UInt8 := numL x.sp.toNat ++ textL x.ev.encL
def manyL {α : Type} (f : α → List UInt8) : List α → List UInt8
  | [] => []
  | x :: t => f x ++ manyL f t
def wholeL (n : Int) : List UInt8 := numL n.toNat
def opsL (l : List Ox) : List UInt8 := numL l.length ++ manyL Ox.encL l
def evsL (l : List Px) : List UInt8 := numL l.length ++ manyL Px.encL l
def openL (l : List Int) : List UInt8 := numL l.length ++ manyL wholeL l

theorem manyL_append {α : Type} (f : α → List UInt8) (l m : List α) : manyL f (l ++ m) = manyL f l ++ manyL f m := by
  induction l with
  | nil => rfl
  | cons x t ih => rw [List.cons_append, manyL, manyL, ih, List.append_assoc]

theorem manyL_snoc {α : Type} (f : α → List UInt8) (l : List α) (x : α) : manyL f (l ++ [x]) = manyL f l ++ f x := by rw [manyL_append]; simp [manyL]

theorem manyL_len {α : Type} (f : α → List UInt8) (m : Nat) (l : List α) (h : ∀ x ∈ l, (f x).length ≤ m) : (manyL f l).length ≤ m * l.length := by
  induction l with
  | nil => simp [manyL]
  | cons x t ih =>
    have h1 := ih (fun y hy => h y (List.mem_cons_of_mem _ hy))
    have h2 := h x (List.mem_cons_self ..)
    rw [manyL, List.length_append, List.length_cons, Nat.mul_succ]
    omega

def En.b1 (e : En) : List UInt8 := wholeL e.tx ++ (wholeL e.nx ++ (wholeL e.id ++ (opsL e.ops ++ evsL e.evs)))
def En.b8 (e : En) : List UInt8 := wholeL e.tx ++ (wholeL e.nx ++ (wholeL e.id ++ (evsL e.evs ++ intL e.at')))
def En.b2 (e : En) : List UInt8 := wholeL e.tn ++ (wholeL e.tm ++ (openL e.op ++ intL e.ta))
def En.b3 (e : En) : List UInt8 := textL e.nm.data.toList ++ wholeL e.n
def En.b7 (e : En) : List UInt8 := textL e.nm.data.toList ++ (wholeL e.n ++ intL e.at')
def En.b9 (e : En) : List UInt8 := wholeL e.n
def En.b11 (e : En) : List UInt8 := wholeL e.n ++ opsL e.ops
def En.body (e : En) : List UInt8 :=
  if e.k = 1 then e.b1 else if e.k = 8 then e.b8 else if e.k = 2 then e.b2 else if 3 ≤ e.k ∧ e.k ≤ 6 then e.b3 else if e.k = 7 then e.b7 else if e.k = 9 ∨ e.k = 10 then e.b9 else if e.k = 11 then e.b11 else []
def En.encL (e : En) : List UInt8 := UInt8.ofNat e.k.toNat :: e.body

def En.norm (e : En) : En :=
  if e.k = 1 then ⟨1, e.tx, e.nx, e.id, e.ops, e.evs, 0, 0, [], 0, ⟨#[]⟩, 0, 0⟩
  else if e.k = 8 then ⟨8, e.tx, e.nx, e.id, [], e.evs, 0, 0, [], 0, ⟨#[]⟩, 0, e.at'⟩
  else if e.k = 2 then ⟨2, 0, 0, 0, [], [], e.tn, e.tm, e.op, e.ta, ⟨#[]⟩, 0, 0⟩
  else if 3 ≤ e.k ∧ e.k ≤ 6 then ⟨e.k, 0, 0, 0, [], [], 0, 0, [], 0, e.nm, e.n, 0⟩
  else if e.k = 7 then ⟨7, 0, 0, 0, [], [], 0, 0, [], 0, e.nm, e.n, e.at'⟩
  else if e.k = 9 ∨ e.k = 10 then ⟨e.k, 0, 0, 0, [], [], 0, 0, [], 0, ⟨#[]⟩, e.n, 0⟩
  else if e.k = 11 then ⟨11, 0, 0, 0, e.ops, [], 0, 0, [], 0, ⟨#[]⟩, e.n, 0⟩
  else ⟨e.k, 0, 0, 0, [], [], 0, 0, [], 0, ⟨#[]⟩, 0, 0⟩

structure Ox.Right (o : Ox) : Prop where
  tb : 0 ≤ o.tb ∧ o.tb ≤ 255
  key : -9223372036854775808 ≤ o.key ∧ o.key ≤ 9223372036854775807
  t : o.t.size ≤ 40
structure Px.Right (x : Px) : Prop where
  sp : 0 ≤ x.sp ∧ x.sp ≤ 255
  ev : x.ev.Right
  ok : x.ev.Ok
def whole (n : Int) : Prop := 0 ≤ n ∧ n ≤ 9223372036854775807
structure En.Right (e : En) : Prop where
  k : 1 ≤ e.k ∧ e.k ≤ 11
  tx : whole e.tx
  nx : whole e.nx
  id : whole e.id
  ops : ∀ o ∈ e.ops, o.Right
  nops : e.ops.length ≤ 255
  evs : ∀ x ∈ e.evs, x.Right
  nevs : e.evs.length ≤ 255
  tn : whole e.tn
  tm : whole e.tm
  op : ∀ n ∈ e.op, whole n
  nop : e.op.length ≤ 255
  ta : -9223372036854775808 ≤ e.ta ∧ e.ta ≤ 9223372036854775807
  nm : e.nm.size ≤ 40
  n : whole e.n
  at' : -9223372036854775808 ≤ e.at' ∧ e.at' ≤ 9223372036854775807

def oA (e : Int) (l : List UInt8) := rfN 0 255 e l
def oB (e : Int) (l : List UInt8) := rfN 0 1 (oA e l).2.2 (oA e l).2.1
def oC (e : Int) (l : List UInt8) := rfI (oB e l).2.2 (oB e l).2.1
def oD (e : Int) (l : List UInt8) := rText 40 (oC e l).2.2 (oC e l).2.1
def dOp (e : Int) (l : List UInt8) : Ox := ⟨((oA e l).1 : Int), decide ((oB e l).1 = 1), (oC e l).1, strL (oD e l).1⟩

def dOps : Nat → Int → List UInt8 → List Ox × List UInt8 × Int
  | 0, e, l => ([], l, e)
  | n + 1, e, l => if e = 0 then (dOp e l :: (dOps n (oD e l).2.2 (oD e l).2.1).1, (dOps n (oD e l).2.2 (oD e l).2.1).2) else ([], l, e)

def pA (e : Int) (l : List UInt8) := rfN 0 255 e l
def pB (e : Int) (l : List UInt8) := rText 400 (pA e l).2.2 (pA e l).2.1
def dPl (e : Int) (l : List UInt8) : Px := ⟨((pA e l).1 : Int), dEv (pB e l).1⟩
def pL (e : Int) (l : List UInt8) : List UInt8 := if dErr (pB e l).1 = 0 then (pB e l).2.1 else []

def dEvs : Nat → Int → List UInt8 → List Px × List UInt8 × Int
  | 0, e, l => ([], l, e)
  | n + 1, e, l => if e = 0 then (if (pB e l).2.2 = 0 then (dPl e l :: (dEvs n (dErr (pB e l).1) (pL e l)).1, (dEvs n (dErr (pB e l).1) (pL e l)).2) else ([], (pB e l).2)) else ([], l, e)

def wA (e : Int) (l : List UInt8) := rfN 0 9223372036854775807 e l
def dOpen : Nat → Int → List UInt8 → List Int × List UInt8 × Int
  | 0, e, l => ([], l, e)
  | n + 1, e, l => if e = 0 then (((wA e l).1 : Int) :: (dOpen n (wA e l).2.2 (wA e l).2.1).1, (dOpen n (wA e l).2.2 (wA e l).2.1).2) else ([], l, e)

def bA (e : Int) (l : List UInt8) := rfN 0 255 e l
def gOps (e : Int) (l : List UInt8) := dOps (bA e l).1 (bA e l).2.2 (bA e l).2.1
def gEvs (e : Int) (l : List UInt8) := dEvs (bA e l).1 (bA e l).2.2 (bA e l).2.1
def gOpen (e : Int) (l : List UInt8) := dOpen (bA e l).1 (bA e l).2.2 (bA e l).2.1

def fx1 (l : List UInt8) := wA 0 l
def fx2 (l : List UInt8) := wA (fx1 l).2.2 (fx1 l).2.1
def fx3 (l : List UInt8) := wA (fx2 l).2.2 (fx2 l).2.1
def fx4 (l : List UInt8) := gOps (fx3 l).2.2 (fx3 l).2.1
def fx5 (l : List UInt8) := gEvs (fx4 l).2.2 (fx4 l).2.1
def fy4 (l : List UInt8) := gEvs (fx3 l).2.2 (fx3 l).2.1
def fy5 (l : List UInt8) := rfI (fy4 l).2.2 (fy4 l).2.1
def ft1 (l : List UInt8) := wA 0 l
def ft2 (l : List UInt8) := wA (ft1 l).2.2 (ft1 l).2.1
def ft3 (l : List UInt8) := gOpen (ft2 l).2.2 (ft2 l).2.1
def ft4 (l : List UInt8) := rfI (ft3 l).2.2 (ft3 l).2.1
def fn1 (l : List UInt8) := rText 40 0 l
def fn2 (l : List UInt8) := wA (fn1 l).2.2 (fn1 l).2.1
def fn3 (l : List UInt8) := rfI (fn2 l).2.2 (fn2 l).2.1
def fm1 (l : List UInt8) := wA 0 l
def fm2 (l : List UInt8) := gOps (fm1 l).2.2 (fm1 l).2.1

def dBody (k : Int) (l : List UInt8) : En × List UInt8 × Int :=
  if k = 1 then (⟨1, (fx1 l).1, (fx2 l).1, (fx3 l).1, (fx4 l).1, (fx5 l).1, 0, 0, [], 0, ⟨#[]⟩, 0, 0⟩, (fx5 l).2)
  else if k = 8 then (⟨8, (fx1 l).1, (fx2 l).1, (fx3 l).1, [], (fy4 l).1, 0, 0, [], 0, ⟨#[]⟩, 0, (fy5 l).1⟩, (fy5 l).2)
  else if k = 2 then (⟨2, 0, 0, 0, [], [], (ft1 l).1, (ft2 l).1, (ft3 l).1, (ft4 l).1, ⟨#[]⟩, 0, 0⟩, (ft4 l).2)
  else if 3 ≤ k ∧ k ≤ 6 then (⟨k, 0, 0, 0, [], [], 0, 0, [], 0, strL (fn1 l).1, (fn2 l).1, 0⟩, (fn2 l).2)
  else if k = 7 then (⟨7, 0, 0, 0, [], [], 0, 0, [], 0, strL (fn1 l).1, (fn2 l).1, (fn3 l).1⟩, (fn3 l).2)
  else if k = 9 ∨ k = 10 then (⟨k, 0, 0, 0, [], [], 0, 0, [], 0, ⟨#[]⟩, (fm1 l).1, 0⟩, (fm1 l).2)
  else (⟨11, 0, 0, 0, (fm2 l).1, [], 0, 0, [], 0, ⟨#[]⟩, (fm1 l).1, 0⟩, (fm2 l).2)

def kOf (b : UInt8) : Int := b.toNat
def dEr : List UInt8 → Int
  | [] => 3
  | b :: l => if 1 ≤ kOf b ∧ kOf b ≤ 11 then rEnd (dBody (kOf b) l).2.2 (dBody (kOf b) l).2.1 else 2
def dEn : List UInt8 → En
  | [] => En.zero
  | b :: l => if dEr (b :: l) = 0 then (dBody (kOf b) l).1 else En.zero

theorem wA_back {n : Int} (h : whole n) (t : List UInt8) : wA 0 (wholeL n ++ t) = (n.toNat, t, 0) :=
  rfN_back t (by omega) (by have := h.2; omega) (by have := h.1; have := h.2; omega)

theorem rfI_back {n : Int} (h : -9223372036854775808 ≤ n ∧ n ≤ 9223372036854775807) (t : List UInt8) : rfI 0 (intL n ++ t) = (n, t, 0) := by
  rw [rfI, intL, rNum_back _ _ (Lib.zigzag_lt h.1 h.2), unzig_zigzag]

theorem flag_le (b : Bool) : flag b ≤ 1 := by cases b <;> decide
theorem flag_one (b : Bool) : decide (flag b = 1) = b := by cases b <;> decide

theorem op_back {o : Ox} (h : o.Right) (t : List UInt8) : oD 0 (o.encL ++ t) = (o.t.data.toList, t, 0) ∧ dOp 0 (o.encL ++ t) = o := by
  have h1 := h.tb; have h3 := h.t
  have xa : oA 0 (o.encL ++ t) = (o.tb.toNat, o.r2 ++ t, 0) := by rw [Ox.encL, List.append_assoc]; exact rfN_back _ (by omega) (by omega) (by omega)
  have xb : oB 0 (o.encL ++ t) = (flag o.g, o.r3 ++ t, 0) := by rw [oB, xa, Ox.r2, List.append_assoc]; exact rfN_back _ (by omega) (flag_le _) (by have := flag_le o.g; omega)
  have xc : oC 0 (o.encL ++ t) = (o.key, o.r4 ++ t, 0) := by rw [oC, xb, Ox.r3, List.append_assoc]; exact rfI_back h.key _
  have xd : oD 0 (o.encL ++ t) = (o.t.data.toList, t, 0) := by rw [oD, xc]; exact rText_back 40 _ _ (by rw [size_list]; omega) (by rw [size_list]; omega)
  refine ⟨xd, ?_⟩
  rw [dOp, xa, xb, xc, xd]
  simp only
  rw [flag_one, strL_self', show ((o.tb.toNat : Nat) : Int) = o.tb from by omega]

theorem ops_back (l : List Ox) (h : ∀ o ∈ l, o.Right) (t : List UInt8) : dOps l.length 0 (manyL Ox.encL l ++ t) = (l, t, 0) := by
  induction l with
  | nil => rfl
  | cons o l ih =>
    obtain ⟨a, b⟩ := op_back (h o (List.mem_cons_self ..)) (manyL Ox.encL l ++ t)
    rw [manyL, List.append_assoc, List.length_cons, dOps, if_pos rfl, a, b, ih (fun x hx => h x (List.mem_cons_of_mem _ hx))]

theorem gOps_back {l : List Ox} (h : ∀ o ∈ l, o.Right) (hn : l.length ≤ 255) (t : List UInt8) : gOps 0 (opsL l ++ t) = (l, t, 0) := by
  have x : bA 0 (opsL l ++ t) = (l.length, manyL Ox.encL l ++ t, 0) := by rw [opsL, List.append_assoc]; exact rfN_back _ (by omega) hn (by omega)
  rw [gOps, x]
  exact ops_back l h t

theorem pl_back {x : Px} (h : x.Right) (t : List UInt8) : (pB 0 (x.encL ++ t)) = (x.ev.encL, t, 0) ∧ dPl 0 (x.encL ++ t) = x := by
  have h1 := h.sp
  have hl := Ev.encL_len h.ev h.ok
  have xa : pA 0 (x.encL ++ t) = (x.sp.toNat, textL x.ev.encL ++ t, 0) := by rw [Px.encL, List.append_assoc]; exact rfN_back _ (by omega) (by omega) (by omega)
  have xb : pB 0 (x.encL ++ t) = (x.ev.encL, t, 0) := by rw [pB, xa]; exact rText_back 400 _ _ (by omega) (by omega)
  refine ⟨xb, ?_⟩
  rw [dPl, xa, xb, (dec_back h.ev h.ok).2]
  simp only
  rw [show ((x.sp.toNat : Nat) : Int) = x.sp from by omega]

theorem evs_back (l : List Px) (h : ∀ x ∈ l, x.Right) (t : List UInt8) : dEvs l.length 0 (manyL Px.encL l ++ t) = (l, t, 0) := by
  induction l with
  | nil => rfl
  | cons x l ih =>
    have hx := h x (List.mem_cons_self ..)
    obtain ⟨a, b⟩ := pl_back hx (manyL Px.encL l ++ t)
    have e0 := (dec_back hx.ev hx.ok).1
    have c : pL 0 (x.encL ++ (manyL Px.encL l ++ t)) = manyL Px.encL l ++ t := by rw [pL, a, if_pos e0]
    rw [manyL, List.append_assoc, List.length_cons, dEvs, if_pos rfl, c, a, b, if_pos rfl, e0, ih (fun x hx => h x (List.mem_cons_of_mem _ hx))]

theorem gEvs_back {l : List Px} (h : ∀ x ∈ l, x.Right) (hn : l.length ≤ 255) (t : List UInt8) : gEvs 0 (evsL l ++ t) = (l, t, 0) := by
  have x : bA 0 (evsL l ++ t) = (l.length, manyL Px.encL l ++ t, 0) := by rw [evsL, List.append_assoc]; exact rfN_back _ (by omega) hn (by omega)
  rw [gEvs, x]
  exact evs_back l h t

theorem open_back (l : List Int) (h : ∀ n ∈ l, whole n) (t : List UInt8) : dOpen l.length 0 (manyL wholeL l ++ t) = (l, t, 0) := by
  induction l with
  | nil => rfl
  | cons n l ih =>
    have hn := h n (List.mem_cons_self ..)
    rw [manyL, List.append_assoc, List.length_cons, dOpen, if_pos rfl, wA_back hn, ih (fun x hx => h x (List.mem_cons_of_mem _ hx))]
    simp only
    rw [show ((n.toNat : Nat) : Int) = n from by have := hn.1; omega]

theorem gOpen_back {l : List Int} (h : ∀ n ∈ l, whole n) (hn : l.length ≤ 255) (t : List UInt8) : gOpen 0 (openL l ++ t) = (l, t, 0) := by
  have x : bA 0 (openL l ++ t) = (l.length, manyL wholeL l ++ t, 0) := by rw [openL, List.append_assoc]; exact rfN_back _ (by omega) hn (by omega)
  rw [gOpen, x]
  exact open_back l h t

theorem nm_back {s : ByteArray} (h : s.size ≤ 40) (t : List UInt8) : rText 40 0 (textL s.data.toList ++ t) = (s.data.toList, t, 0) :=
  rText_back 40 _ _ (by rw [size_list]; omega) (by rw [size_list]; omega)

theorem toNat_w {n : Int} (h : whole n) : ((n.toNat : Nat) : Int) = n := by have := h.1; omega
theorem nil_tail (l : List UInt8) : l = l ++ [] := (List.append_nil l).symm

theorem body_back {e : En} (h : e.Right) : dBody e.k e.body = (e.norm, [], 0) := by
  have hk := h.k
  unfold dBody En.body En.norm
  by_cases h1 : e.k = 1
  · rw [if_pos h1, if_pos h1, if_pos h1]
    have a1 : fx1 e.b1 = (e.tx.toNat, wholeL e.nx ++ (wholeL e.id ++ (opsL e.ops ++ evsL e.evs)), 0) := wA_back h.tx _
    have a2 : fx2 e.b1 = (e.nx.toNat, wholeL e.id ++ (opsL e.ops ++ evsL e.evs), 0) := by rw [fx2, a1]; exact wA_back h.nx _
    have a3 : fx3 e.b1 = (e.id.toNat, opsL e.ops ++ evsL e.evs, 0) := by rw [fx3, a2]; exact wA_back h.id _
    have a4 : fx4 e.b1 = (e.ops, evsL e.evs, 0) := by rw [fx4, a3]; exact gOps_back h.ops h.nops _
    have a5 : fx5 e.b1 = (e.evs, [], 0) := by rw [fx5, a4, nil_tail (evsL e.evs)]; exact gEvs_back h.evs h.nevs _
    rw [a1, a2, a3, a4, a5]
    simp only
    rw [toNat_w h.tx, toNat_w h.nx, toNat_w h.id]
  rw [if_neg h1, if_neg h1, if_neg h1]
  by_cases h8 : e.k = 8
  · rw [if_pos h8, if_pos h8, if_pos h8]
    have a1 : fx1 e.b8 = (e.tx.toNat, wholeL e.nx ++ (wholeL e.id ++ (evsL e.evs ++ intL e.at')), 0) := wA_back h.tx _
    have a2 : fx2 e.b8 = (e.nx.toNat, wholeL e.id ++ (evsL e.evs ++ intL e.at'), 0) := by rw [fx2, a1]; exact wA_back h.nx _
    have a3 : fx3 e.b8 = (e.id.toNat, evsL e.evs ++ intL e.at', 0) := by rw [fx3, a2]; exact wA_back h.id _
    have a4 : fy4 e.b8 = (e.evs, intL e.at', 0) := by rw [fy4, a3]; exact gEvs_back h.evs h.nevs _
    have a5 : fy5 e.b8 = (e.at', [], 0) := by rw [fy5, a4, nil_tail (intL e.at')]; exact rfI_back h.at' _
    rw [a1, a2, a3, a4, a5]
    simp only
    rw [toNat_w h.tx, toNat_w h.nx, toNat_w h.id]
  rw [if_neg h8, if_neg h8, if_neg h8]
  by_cases h2 : e.k = 2
  · rw [if_pos h2, if_pos h2, if_pos h2]
    have a1 : ft1 e.b2 = (e.tn.toNat, wholeL e.tm ++ (openL e.op ++ intL e.ta), 0) := wA_back h.tn _
    have a2 : ft2 e.b2 = (e.tm.toNat, openL e.op ++ intL e.ta, 0) := by rw [ft2, a1]; exact wA_back h.tm _
    have a3 : ft3 e.b2 = (e.op, intL e.ta, 0) := by rw [ft3, a2]; exact gOpen_back h.op h.nop _
    have a4 : ft4 e.b2 = (e.ta, [], 0) := by rw [ft4, a3, nil_tail (intL e.ta)]; exact rfI_back h.ta _
    rw [a1, a2, a3, a4]
    simp only
    rw [toNat_w h.tn, toNat_w h.tm]
  rw [if_neg h2, if_neg h2, if_neg h2]
  by_cases h3 : 3 ≤ e.k ∧ e.k ≤ 6
  · rw [if_pos h3, if_pos h3, if_pos h3]
    have a1 : fn1 e.b3 = (e.nm.data.toList, wholeL e.n, 0) := nm_back h.nm _
    have a2 : fn2 e.b3 = (e.n.toNat, [], 0) := by rw [fn2, a1, nil_tail (wholeL e.n)]; exact wA_back h.n _
    rw [a1, a2]
    simp only
    rw [toNat_w h.n, strL_self']
  rw [if_neg h3, if_neg h3, if_neg h3]
  by_cases h7 : e.k = 7
  · rw [if_pos h7, if_pos h7, if_pos h7]
    have a1 : fn1 e.b7 = (e.nm.data.toList, wholeL e.n ++ intL e.at', 0) := nm_back h.nm _
    have a2 : fn2 e.b7 = (e.n.toNat, intL e.at', 0) := by rw [fn2, a1]; exact wA_back h.n _
    have a3 : fn3 e.b7 = (e.at', [], 0) := by rw [fn3, a2, nil_tail (intL e.at')]; exact rfI_back h.at' _
    rw [a1, a2, a3]
    simp only
    rw [toNat_w h.n, strL_self']
  rw [if_neg h7, if_neg h7, if_neg h7]
  by_cases h9 : e.k = 9 ∨ e.k = 10
  · rw [if_pos h9, if_pos h9, if_pos h9]
    have a1 : fm1 e.b9 = (e.n.toNat, [], 0) := by rw [fm1, En.b9, nil_tail (wholeL e.n)]; exact wA_back h.n _
    rw [a1]
    simp only
    rw [toNat_w h.n]
  rw [if_neg h9, if_neg h9, if_neg h9, if_pos (by omega), if_pos (by omega)]
  have a1 : fm1 e.b11 = (e.n.toNat, opsL e.ops, 0) := wA_back h.n _
  have a2 : fm2 e.b11 = (e.ops, [], 0) := by rw [fm2, a1, nil_tail (opsL e.ops)]; exact gOps_back h.ops h.nops _
  rw [a1, a2]
  simp only
  rw [toNat_w h.n]

theorem kOf_ofNat {k : Int} (h : 0 ≤ k ∧ k ≤ 255) : kOf (UInt8.ofNat k.toNat) = k := by
  unfold kOf
  rw [UInt8.toNat_ofNat']
  omega

theorem en_back {e : En} (h : e.Right) : dEr e.encL = 0 ∧ dEn e.encL = e.norm := by
  have hk := h.k
  have hb := body_back h
  have e1 := kOf_ofNat (k := e.k) (by omega)
  have hE : dEr e.encL = 0 := by
    rw [En.encL, dEr, e1, if_pos hk, hb]
    rfl
  refine ⟨hE, ?_⟩
  have h2 := hE
  rw [En.encL] at h2 ⊢
  rw [dEn, if_pos h2, e1, hb]

end Go.Proofs.Ytjdbmlifekghfaa

namespace Go.Proofs.Ytjdbmlifekghfaa
open Go.RowKit
variable {R : Bx}

theorem rd_lit (w : World) (l : List UInt8) (cs : Array Value) (T : TypeId) (n : Nat) (hn : n = l.length) (h : cs.toList = bc l) : Rd (w.alloc (.cells cs T)) (.slice (some ⟨w.heap.size, 0, none⟩) n n) l := by
  subst hn
  refine ⟨_, _, rfl, Nat.le_refl _, by simp, fun _ => ⟨w.heap.size, 0, rfl, fun i hi => ?_⟩⟩
  rw [World.cell?_alloc_at _ _ _ _ rfl, ← Array.getElem?_toList, h, Nat.zero_add]
  exact bc_at l i hi

end Go.Proofs.Ytjdbmlifekghfaa

namespace Go.Proofs.Ytjdbmlifekghfaa
open Go.ChangeShapes Go.WideShapes Go.ChangeAt Go.RowKit
variable {R : Bx}

def IsRow (k : IntKind) (w : World) (a : Option Addr) (len cap : Nat) (zs : List Int) : Prop :=
  (a = none ∧ len = 0 ∧ cap = 0 ∧ zs = []) ∨
  ∃ x, a = some x ∧ len ≤ cap ∧ cap ≤ maxLen ∧ zs.length = cap ∧ (∀ i, i < zs.length → w.cell? (x.add i) = some (.int k (zs.getD i 0))) ∧ ∀ n ∈ zs, (Lit.int k n).wf = true

theorem isRow_rd {w : World} {a : Option Addr} {len cap : Nat} {zs : List Int} (h : IsRow .u8 w a len cap zs) : ∃ l : List UInt8, l.length = len ∧ Rd w (.slice a len cap) l := by
  rcases h with ⟨rfl, rfl, rfl, rfl⟩ | ⟨x, rfl, hl, hm, hz, hcell, hwz⟩
  · exact ⟨[], rfl, Rd.nil w⟩
  · refine ⟨(zs.take len).map fun n => UInt8.ofNat n.toNat, by simp; omega, ?_⟩
    have hlen : ((zs.take len).map fun n => UInt8.ofNat n.toNat).length = len := by simp; omega
    refine ⟨some x, cap, by rw [hlen], by omega, by simp, fun hne => ?_⟩
    have hpos : 0 < len := by rw [← hlen]; exact List.length_pos_iff.2 hne
    obtain ⟨b, off, spot⟩ := x
    have h0 := hcell 0 (by omega)
    have hspot : spot = none := by simpa [Addr.add] using World.cell?_spot h0
    subst hspot
    refine ⟨b, off, rfl, fun i hi => ?_⟩
    rw [hlen] at hi
    have hc := hcell i (by omega)
    rw [Addr.add_lit] at hc
    rw [hc]
    have hb := bounds_u8 (hwz (zs.getD i 0) (by simp [List.getD, show i < zs.length by omega]))
    have e : ((zs.take len).map fun n => UInt8.ofNat n.toNat).getD i 0 = UInt8.ofNat (zs.getD i 0).toNat := by
      simp [List.getD, hi, show i < zs.length by omega]
    rw [e]
    have h2 : (UInt8.ofNat (zs.getD i 0).toNat).toNat = (zs.getD i 0).toNat := by
      rw [UInt8.toNat_ofNat']
      omega
    rw [h2]
    congr 2
    omega

theorem Wr.kept {w w' : World} {base p : Nat} {v : Value} {l : List UInt8} {bs : List Nat} (h : Wr R w base p v l) (hk : Kept w w' bs) (hp : p ∉ bs) (hb : ∀ b, v.ownBlock = some b → b ∉ bs) : Wr R w' base p v l :=
  ⟨hk.heap hp h.1, h.2.kept hk hb⟩

end Go.Proofs.Ytjdbmlifekghfaa

namespace Go.Proofs.Ytjdbmlifekghfaa
open Go.RowKit

set_option maxHeartbeats 400000 in
set_option maxRecDepth 100000 in
theorem new_any2 (v : Value) (l : List UInt8) (w : World) (h : Rd w v l) (hl : l.length ≤ 1099511627796) :
    Calls Try.prog 29 #[v] w fun e w' => ∃ r v', e = .returned (.pointer (some ⟨r, 0, none⟩)) ∧ Rr w' r v' 0 l ∧ w.heap.size ≤ r ∧ r < w'.heap.size ∧ (∀ b, v'.ownBlock = some b → w.heap.size ≤ b ∧ b < w'.heap.size) ∧ Kept w w' [] := by
  have H := Lib.hid h; clear h
  go_enter Try.func29, Try.ntmps29
  go_wp2_with fail
  refine (clone_any v l w H.out hl).mono ?_
  rintro e w1 ⟨v', rfl, ho, hk⟩
  obtain ⟨a2, n2, c2, hv2⟩ := ho.shape3
  have Ho := Lib.hid ho; have Hk := Lib.hid hk; clear ho hk
  subst hv2
  go_wp2
  go_ret
  have hs := Hk.out.size
  refine ⟨w1.heap.size, _, rfl, ⟨heap_alloc_new w1 _, (Ho.out.rd).kept (((Kept.refl w1 []).alloc _)) (by simp), ?_⟩, hs, by simp, fun b hb => ⟨(Ho.out.lt b hb).1, by have := (Ho.out.lt b hb).2; simp; omega⟩, Hk.out.alloc _⟩
  intro b hb
  have := (Ho.out.lt b hb).2
  omega

def Er (w : World) (q r : Nat) (v : Value) (s : Sd) : Prop :=
  w.heap[q]? = some (.cells #[.pointer (some ⟨r, 0, none⟩), .bool s.bad] 156 (0, 0)) ∧ Rr w r v s.e s.l ∧ (∀ b, v.ownBlock = some b → b ≠ q) ∧ q ≠ r

theorem Er.cells {w : World} {q r : Nat} {v : Value} {s : Sd} (h : Er w q r v s) :
    w.cell? ⟨q, 0, none⟩ = some (.pointer (some ⟨r, 0, none⟩)) ∧ w.cell? ⟨q, 1, none⟩ = some (.bool s.bad) ∧ w.frozen? ⟨q, 1, none⟩ = false :=
  ⟨by simpa using cell_of_row w q 0 _ _ _ h.1, by simpa using cell_of_row w q 1 _ _ _ h.1, frozen_of_row w q 1 _ _ h.1⟩

theorem Er.kept {w w' : World} {q r : Nat} {v : Value} {s : Sd} {bs : List Nat} (h : Er w q r v s) (hk : Kept w w' bs) (hq : q ∉ bs) (hr : r ∉ bs) (hb : ∀ b, v.ownBlock = some b → b ∉ bs) : Er w' q r v s :=
  ⟨hk.heap hq h.1, h.2.1.kept hk hr hb, h.2.2⟩

theorem Er.read {w w' : World} {q r : Nat} {v v' : Value} {s : Sd} (h : Er w q r v s) {e' : Int} {l' : List UInt8} (hr : Rr w' r v' e' l') (hk : Kept w w' [r]) (hb : ∀ b, v'.ownBlock = some b → v.ownBlock = some b) : Er w' q r v' ⟨s.bad, e', l'⟩ :=
  ⟨hk.heap (by simpa using h.2.2.2) h.1, hr, fun b hb' => h.2.2.1 b (hb b hb'), h.2.2.2⟩

theorem Er.mark {w : World} {q r : Nat} {v : Value} {s : Sd} (h : Er w q r v s) : Er (w.setCell ⟨q, 1, none⟩ (.bool true)) q r v ⟨true, s.e, s.l⟩ :=
  ⟨by simpa using heap_setCell_at h.1 1 (.bool true), h.2.1.kept ((Kept.refl w [q]).setCell (.inl (by simp)) _) (by simpa using h.2.2.2.symm) (by simpa using h.2.2.1), h.2.2⟩

set_option maxHeartbeats 1000000 in
set_option maxRecDepth 100000 in
theorem ernum_any (q r : Nat) (v : Value) (s : Sd) (lo hi : Nat) (w : World) (h : Er w q r v s) (hl : s.l.length ≤ 1099511627796) :
    Calls Try.prog 94 #[.pointer (some ⟨q, 0, none⟩), .int .u64 lo, .int .u64 hi] w fun en w' => en = .returned (.int .u64 (stN lo hi s).1) ∧ ∃ v', Er w' q r v' (stN lo hi s).2 ∧ Kept w w' [q, r] ∧ (∀ b, v'.ownBlock = some b → v.ownBlock = some b) := by
  obtain ⟨c0, _, _⟩ := h.cells
  have H := Lib.hid h; clear h
  obtain ⟨n, hn⟩ : ∃ n, n = (rNum s.e s.l).1 := ⟨_, rfl⟩
  obtain ⟨l1, hl1⟩ : ∃ l1, l1 = (rNum s.e s.l).2.1 := ⟨_, rfl⟩
  obtain ⟨e1, he1⟩ : ∃ e1, e1 = (rNum s.e s.l).2.2 := ⟨_, rfl⟩
  have hS : stN lo hi s = (n, ⟨s.bad || badN lo hi e1 n, e1, l1⟩) := by rw [stN, ← hn, ← hl1, ← he1]
  have CN := Lib.hid (rnum_any r v s.e s.l w H.out.2.1 hl)
  have hnb := rNum_lt s.e s.l
  rw [← hn] at hnb
  have Hn := Lib.hid hn; have Hl1 := Lib.hid hl1; have He1 := Lib.hid he1; have HS := Lib.hid hS
  clear hn hl1 he1 hS
  go_enter Try.func94, Try.ntmps94
  go_wp2_with fail
  refine CN.out.mono ?_
  rw [← Hn.out, ← Hl1.out, ← He1.out]
  rintro en w1 ⟨rfl, v1, hr1, hk1, hb1⟩
  have E1 := Lib.hid (H.out.read hr1 hk1 hb1)
  obtain ⟨d0, d1, g1⟩ := E1.out.cells
  have Hk1 := Lib.hid (hk1.mono (cs := [q, r]) (by simp)); have Hb1 := Lib.hid hb1; have Hr1 := Lib.hid hr1
  clear hr1 hk1 hb1 c0
  by_cases he : e1 = 0
  · subst he
    by_cases h1 : n < lo
    · have x1 : (n : Int) < (lo : Int) := by omega
      have HB : RowKit.Hid ((s.bad || badN lo hi 0 n) = true) := Lib.hid (by simp [badN]; omega)
      go_wp2_with fail
      refine (error_any r v1 0 l1 w1 Hr1.out).mono ?_
      rintro en w2 ⟨rfl, rfl⟩
      go_wp2
      go_ret
      rw [HS.out, HB.out]
      exact ⟨rfl, v1, E1.out.mark, Hk1.out.setCell (.inl (by simp)) _, Hb1.out⟩
    · have x1 : ¬ (n : Int) < (lo : Int) := by omega
      by_cases h2 : hi < n
      · have x2 : (hi : Int) < (n : Int) := by omega
        have HB : RowKit.Hid ((s.bad || badN lo hi 0 n) = true) := Lib.hid (by simp [badN]; omega)
        go_wp2_with fail
        refine (error_any r v1 0 l1 w1 Hr1.out).mono ?_
        rintro en w2 ⟨rfl, rfl⟩
        go_wp2
        go_ret
        rw [HS.out, HB.out]
        exact ⟨rfl, v1, E1.out.mark, Hk1.out.setCell (.inl (by simp)) _, Hb1.out⟩
      · have x2 : ¬ (hi : Int) < (n : Int) := by omega
        have HB : RowKit.Hid ((s.bad || badN lo hi 0 n) = s.bad) := Lib.hid (by simp [badN]; omega)
        go_wp2_with fail
        refine (error_any r v1 0 l1 w1 Hr1.out).mono ?_
        rintro en w2 ⟨rfl, rfl⟩
        go_wp2
        go_ret
        rw [HS.out, HB.out]
        exact ⟨rfl, v1, E1.out, Hk1.out, Hb1.out⟩
  · have x0 : (e1 == 0) = false := by simpa using he
    have HB : RowKit.Hid ((s.bad || badN lo hi e1 n) = s.bad) := Lib.hid (by simp [badN, he])
    clear he
    go_wp2_with fail
    refine (error_any r v1 e1 l1 w1 Hr1.out).mono ?_
    rintro en w2 ⟨rfl, rfl⟩
    go_wp2
    go_ret
    rw [HS.out, HB.out]
    exact ⟨rfl, v1, E1.out, Hk1.out, Hb1.out⟩

set_option maxHeartbeats 1000000 in
set_option maxRecDepth 100000 in
theorem erend_any (q r : Nat) (v : Value) (s : Sd) (w : World) (h : Er w q r v s) (hl : s.l.length ≤ 1099511627796) :
    Calls Try.prog 95 #[.pointer (some ⟨q, 0, none⟩)] w fun en w' => en = .returned (.int .i64 (if s.bad = true then 2 else rEnd s.e s.l)) ∧ w = w' := by
  obtain ⟨c0, c1, _⟩ := h.cells
  have H := Lib.hid h; clear h
  cases hb : s.bad with
  | true =>
    rw [hb] at c1
    have Hb := Lib.hid hb; clear hb
    go_enter Try.func95, Try.ntmps95
    go_wp2
    go_ret
    exact ⟨rfl, rfl⟩
  | false =>
    rw [hb] at c1
    have Hb := Lib.hid hb; clear hb
    go_enter Try.func95, Try.ntmps95
    go_wp2_with fail
    refine (end_any r v s.e s.l w H.out.2.1 hl).mono ?_
    rintro en w1 ⟨rfl, rfl⟩
    go_wp2
    go_ret
    exact ⟨by simp, rfl⟩

end Go.Proofs.Ytjdbmlifekghfaa
