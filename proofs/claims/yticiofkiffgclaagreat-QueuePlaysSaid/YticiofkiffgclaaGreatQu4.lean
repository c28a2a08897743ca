/-
 Cuc, Cud, Cue, Cuf, Cug, Cqo in one text.
-/
import Derived.Test.YticiofkiffgclaaGreatQu0
import Derived.Test.YticiofkiffgclaaGreatQu2
import Derived.Test.YticiofkiffgclaaGreatQu3
import Derived.Deep.DeepCutAuto
set_option linter.unusedVariables false
set_option maxHeartbeats 16000000
set_option maxRecDepth 100000
namespace Go.Proofs.YticiofkiffgclaaGreat
open Go.RowKit
theorem ahd_spec : ∀ {l : List Cu} (h : Nms l) (n : ByteArray), (∀ j y, j < ahd l n -> l[j]? = some y -> ltN y.nm n = true) /\ (∀ j y, ahd l n <= j -> l[j]? = some y -> ltN y.nm n = false)
 | [], _, n => ⟨fun j y _ hy => by simp at hy, fun j y _ hy => by simp at hy⟩
 | x :: t, h, n => by
  obtain ⟨hx, ht⟩ := List.pairwise_cons.1 h
  obtain ⟨i1, i2⟩ := ahd_spec ht n
  cases hc : ltN x.nm n with
  | true =>
   have e : ahd (x :: t) n = ahd t n + 1 := by rw [ahd, List.countP_cons_of_pos (by exact hc)]; rfl
   rw [e]
   refine ⟨fun j y hj hy => ?_, fun j y hj hy => ?_⟩
   ·cases j with
    | zero => simp at hy; subst hy; exact hc
    | succ j => exact i1 j y (by omega) (by simpa using hy)
   cases j with
   | zero => omega
   | succ j => exact i2 j y (by omega) (by simpa using hy)
  | false =>
  have hn : ∀ y ∈ t, ltN y.nm n = false := fun y hy => by
   cases hk : ltN y.nm n with
   | false => rfl
   | true =>
   have := yqP _ _ _ (hx y hy) hk
   rw [ltN] at hc
   rw [hc] at this
   cases this
  have e : ahd (x :: t) n = 0 := by
   rw [ahd, List.countP_eq_zero]
   intro y hy
   rcases List.mem_cons.1 hy with rfl | hy
   ·rw [hc]; decide
   rw [hn y hy]; decide
  rw [e]
  refine ⟨fun j y hj _ => by omega, fun j y _ hy => ?_⟩
  rcases List.mem_cons.1 (List.mem_of_getElem? hy) with rfl | hy
  ·exact hc
  exact hn y hy
theorem plc_ahd {l : List Cu} (h : Nms l) {n : ByteArray} {i : Nat} (hp : plc l n = some i) : ahd l n = i := by
 obtain ⟨x, hx, hn⟩ := xqV hp
 obtain ⟨h1, h2⟩ := ahd_spec h n
 rcases Nat.lt_trichotomy i (ahd l n) with c | c | c
 ·have := h1 i x c hx
  rw [hn, ltN, yqe] at this
  cases this
 ·exact c.symm
 obtain ⟨hi, rfl⟩ := List.getElem?_eq_some_iff.1 hx
 have h3 := h2 (ahd l n) _ (Nat.le_refl _) (List.getElem?_eq_getElem (by omega))
 have h4 := List.pairwise_iff_getElem.1 h (ahd l n) i (by omega) hi c
 rw [hn] at h4
 rw [h4] at h3
 cases h3
theorem ins_ahd {l : List Cu} (h : Nms l) {x : Cu} (hp : plc l x.nm = none) : l.take (ahd l x.nm) ++ x :: l.drop (ahd l x.nm) = insC x l := by
 obtain ⟨h1, h2⟩ := ahd_spec h x.nm
 refine insC_at h (ahd_le l x.nm) (fun j y hj hy => ?_) (fun y h0 hy => bl_asymm (h1 _ y (by omega) hy))
 have h3 := h2 j y hj hy
 cases hc : ltN x.nm y.nm with
 | true => rfl
 | false => exact absurd (toList_inj (bl_tri _ _ h3 hc)) (plc_none hp y (List.mem_of_getElem? hy))
structure Cc (T e : TypeId) (w : World) (B h : Nat) (V : Value) (l : List Cu) : Prop where
 hh : w.heap[h]? = some (.cells #[V] T (0, 0))
 bh : B <= h
 hT : T ≠ e
 own : OwnK encCu w B e V l
def cfoot (h : Nat) (V : Value) : Nat -> Prop := fun k => k = h ∨ V.ownBlock = some k
variable {T e : TypeId} {w w' : World} {B h : Nat} {V : Value} {l : List Cu}
theorem Cc.cell (a : Cc T e w B h V l) : w.cell? ⟨h, 0, none⟩ = some V /\ w.frozen? ⟨h, 0, none⟩ = false :=
 ⟨by rw [cell_of_row _ _ _ _ _ _ a.hh]; rfl, frozen_of_row _ _ _ _ _ a.hh⟩
theorem Cc.lt (a : Cc T e w B h V l) : ∀ k, cfoot h V k -> B <= k /\ k < w.heap.size := by
 rintro k (rfl | hk)
 ·exact ⟨a.bh, xqh a.hh⟩
 exact a.own.lt k hk
theorem Cc.size (a : Cc T e w B h V l) : B <= w.heap.size := by have := xqh a.hh; have := a.bh; omega
theorem Cc.shape (a : Cc T e w B h V l) : ∃ u c, V = .slice u l.length c := a.own.shape
theorem Cc.apart (a : Cc T e w B h V l) : V.ownBlock ≠ some h := a.own.apart a.hh a.hT
theorem Cc.fo (a : Cc T e w B h V l) {O : Nat -> Prop} (hf : Fo O w w') (hd : ∀ k, cfoot h V k -> ¬ O k) : Cc T e w' B h V l :=
 ⟨hf.heap (hd h (.inl rfl)) a.hh, a.bh, a.hT, a.own.fo hf (fun g hg => hd g (.inr hg))⟩
theorem Cc.keep (a : Cc T e w B h V l) (hk : Kept w w' []) : Cc T e w' B h V l := a.fo (Fo.ofKept hk (fun _ => False)) (fun _ _ h => h)
theorem Cc.lay (a : Cc T e w B h V l) {w1 : World} (f : Fo (fun k => V.ownBlock = some k) w w1) {v : Value} {m : List Cu} (x : OwnK encCu w1 B e v m) (hv : ∀ k, v.ownBlock = some k -> V.ownBlock = some k ∨ w.heap.size <= k) :
 (w1.cell? ⟨h, 0, none⟩ = some V /\ w1.frozen? ⟨h, 0, none⟩ = false) /\ Cc T e (w1.setCell ⟨h, 0, none⟩ v) B h v m /\ Stp (cfoot h V) (cfoot h v) w (w1.setCell ⟨h, 0, none⟩ v) := by
 have hh : w1.heap[h]? = _ := f.heap a.apart a.hh
 have f2 : Fo (cfoot h V) w w1 := f.mono (fun k hk => .inr hk)
 have f3 : Fo (fun k => k = h) w1 (w1.setCell ⟨h, 0, none⟩ v) := Fo.setCell (O := fun k => k = h) (Fo.refl _ w1) (p := ⟨h, 0, none⟩) (.inl rfl) v
 have hvh : v.ownBlock ≠ some h := by
  intro hk
  rcases hv h hk with h1 | h1
  ·exact a.apart h1
  have := xqh a.hh; omega
 refine ⟨⟨by rw [cell_of_row _ _ _ _ _ _ hh]; rfl, frozen_of_row _ _ _ _ _ hh⟩, ⟨?_, a.bh, a.hT, x.fo f3 (fun g hg e => by subst e; exact hvh hg)⟩, f2.setCell (.inl (.inl rfl)) v, ?_⟩
 ·rw [xqb hh]
  rfl
 ·rintro k (rfl | hk)
  ·exact .inl (.inl rfl)
  exact (hv k hk).imp (fun h => .inr h) id
theorem Cc.turn (a : Cc T e w B h V l) (f : Fo (fun k => V.ownBlock = some k) w w') {m : List Cu} (x : OwnK encCu w' B e V m) : Cc T e w' B h V m /\ Stp (cfoot h V) (cfoot h V) w w' :=
 ⟨⟨f.heap a.apart a.hh, a.bh, a.hT, x⟩, f.mono (fun k hk => .inr hk), fun k hk => .inl hk⟩
abbrev cuT : TypeId := 150
abbrev cuE : TypeId := 99
theorem cnew_any (w : World) : Calls Tryz.prog 76 #[] w fun e w' => e = .returned (.pointer (some ⟨w.heap.size, 0, none⟩)) /\ Cc cuT cuE w' w.heap.size w.heap.size (.slice none 0 0) [] /\ Kept w w' [] := by
 go_enter Tryz.func76, Tryz.ntmps76
 go_wp2
 go_ret
 exact ⟨rfl, ⟨heap_alloc_new w _, Nat.le_refl _, by decide, OwnK.nil _ _ _⟩, (Kept.refl w []).alloc _⟩
theorem cfind_any (a : Cc cuT cuE w B h V l) (ok : OkC l) (n : ByteArray) : Calls Tryz.prog 134 #[.pointer (some ⟨h, 0, none⟩), .string n] w fun e w' => e = .returned (.tuple #[.int .i64 (ahd l n), .bool (plc l n).isSome]) /\ Kept w w' [] := by
 obtain ⟨u, c, e⟩ := a.shape
 have c0 := a.cell.1
 have S := iH (csearch_any V l n w a.own ok.nms (by have := ok.few; omega))
 rw [e] at c0 S
 clear a e ok
 go_enter Tryz.func134, Tryz.ntmps134
 go_wp2_with (go_at_call 176; refine S.out.mono ?_; rintro e w' ⟨rfl, k2⟩)
 go_ret2
 exact ⟨rfl, k2⟩
def noCu : Cu := ⟨⟨#[]⟩, 0, 0⟩
def getV (l : List Cu) (n : ByteArray) : Value := .tuple #[.agg ((getC l n).getD noCu).cs, .bool (getC l n).isSome]
theorem cget_any (a : Cc cuT cuE w B h V l) (ok : OkC l) (n : ByteArray) : Calls Tryz.prog 92 #[.pointer (some ⟨h, 0, none⟩), .string n] w fun e w' => e = .returned (getV l n) /\ Kept w w' [] := by
 obtain ⟨z, hz⟩ : ∃ z, z = w.heap.size := ⟨_, rfl⟩
 obtain ⟨W1, hW1⟩ : ∃ W1, W1 = w.alloc (.cells #[.string ⟨#[]⟩, .int .i64 0, .int .i64 0] cuE) := ⟨_, rfl⟩
 have k1 : Kept w W1 [] := by rw [hW1]; exact (Kept.refl w []).alloc _
 have g1 : W1.heap[z]? = some (.cells #[.string ⟨#[]⟩, .int .i64 0, .int .i64 0] cuE (0, 0)) := by rw [hW1, hz]; exact heap_alloc_new w _
 have FD := iH (cfind_any (a.keep k1) ok n)
 have K1 := iH k1; have HW1 := iH hW1; have HZ := iH hz; have G1 := iH g1
 have A1 := iH (a.keep k1)
 have OK := iH ok
 clear a k1 g1
 cases hp : plc l n with
 | none =>
 have e1 : getV l n = .tuple #[.agg noCu.cs, .bool false] := by rw [getV, xq0 hp]; rfl
 rw [e1]
 rw [hp] at FD
 clear hp e1
 simp only [noCu, Cu.cs, Option.isSome_none] at *
 go_enter Tryz.func92, Tryz.ntmps92
 go_wp2_with fail
 rw [<- HW1.out, <- HZ.out]
 clear hW1 hz
 refine FD.out.mono ?_
 rintro e w2 ⟨rfl, k2⟩
 have K2 := iH k2
 have g2 := k2.heap (by simp) G1.out
 obtain ⟨f0, f1, f2⟩ : w2.frozen? ⟨z, 0, none⟩ = false /\ w2.frozen? ⟨z, 1, none⟩ = false /\ w2.frozen? ⟨z, 2, none⟩ = false := ⟨frozen_of_row _ _ _ _ _ g2, frozen_of_row _ _ _ _ _ g2, frozen_of_row _ _ _ _ _ g2⟩
 obtain ⟨c0, c1, c2⟩ : w2.cell? ⟨z, 0, none⟩ = some (.string ⟨#[]⟩) /\ w2.cell? ⟨z, 1, none⟩ = some (.int .i64 0) /\ w2.cell? ⟨z, 2, none⟩ = some (.int .i64 0) := ⟨by rw [cell_of_row _ _ _ _ _ _ g2]; rfl, by rw [cell_of_row _ _ _ _ _ _ g2]; rfl, by rw [cell_of_row _ _ _ _ _ _ g2]; rfl⟩
 clear k2 g2
 go_wp2
 refine bodyPost_ret (v := .tuple #[.agg #[.string ⟨#[]⟩, .int .i64 0, .int .i64 0], .bool false]) (by simp [results, Tryz.results92, go_sem, *]) rfl ?_
 have hz := HZ.out
 exact ⟨rfl, (((K1.out.trans K2.out (by simp)).setCell (p := ⟨z, 0, none⟩) (.inr (by show w.heap.size <= z; omega)) _).setCell (p := ⟨z, 1, none⟩) (.inr (by show w.heap.size <= z; omega)) _).setCell (p := ⟨z, 2, none⟩) (.inr (by show w.heap.size <= z; omega)) _⟩
 | some i =>
 obtain ⟨x, hx, hxn⟩ := xqV hp
 have e1 : getV l n = .tuple #[.agg x.cs, .bool true] := by rw [getV, yql hp hx]; rfl
 rw [e1]
 rw [hp, plc_ahd OK.out.nms hp] at FD
 obtain ⟨u, c, e⟩ := A1.out.shape
 have o1 := A1.out.own
 have v1 := A1.out.cell.1
 rw [e] at o1 v1
 obtain ⟨g, rfl, hgc⟩ := o1.at hx
 obtain ⟨d0, d1, d2⟩ := o1.three hx
 have V1 := iH v1; have D0 := iH d0; have D1 := iH d1; have D2 := iH d2
 have hil : i < l.length := (List.getElem?_eq_some_iff.1 hx).1
 have x2 : (i : Int) < (l.length : Int) := by omega
 have few := OK.out.few
 clear hp e1 e o1 hgc d0 d1 d2 v1 hx hxn ok
 obtain ⟨b0, b1, b2⟩ := x
 simp only [Cu.cs, Option.isSome_some] at *
 go_enter Tryz.func92, Tryz.ntmps92
 go_wp2_with fail
 rw [<- HW1.out, <- HZ.out]
 clear hW1 hz
 refine FD.out.mono ?_
 rintro e w2 ⟨rfl, k2⟩
 have K2 := iH k2
 have g2 := k2.heap (by simp) G1.out
 obtain ⟨f0, f1, f2⟩ : w2.frozen? ⟨z, 0, none⟩ = false /\ w2.frozen? ⟨z, 1, none⟩ = false /\ w2.frozen? ⟨z, 2, none⟩ = false := ⟨frozen_of_row _ _ _ _ _ g2, frozen_of_row _ _ _ _ _ g2, frozen_of_row _ _ _ _ _ g2⟩
 obtain ⟨c0, c1, c2⟩ : w2.cell? ⟨z, 0, none⟩ = some (.string ⟨#[]⟩) /\ w2.cell? ⟨z, 1, none⟩ = some (.int .i64 0) /\ w2.cell? ⟨z, 2, none⟩ = some (.int .i64 0) := ⟨by rw [cell_of_row _ _ _ _ _ _ g2]; rfl, by rw [cell_of_row _ _ _ _ _ _ g2]; rfl, by rw [cell_of_row _ _ _ _ _ _ g2]; rfl⟩
 have v2 := k2.cell (by simp) V1.out
 have d0 := k2.cell (by simp) D0.out
 have d1 := k2.cell (by simp) D1.out
 have d2 := k2.cell (by simp) D2.out
 clear k2 g2
 go_wp2
 refine bodyPost_ret (v := .tuple #[.agg #[.string b0, .int .i64 b1, .int .i64 b2], .bool true]) (by simp [results, Tryz.results92, go_sem, *]) rfl ?_
 have hz := HZ.out
 exact ⟨rfl, (((K1.out.trans K2.out (by simp)).setCell (p := ⟨z, 0, none⟩) (.inr (by show w.heap.size <= z; omega)) _).setCell (p := ⟨z, 1, none⟩) (.inr (by show w.heap.size <= z; omega)) _).setCell (p := ⟨z, 2, none⟩) (.inr (by show w.heap.size <= z; omega)) _⟩
theorem call_any (a : Cc cuT cuE w B h V l) (hl : l.length <= 1000) : Calls Tryz.prog 38 #[.pointer (some ⟨h, 0, none⟩)] w fun e w' => ∃ v', e = .returned v' /\ OwnK encCu w' w.heap.size cuE v' l /\ Kept w w' [] := by
 obtain ⟨u, c, e⟩ := a.shape
 have c0 := a.cell.1
 have CL := iH (cclone_any V l w a.own.rd hl)
 rw [e] at c0 CL
 clear a e
 go_enter Tryz.func38, Tryz.ntmps38
 go_wp2_with fail
 refine CL.out.mono ?_
 rintro e w2 ⟨v', rfl, ho, hk⟩
 have Ho := iH ho; have Hk := iH hk
 clear ho hk
 go_wp2
 go_ret
 exact ⟨_, rfl, Ho.out, Hk.out⟩
theorem size_toList (n : ByteArray) : n.toList.length = n.size := by rw [ByteArray.toList_eq, Array.length_toList]; rfl
theorem toList_nil {n : ByteArray} (h : n.size = 0) : n.toList = [] := List.eq_nil_of_length_eq_zero (by rw [size_toList]; exact h)
theorem toList_ne {n : ByteArray} (h : ¬ n.size = 0) : ¬ n.toList = [] /\ n.toList.isEmpty = false := by
 have h1 : ¬ n.toList = [] := fun e => h (by rw [<- size_toList, e]; rfl)
 exact ⟨h1, by simpa using h1⟩
variable {w w' : World} {B h : Nat} {V : Value} {l : List Cu}
def ChgPost (w : World) (B h : Nat) (V : Value) (T e : TypeId) (r : Value) (m : List Cu) (x : Ending) (w' : World) : Prop :=
 x = .returned r /\ ∃ V', Cc T e w' B h V' m /\ Stp (cfoot h V) (cfoot h V') w w'
theorem creg_any (a : Cc cuT cuE w B h V l) (ok : OkC l) (n : ByteArray) (at' : Int) : Calls Tryz.prog 79 #[.pointer (some ⟨h, 0, none⟩), .string n, .int .i64 at'] w (ChgPost w B h V cuT cuE (.int .i64 (regE l n at')) (regL l n at')) := by
 have FD := iH (cfind_any a ok n)
 have A := iH a; have OK := iH ok
 obtain ⟨u, c, e⟩ := a.shape
 have EV := iH e
 have few := ok.few
 clear a ok e
 by_cases h0 : n.size = 0 ∨ 40 < n.size ∨ at' < 1
 ·have e1 : regE l n at' = 1 := by rw [regE, if_pos (by omega)]
  have e2 : regL l n at' = l := by rw [regL, if_neg (by rw [e1]; decide)]
  rw [e1, e2]
  clear e1 e2 few
  have fin : ∀ w2, Kept w w2 [] -> ChgPost w B h V cuT cuE (.int .i64 1) l (.returned (.int .i64 1)) w2 := fun w2 k2 => ⟨rfl, V, A.out.keep k2, Stp.ofK k2⟩
  have FIN := iH fin
  clear fin
  by_cases hE : n.size = 0
  ·have hE1 := toList_nil hE
   clear h0 hE
   go_enter Tryz.func79, Tryz.ntmps79
   go_wp2_with (go_at_call 134; refine FD.out.mono ?_; rintro e w2 ⟨rfl, k2⟩)
   go_ret
   exact FIN.out _ k2
  obtain ⟨hE1, hE2⟩ := toList_ne hE
  by_cases hL : 40 < n.size
  ·have hL1 : (40 : Int) < (n.size : Int) := by omega
   clear h0 hE hL
   go_enter Tryz.func79, Tryz.ntmps79
   go_wp2_with (go_at_call 134; refine FD.out.mono ?_; rintro e w2 ⟨rfl, k2⟩)
   all_goals
   go_ret
   exact FIN.out _ k2
  have hL1 : (n.size : Int) <= 40 := by omega
  have hA : at' < 1 := by omega
  clear h0 hE hL
  go_enter Tryz.func79, Tryz.ntmps79
  go_wp2_with (go_at_call 134; refine FD.out.mono ?_; rintro e w2 ⟨rfl, k2⟩)
  all_goals
  go_ret
  exact FIN.out _ k2
 have hr : regE l n at' = if (plc l n).isSome then 5 else if 4 <= l.length then 8 else 0 := by rw [regE, if_neg (by omega)]
 obtain ⟨hE1, hE2⟩ := toList_ne (n := n) (by omega)
 have hL1 : (n.size : Int) <= 40 := by omega
 have hL2 : ¬ (40 : Int) < (n.size : Int) := by omega
 have hA : ¬ at' < 1 := by omega
 have hA1 : (1 : Int) <= at' := by omega
 cases hp : plc l n with
 | some i =>
 have e1 : regE l n at' = 5 := by rw [hr, hp]; rfl
 have e2 : regL l n at' = l := by rw [regL, if_neg (by rw [e1]; decide)]
 rw [e1, e2]
 rw [hp] at FD
 simp only [Option.isSome_some] at FD
 clear e1 e2 hr h0 hp few
 go_enter Tryz.func79, Tryz.ntmps79
 go_wp2_with (go_at_call 134; refine FD.out.mono ?_; rintro e w2 ⟨rfl, k2⟩)
 go_ret
 exact ⟨rfl, V, A.out.keep k2, Stp.ofK k2⟩
 | none =>
 have hp1 := iH hp
 rw [hp] at FD
 simp only [Option.isSome_none] at FD
 have hpn : ¬ ((none : Option Nat).isSome = true) := by decide
 by_cases hf : 4 <= l.length
 ·have e1 : regE l n at' = 8 := by rw [hr, hp, if_neg hpn, if_pos hf]
  have e2 : regL l n at' = l := by rw [regL, if_neg (by rw [e1]; decide)]
  rw [e1, e2]
  have hf1 : (4 : Int) <= (l.length : Int) := by omega
  clear e1 e2 hr h0 hp few hf hpn
  go_enter Tryz.func79, Tryz.ntmps79
  go_wp2_with (go_at_call 134; refine FD.out.mono ?_; rintro e w2 ⟨rfl, k2⟩; have c0 := (A.out.keep k2).cell.1; rw [EV.out] at c0)
  go_ret
  exact ⟨rfl, V, A.out.keep k2, Stp.ofK k2⟩
 have e1 : regE l n at' = 0 := by rw [hr, hp, if_neg hpn, if_neg hf]
 have e2 : regL l n at' = insC ⟨n, at', 0⟩ l := by rw [regL, if_pos e1]
 rw [e1, e2]
 have hf1 : (l.length : Int) < 4 := by omega
 have hf2 := iH (show l.length <= 1000 by omega)
 have INS := iH (ins_ahd (x := ⟨n, at', 0⟩) OK.out.nms hp)
 have AL := iH (ahd_le l n)
 clear e1 e2 hr h0 hp few hf hpn
 go_enter Tryz.func79, Tryz.ntmps79
 go_wp2_with fail
 refine FD.out.mono ?_
 rintro e w2 ⟨rfl, k2⟩
 have a2 := A.out.keep k2
 have c0 := a2.cell.1
 rw [EV.out] at c0
 obtain ⟨w3, hw3⟩ : ∃ w3, w3 = w2.alloc (.cells #[.string n, .int .i64 at', .int .i64 0] cuE) := ⟨_, rfl⟩
 have k3 : Kept w2 w3 [] := by rw [hw3]; exact (Kept.refl w2 []).alloc _
 have g3 : w3.heap[w2.heap.size]? = some (.cells (Cu.cs ⟨n, at', 0⟩) cuE (0, 0)) := by rw [hw3]; exact heap_alloc_new w2 _
 have a3 := a2.keep k3
 have IN := iH (cinsert_any (i := ahd l n) (x := ⟨n, at', 0⟩) a3.own a3.size g3 (fun e => by have := (a2.own.lt _ e).2; omega) AL.out hf2.out)
 rw [EV.out] at IN
 have A3 := iH a3; have K3 := iH k3; have HW3 := iH hw3; have K2 := iH k2
 clear a2 k3 g3 a3 hw3 k2
 go_wp2_with fail
 rw [<- HW3.out]
 refine IN.out.mono ?_
 rintro e w4 ⟨v', rfl, ho, hfo, hv⟩
 obtain ⟨L', hL'⟩ : ∃ L', L' = (List.take (ahd l n) l ++ (⟨n, at', 0⟩ : Cu) :: List.drop (ahd l n) l).length := ⟨_, rfl⟩
 obtain ⟨u', c', hv'⟩ := ho.shape
 rw [<- hL'] at hv'
 subst hv'
 clear hL'
 rw [<- EV.out] at hfo hv
 obtain ⟨⟨c4, f4⟩, a5, s5⟩ := A3.out.lay hfo ho hv
 rw [EV.out] at c4
 rw [INS.out] at a5
 have A5 := iH a5; have S5 := iH s5
 clear ho hfo hv a5 s5 c0
 go_wp2
 go_ret
 exact ⟨rfl, _, A5.out, (Stp.ofK K2.out).trans (S5.out.afterK K3.out)⟩
theorem cunr_any (a : Cc cuT cuE w B h V l) (ok : OkC l) (n : ByteArray) : Calls Tryz.prog 106 #[.pointer (some ⟨h, 0, none⟩), .string n] w (ChgPost w B h V cuT cuE (.int .i64 (unrE l n)) (unrL l n)) := by
 have FD := iH (cfind_any a ok n)
 have A := iH a; have OK := iH ok
 cases hp : plc l n with
 | none =>
 have e1 : unrE l n = 4 := by rw [unrE, hp]; rfl
 have e2 : unrL l n = l := by rw [unrL, hp]
 rw [e1, e2]
 rw [hp] at FD
 simp only [Option.isSome_none] at FD
 clear a ok hp e1 e2
 go_enter Tryz.func106, Tryz.ntmps106
 go_wp2_with (go_at_call 134; refine FD.out.mono ?_; rintro e w2 ⟨rfl, k2⟩)
 go_ret
 exact ⟨rfl, V, A.out.keep k2, Stp.ofK k2⟩
 | some i =>
 have e1 : unrE l n = 0 := by rw [unrE, hp]; rfl
 have e2 : unrL l n = l.eraseIdx i := by rw [unrL, hp]
 rw [e1, e2]
 obtain ⟨x, hx, hxn⟩ := xqV hp
 have hil : i < l.length := (List.getElem?_eq_some_iff.1 hx).1
 have few := ok.few
 obtain ⟨m, hm⟩ : ∃ m, l.length = m + 1 := ⟨l.length - 1, by omega⟩
 rw [hp, plc_ahd ok.nms hp] at FD
 simp only [Option.isSome_some] at FD
 obtain ⟨u, c, e⟩ := a.shape
 rw [hm] at e
 obtain ⟨g, hu, -⟩ := OwnK.at (by have := a.own; rw [e] at this; exact this) hx
 subst hu
 have EV := iH e; have HM := iH hm
 have him : i <= m := by omega
 have hm4 : m <= 1000 := by omega
 have hs1 : (i : Int) + 1 <= 9223372036854775807 := by omega
 clear a ok hp e1 e2 hx hxn few e hil hm
 go_enter Tryz.func106, Tryz.ntmps106
 go_wp2_with fail
 refine FD.out.mono ?_
 rintro e w2 ⟨rfl, k2⟩
 have a2 := A.out.keep k2
 have c0 := a2.cell.1
 rw [EV.out] at c0
 have IN := iH (cdelete_any g m c l i w2 B HM.out (by have := a2.own; rw [EV.out] at this; exact this) him hm4)
 have A2 := iH a2; have K2 := iH k2
 clear a2 k2
 go_wp2_with fail
 refine IN.out.mono ?_
 rintro e w4 ⟨rfl, ho, hfo⟩
 obtain ⟨⟨c4, f4⟩, a5, s5⟩ := A2.out.lay (hfo.mono (fun k hk => by rw [EV.out, hk]; rfl)) ho (fun k hk => .inl (by rw [EV.out]; exact hk))
 rw [EV.out] at c4
 rw [HM.out, Nat.add_sub_cancel] at a5 s5 ⊢
 have A5 := iH a5; have S5 := iH s5
 clear ho hfo a5 s5 c0
 go_wp2
 go_ret
 exact ⟨rfl, _, A5.out, S5.out.afterK K2.out⟩
variable {w w' : World} {B h : Nat} {V : Value} {l : List Cu}
theorem Cc.hit {T e : TypeId} (a : Cc T e w B h V l) {i : Nat} {x : Cu} (hx : l[i]? = some x) : ∃ g c, V = .slice (some ⟨g, 0, none⟩) l.length c /\ w.cell? ⟨h, 0, none⟩ = some (.slice (some ⟨g, 0, none⟩) l.length c) /\
 (w.cell? ⟨g, i * 3, none⟩ = some (.string x.nm) /\ w.cell? ⟨g, i * 3 + 1, none⟩ = some (.int .i64 x.la) /\ w.cell? ⟨g, i * 3 + 2, none⟩ = some (.int .i64 x.op)) /\
 (w.frozen? ⟨g, i * 3, none⟩ = false /\ w.frozen? ⟨g, i * 3 + 1, none⟩ = false /\ w.frozen? ⟨g, i * 3 + 2, none⟩ = false) := by
 obtain ⟨u, c, e⟩ := a.shape
 have o1 := a.own
 have v1 := a.cell.1
 rw [e] at o1 v1
 obtain ⟨g, rfl, hgc⟩ := o1.at hx
 exact ⟨g, c, e, v1, o1.three hx, o1.threeF hx⟩
theorem copn_any (a : Cc cuT cuE w B h V l) (ok : OkC l) (n : ByteArray) (nx : Int) : Calls Tryz.prog 94 #[.pointer (some ⟨h, 0, none⟩), .string n, .int .i64 nx] w (ChgPost w B h V cuT cuE (.int .i64 (opnE l n nx)) (opnL l n nx)) := by
 have FD := iH (cfind_any a ok n)
 have A := iH a; have OK := iH ok
 cases hp : plc l n with
 | none =>
 have e1 : opnE l n nx = 4 := by rw [opnE, xq0 hp]
 have e2 : opnL l n nx = l := by rw [opnL, hp]
 rw [e1, e2]
 rw [hp] at FD
 simp only [Option.isSome_none] at FD
 clear a ok hp e1 e2
 go_enter Tryz.func94, Tryz.ntmps94
 go_wp2_with (go_at_call 134; refine FD.out.mono ?_; rintro e w2 ⟨rfl, k2⟩)
 go_ret
 exact ⟨rfl, V, A.out.keep k2, Stp.ofK k2⟩
 | some i =>
 obtain ⟨x, hx, hxn⟩ := xqV hp
 have hg := yql hp hx
 have hop := ok.op0 x (List.mem_of_getElem? hx)
 have few := ok.few
 have hil : i < l.length := (List.getElem?_eq_some_iff.1 hx).1
 have x2 : (i : Int) < (l.length : Int) := by omega
 rw [hp, plc_ahd ok.nms hp] at FD
 simp only [Option.isSome_some] at FD
 have HX := iH hx; have HXN := iH hxn
 have hE : opnE l n nx = if 0 < x.op then 7 else if nx <= x.la then 1 else 0 := by rw [opnE, hg]
 have hL : opnL l n nx = if 0 < x.op ∨ nx <= x.la then l else l.set i ⟨n, x.la, nx⟩ := by rw [opnL, hp, hg]
 rw [hE, hL]
 clear hp hg hE hL hx hxn a ok
 by_cases h1 : 0 < x.op
 ·rw [if_pos h1, if_pos (.inl h1)]
  have b1 : (x.op == 0) = false := by rw [beq_eq_false_iff_ne]; omega
  obtain ⟨y, hy⟩ : ∃ y, y = x.op := ⟨_, rfl⟩
  have HY := iH hy
  rw [<- hy] at b1
  clear h1 hop hy
  go_enter Tryz.func94, Tryz.ntmps94
  go_wp2_with (go_at_call 134; refine FD.out.mono ?_; rintro e w2 ⟨rfl, k2⟩; obtain ⟨g, c, hv, c0, ⟨d0, d1, d2⟩, -⟩ := (A.out.keep k2).hit HX.out; rw [<- HY.out] at d2; clear hv)
  go_ret
  exact ⟨rfl, V, A.out.keep k2, Stp.ofK k2⟩
 have h10 : x.op = 0 := by omega
 by_cases h2 : nx <= x.la
 ·rw [if_neg h1, if_pos h2, if_pos (.inr h2)]
  have H10 := iH h10
  obtain ⟨y, hy⟩ : ∃ y, y = x.la := ⟨_, rfl⟩
  have HY := iH hy
  rw [<- hy] at h2
  clear h1 hop hy h10
  go_enter Tryz.func94, Tryz.ntmps94
  go_wp2_with (go_at_call 134; refine FD.out.mono ?_; rintro e w2 ⟨rfl, k2⟩; obtain ⟨g, c, hv, c0, ⟨d0, d1, d2⟩, -⟩ := (A.out.keep k2).hit HX.out; rw [H10.out] at d2; rw [<- HY.out] at d1; clear hv)
  go_ret
  exact ⟨rfl, V, A.out.keep k2, Stp.ofK k2⟩
 rw [if_neg h1, if_neg h2, if_neg (by omega)]
 have H10 := iH h10
 obtain ⟨y, hy⟩ : ∃ y, y = x.la := ⟨_, rfl⟩
 have HY := iH hy
 rw [<- hy] at h2
 have h3 : y < nx := by omega
 clear h1 hop hy h10
 go_enter Tryz.func94, Tryz.ntmps94
 go_wp2_with fail
 refine FD.out.mono ?_
 rintro e w2 ⟨rfl, k2⟩
 have a2 := A.out.keep k2
 obtain ⟨g, c, hv, c0, ⟨d0, d1, d2⟩, ⟨f0, f1, f2⟩⟩ := a2.hit HX.out
 have o2 := a2.own
 rw [hv] at o2
 have o3 := o2.set1 (y := ⟨n, x.la, nx⟩) HX.out (j := 2) (by decide) (u := .int .i64 nx) (by show [_, _, _] = List.set [_, _, _] 2 _; rw [HXN.out]; rfl)
 rw [<- hv] at o3
 obtain ⟨a3, s3⟩ := a2.turn ((Fo.refl _ w2).setCell (p := ⟨g, i * 3 + 2, none⟩) (.inl (by rw [hv]; rfl)) (.int .i64 nx)) o3
 have A3 := iH a3; have S3 := iH (s3.afterK k2)
 rw [H10.out] at d2
 rw [<- HY.out] at d1
 clear a2 o2 o3 a3 s3 hv k2
 go_wp2
 go_ret
 rw [HY.out]
 exact ⟨rfl, V, A3.out, S3.out⟩
variable {w w' : World} {B h : Nat} {V : Value} {l : List Cu}
theorem cfin_any (a : Cc cuT cuE w B h V l) (ok : OkC l) (n : ByteArray) : Calls Tryz.prog 97 #[.pointer (some ⟨h, 0, none⟩), .string n] w (ChgPost w B h V cuT cuE (.tuple #[.int .i64 (finN l n), .int .i64 (finE l n)]) (finL l n)) := by
 have FD := iH (cfind_any a ok n)
 have A := iH a; have OK := iH ok
 cases hp : plc l n with
 | none =>
 have e0 : finN l n = 0 := by rw [finN, xq0 hp]
 have e1 : finE l n = 4 := by rw [finE, xq0 hp]
 have e2 : finL l n = l := by rw [finL, hp]
 rw [e0, e1, e2]
 rw [hp] at FD
 simp only [Option.isSome_none] at FD
 clear a ok hp e0 e1 e2
 go_enter Tryz.func97, Tryz.ntmps97
 go_wp2_with (go_at_call 134; refine FD.out.mono ?_; rintro e w2 ⟨rfl, k2⟩)
 go_ret2
 exact ⟨rfl, V, A.out.keep k2, Stp.ofK k2⟩
 | some i =>
 obtain ⟨x, hx, hxn⟩ := xqV hp
 have hg := yql hp hx
 have few := ok.few
 have hil : i < l.length := (List.getElem?_eq_some_iff.1 hx).1
 have x2 : (i : Int) < (l.length : Int) := by omega
 rw [hp, plc_ahd ok.nms hp] at FD
 simp only [Option.isSome_some] at FD
 have HX := iH hx; have HXN := iH hxn
 have hN : finN l n = x.op := by rw [finN, hg]
 have hE : finE l n = if x.op = 0 then 7 else 0 := by rw [finE, hg]
 have hL : finL l n = if x.op = 0 then l else l.set i ⟨n, x.op, 0⟩ := by rw [finL, hp, hg]
 rw [hN, hE, hL]
 clear hp hg hN hE hL hx hxn a ok
 by_cases h1 : x.op = 0
 ·rw [if_pos h1, if_pos h1]
  have H1 := iH h1
  rw [h1]
  clear h1
  go_enter Tryz.func97, Tryz.ntmps97
  go_wp2_with (go_at_call 134; refine FD.out.mono ?_; rintro e w2 ⟨rfl, k2⟩; obtain ⟨g, c, hv, c0, ⟨d0, d1, d2⟩, -⟩ := (A.out.keep k2).hit HX.out; rw [H1.out] at d2; clear hv)
  go_ret2
  exact ⟨rfl, V, A.out.keep k2, Stp.ofK k2⟩
 rw [if_neg h1, if_neg h1]
 have b1 : (x.op == 0) = false := by rw [beq_eq_false_iff_ne]; exact h1
 obtain ⟨y, hy⟩ : ∃ y, y = x.op := ⟨_, rfl⟩
 have HY := iH hy
 rw [<- hy] at b1 ⊢
 clear h1 hy
 go_enter Tryz.func97, Tryz.ntmps97
 go_wp2_with fail
 refine FD.out.mono ?_
 rintro e w2 ⟨rfl, k2⟩
 have a2 := A.out.keep k2
 obtain ⟨g, c, hv, c0, ⟨d0, d1, d2⟩, ⟨f0, f1, f2⟩⟩ := a2.hit HX.out
 have o2 := a2.own
 rw [hv] at o2
 have o3 := o2.put i hil ⟨n, y, 0⟩
 rw [<- hv] at o3
 obtain ⟨a3, s3⟩ := a2.turn (xqu (g := g) (encCu.cs ⟨n, y, 0⟩).toList w2 (i * encCu.k) (Fo.refl _ w2) (.inl (by rw [hv]; rfl))) o3
 have A3 := iH a3; have S3 := iH (s3.afterK k2)
 rw [<- HY.out] at d2
 clear a2 o2 o3 a3 s3 hv k2
 go_wp2
 go_ret2
 exact ⟨rfl, V, A3.out, S3.out⟩
theorem clea_any (a : Cc cuT cuE w B h V l) (hl : l.length <= 1000) : Calls Tryz.prog 90 #[.pointer (some ⟨h, 0, none⟩)] w fun e w' => e = .returned (.tuple #[.int .i64 (leaN l), .bool (decide (0 < l.length))]) /\ Kept w w' [] := by
 have A := iH a
 cases l with
 | nil =>
 obtain ⟨u, c, e⟩ := a.shape
 have c0 := a.cell.1
 rw [e] at c0
 clear a e
 simp only [List.length_nil] at *
 go_enter Tryz.func90, Tryz.ntmps90
 go_wp2
 go_ret2
 exact ⟨rfl, Kept.refl w []⟩
 | cons x0 t =>
 obtain ⟨l, hl0⟩ : ∃ l, l = x0 :: t := ⟨_, rfl⟩
 rw [<- hl0] at A hl ⊢
 have hx0 : l[0]? = some x0 := by rw [hl0]; rfl
 have hpos : 0 < l.length := by rw [hl0]; simp
 have hlea : leaN (l.take 1) = x0.la := by rw [hl0]; rfl
 obtain ⟨g, c, hv, c0, ⟨d0, d1, d2⟩, -⟩ := A.out.hit hx0
 rw [Nat.zero_mul] at d0
 rw [Nat.zero_mul, Nat.zero_add] at d1 d2
 have HV := iH hv; have HL0 := iH hlea; have HX0 := iH hx0
 have hdec : decide (0 < l.length) = true := by simpa using hpos
 rw [hdec]
 have hne : ((l.length : Int) == 0) = false := by rw [beq_eq_false_iff_ne]; omega
 have hpi : (0 : Int) < (l.length : Int) := by omega
 have HP := iH hpos
 obtain ⟨m0, hm0⟩ : ∃ m0, m0 = x0.la := ⟨_, rfl⟩
 have HM0 := iH hm0
 rw [<- hm0] at d1
 clear a hl0 hx0 hlea hv hdec hm0 hpos
 go_enter Tryz.func90, Tryz.ntmps90
 go_wp2
 go_loopw [4, 6, 29] (fun s4 _ s29 wr => ∃ (k : Nat) (m : Int), s29 = .int .i64 k /\ s4 = .int .i64 m /\ k <= l.length /\ (k = 0 -> m = m0) /\ (0 < k -> m = leaN (l.take k)) /\ Kept w wr []) (fun _ _ s29 _ => l.length - (intOf s29).toNat)
 case atStart => exact ⟨0, m0, rfl, rfl, Nat.zero_le _, fun _ => rfl, fun h => absurd h (Nat.lt_irrefl _), Kept.refl w []⟩
 case round =>
 obtain ⟨k, m, rfl, rfl, hk, hm1, hm2, hkw⟩ := hrel
 have M1 := iH hm1; have M2 := iH hm2; have K := iH hkw
 clear hm1 hm2 hkw
 by_cases hlt : k < l.length
 ·obtain ⟨x, hx⟩ : ∃ x, l[k]? = some x := ⟨_, List.getElem?_eq_getElem hlt⟩
  obtain ⟨g', c', hv', c0', ⟨q0, q1, q2⟩, -⟩ := (A.out.keep K.out).hit hx
  rw [HV.out] at hv'
  simp only [Value.slice.injEq, Option.some.injEq, Addr.mk.injEq] at hv'
  obtain ⟨⟨rfl, _⟩, _, rfl⟩ := hv'
  have x1 : (k : Int) < (l.length : Int) := by omega
  have ST := iH (leaN_step hx)
  have HX := iH hx
  obtain ⟨b0, b1, b2⟩ := x
  simp only at q0 q1 q2
  clear hx
  go_wp2
  go_roundw
  case rel =>
   refine ⟨k + 1, min m b1, by go_num, rfl, by omega, fun h => by omega, fun _ => ?_, K.out.alloc _⟩
   rw [ST.out]
   by_cases h0 : k = 0
   ·rw [if_pos (.inl h0)]
    have e1 := M1.out h0
    have e2 := HX.out
    rw [h0, HX0.out] at e2
    have e3 := HM0.out
    simp only [Option.some.injEq] at e2
    rw [e2] at e3
    show min m b1 = b1
    rw [e1, e3]
    exact Int.min_self _
   rw [M2.out (by omega)]
   show min (leaN (l.take k)) b1 = _
   split
   ·rename_i h1
    have h2 : b1 < leaN (l.take k) := by rcases h1 with h1 | h1; exact absurd h1 h0; exact h1
    show _ = b1
    omega
   rename_i h1
   have h2 : ¬ b1 < leaN (l.take k) := fun h2 => h1 (.inr h2)
   omega
  case measure => simp [intOf]; omega
 have x1 : ¬ (k : Int) < (l.length : Int) := by omega
 have e1 : m = leaN l := by
  have := M2.out (by have := HP.out; omega)
  rw [List.take_of_length_le (by omega)] at this
  exact this
 have E1 := iH e1
 clear e1
 go_wp2
 go_ret2
 rw [<- E1.out]
 exact ⟨rfl, K.out⟩
variable {w0 w w' : World} {h : Nat} {l : List Cu}
def nA : ByteArray := ⟨#[97]⟩
abbrev rcE : TypeId := 87
def ChgK (T : TypeId) (w : World) (B h oo : Nat) (RR : List Value) (V : Value) (r : Value) (m : List Cu) (x : Ending) (w' : World) : Prop :=
 x = .returned r /\ ∃ V', Lw encCu T rcE w' B h oo (RR.set oo V') V' m /\ Stp (xqJ h V) (xqJ h V') w w'
theorem Lw.hit3 {T e : TypeId} {w : World} {B h oo : Nat} {RR : List Value} {V : Value} {l : List Cu} (a : Lw encCu T e w B h oo RR V l) {i : Nat} {x : Cu} (hx : l[i]? = some x) : ∃ g c, V = .slice (some ⟨g, 0, none⟩) l.length c /\ w.cell? ⟨h, oo, none⟩ = some (.slice (some ⟨g, 0, none⟩) l.length c) /\
 (w.cell? ⟨g, i * 3, none⟩ = some (.string x.nm) /\ w.cell? ⟨g, i * 3 + 1, none⟩ = some (.int .i64 x.la) /\ w.cell? ⟨g, i * 3 + 2, none⟩ = some (.int .i64 x.op)) /\
 (w.frozen? ⟨g, i * 3, none⟩ = false /\ w.frozen? ⟨g, i * 3 + 1, none⟩ = false /\ w.frozen? ⟨g, i * 3 + 2, none⟩ = false) := by
 obtain ⟨u, c, e⟩ := a.shape
 have o1 := a.own
 have v1 := a.cell.1
 rw [e] at o1 v1
 obtain ⟨g, rfl, hgc⟩ := o1.at hx
 exact ⟨g, c, e, v1, o1.three hx, o1.threeF hx⟩
theorem Tryz.infoRc : (Tryz.prog.info? 87).map (fun i => (i.zero, i.size, i.bytes)) = some (some (.agg #[.string ⟨#[]⟩, .int .i64 0, .int .i64 0]), 3, 32) := by kernel_rfl
def fnd (l : List Cu) (n : ByteArray) : Int := match plc l n with | some i => i | none => -1
variable {T : TypeId} {w w' : World} {B h oo : Nat} {RR : List Value} {V : Value} {l : List Cu}
theorem yqp (a : Lw encCu T rcE w B h oo RR V l) (n : ByteArray) (hl : l.length <= 1000) : Calls Tryz.prog 121 #[.pointer (some ⟨h, oo, none⟩), .string n] w fun e w' => e = .returned (.int .i64 (fnd l n)) /\ w' = w := by
 have A := iH a
 obtain ⟨u, c, e⟩ := a.shape
 have c0 := a.cell.1
 rw [e] at c0
 have EV := iH e
 clear a e
 go_enter Tryz.func121, Tryz.ntmps121
 go_wp2
 go_loop [5] (fun t => ∃ k : Nat, t = .int .i64 k /\ k <= l.length /\ Hid (∀ j y, j < k -> l[j]? = some y -> isN n y = false)) (fun t => l.length - (intOf t).toNat)
 case atStart => exact ⟨0, rfl, Nat.zero_le _, iH (fun j y hj => absurd hj (Nat.not_lt_zero _))⟩
 case round =>
 obtain ⟨k, rfl, hk, HX⟩ := hrel
 by_cases hlt : k < l.length
 ·have x1 : (k : Int) < (l.length : Int) := by omega
  obtain ⟨x, hx⟩ : ∃ x, l[k]? = some x := ⟨_, List.getElem?_eq_getElem hlt⟩
  obtain ⟨g, c', hv, d, ⟨q0, q1, q2⟩, -⟩ := A.out.hit3 hx
  rw [EV.out] at hv
  simp only [Value.slice.injEq] at hv
  obtain ⟨rfl, -, -⟩ := hv
  have HY := iH hx
  clear d hx
  cases hc : isN n x with
  | true =>
  have R := iH (show fnd l n = k by rw [fnd, plc_hit HY.out hc HX.out])
  have x2 : (x.nm.toList == n.toList) = true := hc
  clear hc
  go_wp2
  go_ret
  rw [R.out]
  exact ⟨rfl, rfl⟩
  | false =>
  have x2 : (x.nm.toList == n.toList) = false := hc
  have HC := iH hc
  clear hc
  go_wp2
  go_round
  case rel =>
   refine ⟨k + 1, by go_num, by omega, iH (fun j y hj hy => ?_)⟩
   by_cases e : j = k
   ·subst e
    rw [HY.out] at hy
    cases hy
    exact HC.out
   exact HX.out j y (by omega) hy
  case measure => simp [intOf]; omega
 have x1 : ¬ (k : Int) < (l.length : Int) := by omega
 have R := iH (show fnd l n = -1 by rw [fnd, plc_miss (fun j y hj => HX.out j y (by omega))])
 go_wp2
 go_ret
 rw [R.out]
 exact ⟨rfl, rfl⟩
theorem rlea_any (a : Lw encCu T rcE w B h oo RR V l) (hl : l.length <= 1000) : Calls Tryz.prog 129 #[.pointer (some ⟨h, oo, none⟩)] w fun e w' => e = .returned (.tuple #[.int .i64 (leaN l), .bool (decide (0 < l.length))]) /\ Kept w w' [] := by
 have A := iH a
 obtain ⟨u, c, e⟩ := a.shape
 have c0 := a.cell.1
 rw [e] at c0
 have EV := iH e
 obtain ⟨bz, hbz⟩ : ∃ bz : Bool, bz = decide (0 < l.length) := ⟨_, rfl⟩
 rw [<- hbz]
 have HBZ := iH hbz
 clear a e hbz
 go_enter Tryz.func129, Tryz.ntmps129
 go_wp2
 go_loop [4, 5] (fun s t => ∃ (k : Nat) (m : Int), t = .int .i64 k /\ s = .int .i64 m /\ k <= l.length /\ Hid (m = leaN (l.take k))) (fun _ t => l.length - (intOf t).toNat)
 case atStart => exact ⟨0, 0, rfl, rfl, Nat.zero_le _, iH rfl⟩
 case round =>
 obtain ⟨k, m, rfl, rfl, hk, HM⟩ := hrel
 by_cases hlt : k < l.length
 ·have x1 : (k : Int) < (l.length : Int) := by omega
  obtain ⟨x, hx⟩ : ∃ x, l[k]? = some x := ⟨_, List.getElem?_eq_getElem hlt⟩
  obtain ⟨g, c', hv, d, ⟨q0, q1, q2⟩, -⟩ := A.out.hit3 hx
  rw [EV.out] at hv
  simp only [Value.slice.injEq] at hv
  obtain ⟨rfl, -, -⟩ := hv
  have ST := leaN_step hx
  rw [<- HM.out] at ST
  obtain ⟨b, hb⟩ : ∃ b, b = x.la := ⟨_, rfl⟩
  rw [<- hb] at q1 ST
  by_cases h0 : k = 0
  ·subst h0
   have S := iH (show b = leaN (l.take (0 + 1)) by rw [ST, if_pos (.inl rfl)])
   rw [Nat.zero_mul] at q0
   rw [Nat.zero_mul, Nat.zero_add] at q1 q2
   clear d hx ST hb
   go_wp2
   go_round
   case rel => exact ⟨1, b, by go_num, rfl, by omega, S⟩
   case measure => simp [intOf]; omega
  have x2 : ((k : Int) == 0) = false := by rw [beq_eq_false_iff_ne]; omega
  by_cases h1 : b < m
  ·have S := iH (show b = leaN (l.take (k + 1)) by rw [ST, if_pos (.inr h1)])
   clear d hx ST hb h0
   go_wp2
   go_round
   case rel => exact ⟨k + 1, b, by go_num, rfl, by omega, S⟩
   case measure => simp [intOf]; omega
  have S := iH (show m = leaN (l.take (k + 1)) by rw [ST, if_neg (by omega)])
  clear d hx ST hb h0
  go_wp2
  go_round
  case rel => exact ⟨k + 1, m, by go_num, rfl, by omega, S⟩
  case measure => simp [intOf]; omega
 have x1 : ¬ (k : Int) < (l.length : Int) := by omega
 have S := iH (show m = leaN l by rw [HM.out, List.take_of_length_le (by omega)])
 by_cases hz : 0 < l.length
 ·have hb1 : bz = true := by rw [HBZ.out]; simpa using hz
  subst hb1
  have y3 : (0 : Int) < (l.length : Int) := by omega
  go_wp2
  go_region
  go_wp2
  go_ret2
  rw [<- S.out]
  exact ⟨rfl, (Kept.refl w []).drew⟩
 have hb1 : bz = false := by rw [HBZ.out]; simpa using hz
 subst hb1
 have y3 : ¬ (0 : Int) < (l.length : Int) := by omega
 go_wp2
 go_region
 go_wp2
 go_ret2
 rw [<- S.out]
 exact ⟨rfl, (Kept.refl w []).drew⟩
theorem rset_any (a : Lw encCu T rcE w B h oo RR V l) (i : Nat) (x : Cu) (hi : i < l.length) (hl : l.length <= 1000) : Calls Tryz.prog 123 #[.pointer (some ⟨h, oo, none⟩), .int .i64 i, .agg x.cs] w (ChgK T w B h oo RR V (.tuple #[]) (l.set i x)) := by
 obtain ⟨i0, hi0, hz0, hz1, hz2⟩ := info_parts Tryz.infoRc
 obtain ⟨b0, b1, b2⟩ := x
 simp only [Cu.cs]
 obtain ⟨z, hz⟩ : ∃ z, z = w.heap.size := ⟨_, rfl⟩
 obtain ⟨W1, hW1⟩ : ∃ W1, W1 = w.alloc (.cells #[.string b0, .int .i64 b1, .int .i64 b2] rcE) := ⟨_, rfl⟩
 have k1 : Kept w W1 [] := by rw [hW1]; exact (Kept.refl w []).alloc _
 have g1 : W1.heap[z]? = some (.cells #[.string b0, .int .i64 b1, .int .i64 b2] rcE (0, 0)) := by rw [hW1, hz]; exact heap_alloc_new w _
 have hs1 : W1.heap.size = z + 1 := by rw [hW1, hz]; simp
 have a1 := a.keep k1
 obtain ⟨u, c, e⟩ := a.shape
 have c0 := a1.cell.1
 rw [e] at c0
 have SRC := iH (a1.own.rd.src (P := Tryz.prog) (tx := 70) Tryz.underlying70)
 rw [e] at SRC
 have EV := iH e; have A := iH a; have A1 := iH a1; have K1 := iH k1; have G1 := iH g1; have HW1 := iH hW1; have HZ := iH hz; have HS1 := iH hs1
 have x1 : (i : Int) < (l.length : Int) := by omega
 clear a a1 e k1 g1 hz hs1
 go_enter Tryz.func123, Tryz.ntmps123
 go_upto_region 1 with fail
 rw [<- HW1.out, <- HZ.out]
 clear hW1
 go_wp2_with (at_builtin; refine xqa _ rfl (.tmp 7) (.tmp 11) 70 70 rfl (z + 1) rcE i0 _ 3 32 Tryz.underlying70 hi0 hz0 hz1 hz2 rfl (.slice none 0 0) 0 [] rfl (World.ownsRow_nil _ _ _ _) (.slice u l.length c) l.length (kcs encCu l) rfl SRC.out ?b1 ?b2 ?hB ?next)
 case b1 => unfold maxLen; omega
 case b2 => omega
 case hB => rw [HS1.out]; exact Nat.le_refl _
 case next =>
 intro v2 w2 hown _ hgrow _
 have o2 : OwnK encCu w2 (z + 1) rcE v2 l := by unfold OwnK; show w2.ownsRow _ _ 3 _ _ _; simpa using hown
 have k2 : Kept W1 w2 [] := (Kept.refl W1 []).grown hgrow (fun k hk => by simp [Value.ownBlock] at hk)
 obtain ⟨u2, c2, e2⟩ := o2.shape
 subst e2
 obtain ⟨y, hy⟩ : ∃ y, l[i]? = some y := ⟨_, List.getElem?_eq_getElem hi⟩
 obtain ⟨g, eg, -⟩ := o2.at hy
 subst eg
 obtain ⟨p0, p1, p2⟩ := o2.three hy
 obtain ⟨f0, f1, f2⟩ := o2.threeF hy
 have g2 := k2.heap (by simp) G1.out
 obtain ⟨q0, q1, q2⟩ : w2.cell? ⟨z, 0, none⟩ = some (.string b0) /\ w2.cell? ⟨z, 1, none⟩ = some (.int .i64 b1) /\ w2.cell? ⟨z, 2, none⟩ = some (.int .i64 b2) := ⟨by rw [cell_of_row _ _ _ _ _ _ g2]; rfl, by rw [cell_of_row _ _ _ _ _ _ g2]; rfl, by rw [cell_of_row _ _ _ _ _ _ g2]; rfl⟩
 have o3 := o2.put i hi ⟨b0, b1, b2⟩
 have hgz := (o2.lt g rfl).1
 have k3 : Kept w (xqo w2 g (i * encCu.k) (encCu.cs ⟨b0, b1, b2⟩).toList) [] := putAll_kept _ _ _ (K1.out.trans k2 (by simp)) (.inr (by have := HZ.out; omega))
 obtain ⟨⟨c4, f4⟩, a5, s5⟩ := A.out.lay (Fo.ofKept k3 _) (v := .slice (some ⟨g, 0, none⟩) l.length c2) (m := l.set i ⟨b0, b1, b2⟩) (o3.mono (by have := A.out.size; have := HZ.out; omega)) (fun k hk => .inr (by have e : g = k := (by simpa [Value.ownBlock] using hk); have := HZ.out; omega))
 have A5 := iH a5; have S5 := iH s5
 rw [EV.out] at c4
 change (((w2.setCell ⟨g, i * 3, none⟩ (.string b0)).setCell ⟨g, i * 3 + 1, none⟩ (.int .i64 b1)).setCell ⟨g, i * 3 + 2, none⟩ (.int .i64 b2)).cell? ⟨h, oo, none⟩ = _ at c4
 change (((w2.setCell ⟨g, i * 3, none⟩ (.string b0)).setCell ⟨g, i * 3 + 1, none⟩ (.int .i64 b1)).setCell ⟨g, i * 3 + 2, none⟩ (.int .i64 b2)).frozen? ⟨h, oo, none⟩ = _ at f4
 clear o2 o3 k2 k3 g2 hown hgrow a5 s5 hy hgz
 go_wp2
 exact bodyPost_end (results_none rfl _ _ _) rfl ⟨rfl, _, A5.out, S5.out⟩
end Go.Proofs.YticiofkiffgclaaGreat
