/-
 Cub, Cus, Cui, Cuj, Cuk in one text.
-/
import Derived.Test.YticiofkiffgclaaGreatRows
import Derived.Test.YticiofkiffgclaaGreatQu2
import Derived.Lib.Bytealg
import Derived.Lib.SliceRun
import Derived.LoopTactic
import Derived.Shelf.Abstract
import Derived.Deep.QuietTactic
import Derived.BigQuiet
import Derived.RegionTactic
import Derived.Test.YticiofkiffgclaaGreatQu0
import Derived.Test.YticiofkiffgclaaGreatQu1
import Derived.Deep.RegionLaw
set_option linter.unusedVariables false
set_option maxHeartbeats 16000000
set_option maxRecDepth 100000
namespace Go.Proofs.YticiofkiffgclaaGreat
open Go.RowKit
theorem cb_lt : ∀ l m : List UInt8, (Lib.compareBytes l m < 0 ↔ Op.bytesLess l m = true)
 | [], [] => by simp [Lib.compareBytes, Op.bytesLess]
 | [], _ :: _ => by simp [Lib.compareBytes, Op.bytesLess]
 | _ :: _, [] => by simp [Lib.compareBytes, Op.bytesLess]
 | a :: l, b :: m => by
  rw [Lib.compareBytes, Op.bytesLess]
  by_cases h : a < b
  ·simp [h]
  by_cases k : b < a
  ·have e : (a == b) = false := by
    rw [beq_eq_false_iff_ne]
    rintro rfl
    exact h k
   simp [h, k, e]
  obtain rfl : a = b := UInt8.le_antisymm (UInt8.not_lt.1 k) (UInt8.not_lt.1 h)
  simp [h, cb_lt l m]
theorem cb_zero : ∀ l m : List UInt8, (Lib.compareBytes l m = 0 ↔ l = m)
 | [], [] => by simp [Lib.compareBytes]
 | [], _ :: _ => by simp [Lib.compareBytes]
 | _ :: _, [] => by simp [Lib.compareBytes]
 | a :: l, b :: m => by
  rw [Lib.compareBytes]
  by_cases h : a < b
  ·have e : a ≠ b := by rintro rfl; exact absurd h (UInt8.lt_irrefl a)
   simp [h, e]
  by_cases k : b < a
  ·have e : a ≠ b := by rintro rfl; exact h k
   simp [h, k, e]
  obtain rfl : a = b := UInt8.le_antisymm (UInt8.not_lt.1 k) (UInt8.not_lt.1 h)
  simp [h, cb_zero l m]
def cmpN (a b : ByteArray) : Int := Lib.compareBytes a.data.toList b.data.toList
theorem cmpN_lt {a b : ByteArray} : cmpN a b < 0 ↔ ltN a b = true := by rw [cmpN, cb_lt, ltN, ByteArray.toList_eq, ByteArray.toList_eq]
theorem cmpN_zero {a b : ByteArray} : cmpN a b = 0 ↔ a = b := by
 rw [cmpN, cb_zero]
 constructor
 ·intro h
  cases a; cases b
  simp only at h
  congr 1
  exact Array.toList_inj.1 h
 intro h; rw [h]
def ahd (l : List Cu) (n : ByteArray) : Nat := l.countP fun x => ltN x.nm n
theorem ahd_le (l : List Cu) (n : ByteArray) : ahd l n <= l.length := List.countP_le_length
theorem ahd_eq : ∀ {l : List Cu} {n : ByteArray} {i : Nat}, i <= l.length -> (∀ j y, j < i -> l[j]? = some y -> ltN y.nm n = true) -> (∀ j y, i <= j -> l[j]? = some y -> ltN y.nm n = false) -> ahd l n = i
 | [], n, i, hi, _, _ => by simp at hi; subst hi; rfl
 | x :: t, n, 0, hi, _, h2 => by
  unfold ahd
  rw [List.countP_eq_zero]
  intro y hy
  obtain ⟨j, hj, rfl⟩ := List.mem_iff_getElem.1 hy
  rw [h2 j _ (Nat.zero_le _) (List.getElem?_eq_getElem hj)]
  simp
 | x :: t, n, i + 1, hi, h1, h2 => by
  have hx := h1 0 x (by omega) rfl
  have ih := ahd_eq (l := t) (n := n) (i := i) (by simpa using hi) (fun j y hj hy => h1 (j + 1) y (by omega) (by simpa using hy)) (fun j y hj hy => h2 (j + 1) y (by omega) (by simpa using hy))
  unfold ahd at ih ⊢
  rw [List.countP_cons_of_pos (by exact hx), ih]
theorem nms_lt {l : List Cu} (h : Nms l) {n : ByteArray} {i j : Nat} {x y : Cu} (hij : i <= j) (hx : l[i]? = some x) (hy : l[j]? = some y) (hl : ltN y.nm n = true) : ltN x.nm n = true := by
 rcases Nat.lt_or_ge i j with c | c
 ·obtain ⟨hi, rfl⟩ := List.getElem?_eq_some_iff.1 hx
  obtain ⟨hj, rfl⟩ := List.getElem?_eq_some_iff.1 hy
  exact yqP _ _ _ (List.pairwise_iff_getElem.1 h i j hi hj c) hl
 obtain rfl : i = j := by omega
 rw [hx] at hy
 cases hy
 exact hl
theorem plc_found {l : List Cu} (h : Nms l) {n : ByteArray} {x : Cu} (hx : l[ahd l n]? = some x) (hn : x.nm = n) : plc l n = some (ahd l n) := by
 refine plc_hit hx (isN_iff.2 hn) (fun j y hj hy => ?_)
 cases hc : isN n y with
 | false => rfl
 | true => have := nms_one h hx hy (hn.trans (isN_iff.1 hc).symm); omega
theorem plc_lost {l : List Cu} (h : Nms l) {n : ByteArray} (h1 : ∀ j y, j < ahd l n -> l[j]? = some y -> ltN y.nm n = true) (h2 : ∀ y, l[ahd l n]? = some y -> y.nm ≠ n) : plc l n = none := by
 refine plc_miss (fun j y hj hy => ?_)
 cases hc : isN n y with
 | false => rfl
 | true =>
 have e := isN_iff.1 hc
 rcases Nat.lt_trichotomy j (ahd l n) with c | c | c
 ·have := h1 j y c hy
  rw [e, ltN, yqe] at this
  cases this
 ·subst c; exact absurd e (h2 y hy)
 obtain ⟨hj', rfl⟩ := List.getElem?_eq_some_iff.1 hy
 have hz := List.pairwise_iff_getElem.1 h (ahd l n) j (by omega) hj' c
 have h3 : ahd l n + 1 <= ahd l n := by
  have : (l.take (ahd l n + 1)).countP (fun x => ltN x.nm n) = ahd l n + 1 := by
   have hl : (l.take (ahd l n + 1)).length = ahd l n + 1 := by rw [List.length_take]; omega
   conv => rhs; rw [<- hl]
   rw [List.countP_eq_length]
   intro x hx
   obtain ⟨q, hq, rfl⟩ := List.mem_iff_getElem.1 hx
   rw [List.getElem_take]
   rw [hl] at hq
   by_cases hqa : q < ahd l n
   ·exact h1 q _ hqa (List.getElem?_eq_getElem _)
   obtain rfl : q = ahd l n := by omega
   rw [e] at hz; exact hz
  conv => rhs; rw [ahd, <- List.take_append_drop (ahd l n + 1) l, List.countP_append]
  omega
 omega
theorem OwnK.three {w : World} {base : Nat} {e : TypeId} {g n c : Nat} {l : List Cu} (h : OwnK encCu w base e (.slice (some ⟨g, 0, none⟩) n c) l) {k : Nat} {x : Cu} (hx : l[k]? = some x) :
 w.cell? ⟨g, k * 3, none⟩ = some (.string x.nm) /\ w.cell? ⟨g, k * 3 + 1, none⟩ = some (.int .i64 x.la) /\ w.cell? ⟨g, k * 3 + 2, none⟩ = some (.int .i64 x.op) := by
 obtain ⟨g', hg, hc⟩ := h.at hx
 simp only [Option.some.injEq, Addr.mk.injEq] at hg
 obtain ⟨rfl, _⟩ := hg
 exact ⟨(hc 0 (by decide)).1, (hc 1 (by decide)).1, (hc 2 (by decide)).1⟩
theorem OwnK.threeF {w : World} {base : Nat} {e : TypeId} {g n c : Nat} {l : List Cu} (h : OwnK encCu w base e (.slice (some ⟨g, 0, none⟩) n c) l) {k : Nat} {x : Cu} (hx : l[k]? = some x) :
 w.frozen? ⟨g, k * 3, none⟩ = false /\ w.frozen? ⟨g, k * 3 + 1, none⟩ = false /\ w.frozen? ⟨g, k * 3 + 2, none⟩ = false := by
 obtain ⟨g', hg, hc⟩ := h.at hx
 simp only [Option.some.injEq, Addr.mk.injEq] at hg
 obtain ⟨rfl, _⟩ := hg
 exact ⟨(hc 0 (by decide)).2, (hc 1 (by decide)).2, (hc 2 (by decide)).2⟩
theorem cmpstr_any (a b : ByteArray) (w : World) : Calls Tryz.prog 199 #[.string a, .string b] w fun e w' => e = .returned (.int .i64 (cmpN a b)) /\ w' = w := by
 go_enter Tryz.func199, Tryz.ntmps199
 go_wp2
 rw [run_callFunc_extern Tryz.func218 (by kernel_rfl) (by kernel_rfl) (by kernel_rfl) (e := Extern.BytealgCompare.compare) (by kernel_rfl), Lib.run_compareString]
 simp only [Result.andThen]
 rw [Oper.upon_value]
 go_wp2
 go_ret
 exact ⟨rfl, rfl⟩
theorem compare_any (a b : ByteArray) (w : World) : Calls Tryz.prog 178 #[.string a, .string b] w fun e w' => e = .returned (.int .i64 (cmpN a b)) /\ w' = w := by
 go_enter Tryz.func178, Tryz.ntmps178
 go_wp2_with (go_at_call 199; refine (cmpstr_any _ _ _).mono ?_; rintro e w' ⟨rfl, rfl⟩)
 go_ret
 exact ⟨rfl, rfl⟩
theorem closure_any (x : Cu) (n : ByteArray) (w : World) : Calls Tryz.prog 177 #[.agg x.cs, .string n] w fun e w' => e = .returned (.int .i64 (cmpN x.nm n)) /\ Kept w w' [] := by
 obtain ⟨b0, b1, b2⟩ := x
 simp only [Cu.cs]
 go_enter Tryz.func177, Tryz.ntmps177
 go_wp2_with (go_at_call 178; refine (compare_any _ _ _).mono ?_; rintro e w' ⟨rfl, rfl⟩)
 go_ret
 exact ⟨rfl, (Kept.refl w []).alloc _⟩
theorem retib {a : Int} {b c : Bool} (h : b = c) : Ending.returned (.tuple #[.int .i64 a, .bool b]) = .returned (.tuple #[.int .i64 a, .bool c]) := by rw [h]
theorem csearch_any (v : Value) (l : List Cu) (n : ByteArray) (w : World) {base : Nat} {e : TypeId} (h : OwnK encCu w base e v l) (hs : Nms l) (hlen : l.length <= 1000000) :
 Calls Tryz.prog 176 #[v, .string n, .func (.func 177) #[] #[]] w fun e w' =>
  e = .returned (.tuple #[.int .i64 (ahd l n), .bool (plc l n).isSome]) /\ Kept w w' [] := by
 have ec : ∀ args w, (callFunc 177 args).run Tryz.prog w = .ok (.enter 177 args) w := enters_of Tryz.func177 (by kernel_rfl) rfl
 rcases id h.2 with ⟨rfl, h0⟩ | ⟨g, cap, cur, rfl, _⟩
 ·obtain rfl : l = [] := List.eq_nil_of_length_eq_zero h0
  clear h
  go_enter Tryz.func176, Tryz.ntmps176
  go_wp2
  go_loop [9, 10] (fun t s => t = .int .i64 0 /\ s = .int .i64 0) (fun _ _ => 0)
  case atStart => exact ⟨rfl, rfl⟩
  case round =>
  obtain ⟨rfl, rfl⟩ := hrel
  go_wp2
  go_ret2
  exact ⟨rfl, Kept.refl w []⟩
 ·have H := iH h; have S := iH hs
  clear h hs
  go_enter Tryz.func176, Tryz.ntmps176
  go_wp2
  go_loopw [9, 10] (fun t s wr => ∃ i j : Nat, t = .int .i64 i /\ s = .int .i64 j /\ i <= j /\ j <= l.length /\ (∀ q y, q < i -> l[q]? = some y -> ltN y.nm n = true) /\ (∀ q y, j <= q -> l[q]? = some y -> ltN y.nm n = false) /\ Kept w wr []) (fun t s _ => (intOf s).toNat - (intOf t).toNat)
  case atStart =>
   refine ⟨0, l.length, rfl, rfl, Nat.zero_le _, Nat.le_refl _, fun q y hq => absurd hq (Nat.not_lt_zero _), fun q y h1 h2 => ?_, Kept.refl w []⟩
   have := (List.getElem?_eq_some_iff.1 h2).1
   omega
  case round =>
  obtain ⟨i, j, rfl, rfl, hij, hj, hL, hR, hk⟩ := hrel
  have L := iH hL; have R := iH hR; have K := iH hk
  clear hL hR hk
  by_cases hlt : i < j
  ·have x1 : (i : Int) < (j : Int) := by omega
   obtain ⟨k, hk⟩ : ∃ k : Nat, k = (i + j) / 2 := ⟨_, rfl⟩
   have hk1 : i <= k := by omega
   have hk2 : k < j := by omega
   obtain ⟨x, hx⟩ : ∃ x, l[k]? = some x := ⟨_, List.getElem?_eq_getElem (by omega)⟩
   obtain ⟨c0, c1, c2⟩ := (H.out.kept K.out (by simp)).three hx
   have X := iH hx
   have x2 : (k : Int) < (l.length : Int) := by omega
   have e3 : ((i : Int) + (j : Int)) / 2 = (k : Int) := by omega
   have e2 : ((i : Int) + (j : Int)) % 18446744073709551616 = (i : Int) + (j : Int) := by clear c0 c1 c2; omega
   have call := closure_any x n wr
   obtain ⟨z, hz⟩ : ∃ z, z = cmpN x.nm n := ⟨_, rfl⟩
   rw [<- hz] at call
   have Hz := iH hz
   obtain ⟨b0, b1, b2⟩ := x
   simp only [Cu.cs] at c0 c1 c2 call
   clear hz hk hx
   by_cases hzl : z < 0
   ·go_wp2_with (go_at_fn 177; refine call.mono ?_; rintro e w2 ⟨rfl, k2⟩)
    go_roundw
    case rel => exact ⟨k + 1, j, by go_num, rfl, by omega, by omega, fun q y hq hy => nms_lt S.out (by omega) hy X.out (cmpN_lt.1 (by rw [<- Hz.out]; exact hzl)), R.out, K.out.trans k2 (by simp)⟩
    case measure => simp [intOf]; omega
   go_wp2_with (go_at_fn 177; refine call.mono ?_; rintro e w2 ⟨rfl, k2⟩)
   go_roundw
   case rel =>
    refine ⟨i, k, rfl, rfl, by omega, by omega, L.out, fun q y hq hy => ?_, K.out.trans k2 (by simp)⟩
    cases hc : ltN y.nm n with
    | false => rfl
    | true => exact absurd (cmpN_lt.2 (nms_lt S.out hq X.out hy hc)) (by rw [<- Hz.out]; omega)
   case measure => simp [intOf]; omega
  have x1 : ¬ (i : Int) < (j : Int) := by omega
  obtain rfl : i = j := by omega
  have EA := iH (ahd_eq (l := l) (n := n) hj L.out R.out)
  by_cases hil : i < l.length
  ·obtain ⟨x, hx⟩ : ∃ x, l[i]? = some x := ⟨_, List.getElem?_eq_getElem hil⟩
   obtain ⟨c0, c1, c2⟩ := (H.out.kept K.out (by simp)).three hx
   have X := iH hx
   have x2 : (i : Int) < (l.length : Int) := by omega
   have call := closure_any x n wr
   have fin : ((cmpN x.nm n == 0) = (plc l n).isSome) := by
    by_cases hxn : x.nm = n
    ·rw [plc_found S.out (by rw [EA.out]; exact hx) hxn, cmpN_zero.2 hxn]; rfl
    rw [plc_lost S.out (by rw [EA.out]; exact L.out) (by rw [EA.out, hx]; rintro y hy; cases hy; exact hxn)]
    simp [cmpN_zero, hxn]
   obtain ⟨z, hz⟩ : ∃ z, z = cmpN x.nm n := ⟨_, rfl⟩
   rw [<- hz] at call fin
   have FIN := iH fin
   obtain ⟨b0, b1, b2⟩ := x
   simp only [Cu.cs] at c0 c1 c2 call
   clear hx fin hz
   go_wp2_with (go_at_fn 177; refine call.mono ?_; rintro e w2 ⟨rfl, k2⟩)
   go_ret2
   rw [EA.out]
   exact ⟨retib FIN.out, K.out.trans k2 (by simp)⟩
  have x2 : ¬ (i : Int) < (l.length : Int) := by omega
  have P0 := iH (plc_lost S.out (by rw [EA.out]; exact L.out) (by rw [EA.out]; intro y hy; have := (List.getElem?_eq_some_iff.1 hy).1; omega))
  go_wp2
  go_ret2
  rw [EA.out, P0.out]
  exact ⟨rfl, K.out⟩
theorem Tryz.infoCu : (Tryz.prog.info? 99).map (fun i => (i.zero, i.size, i.bytes)) = some (some (.agg #[.string ⟨#[]⟩, .int .i64 0, .int .i64 0]), 3, 32) := by kernel_rfl
def InsPost (w : World) (B : Nat) (v : Value) (l : List Cu) (i : Nat) (x : Cu) (e : Ending) (w' : World) : Prop :=
 ∃ v', e = .returned v' /\ OwnK encCu w' B 99 v' (l.take i ++ x :: l.drop i) /\ Fo (fun k => v.ownBlock = some k) w w' /\ ∀ k, v'.ownBlock = some k -> v.ownBlock = some k ∨ w.heap.size <= k
theorem src_x {w : World} {xb : Nat} {x : Cu} (hx : w.heap[xb]? = some (.cells x.cs 99 (0, 0))) : Src Tryz.prog 3 93 (.slice (some ⟨xb, 0, none⟩) 1 1) 1 x.cs.toList w := by
 have := (rdK_one (E := encCu) (x := x) hx).src (P := Tryz.prog) (tx := 93) Tryz.underlying93
 rw [xqz] at this
 exact this
theorem cinsert_end (v : Value) (l : List Cu) (x : Cu) (xb : Nat) (w : World) (B : Nat) (h : OwnK encCu w B 99 v l) (hB : B <= w.heap.size) (hx : w.heap[xb]? = some (.cells x.cs 99 (0, 0))) (hl : l.length <= 1000) :
 Calls Tryz.prog 135 #[v, .int .i64 l.length, .slice (some ⟨xb, 0, none⟩) 1 1] w (InsPost w B v l l.length x) := by
 obtain ⟨i0, hi0, hz0, hz1, hz2⟩ := info_parts Tryz.infoCu
 have SRC := iH (src_x hx)
 have H := iH h
 have fin : ∀ v2 w2, w2.ownsRow B 99 3 v2 (l.length + 1) (kcs encCu l ++ x.cs.toList) -> w.grownBy w2 v.ownBlock -> (v2.ownBlock = v.ownBlock ∨ ∃ g, v2.ownBlock = some g /\ w.heap.size <= g) -> InsPost w B v l l.length x (.returned v2) w2 := by
  intro v2 w2 ho hg hp
  refine ⟨v2, rfl, ?_, (Fo.refl _ w).grown hg (fun k hk => .inl hk), fun k hk => ?_⟩
  ·rw [List.take_length, List.drop_length]; exact xqS ho
  rcases hp with hp | ⟨g, hg, hgs⟩
  ·exact .inl (by rw [<- hp]; exact hk)
  rw [hg] at hk; cases hk; exact .inr hgs
 have FIN := iH fin
 rcases h.2 with ⟨rfl, h0⟩ | ⟨g, cap, cur, rfl, _, _, hnc, _, _, _⟩
 ·obtain rfl : l = [] := List.eq_nil_of_length_eq_zero h0
  clear h hx fin
  simp only [List.length_nil] at *
  go_enter Tryz.func135, Tryz.ntmps135
  go_wp2_with (at_builtin; refine xqa _ rfl (.tmp 23) (.tmp 24) 93 93 rfl B 99 i0 _ 3 32 Tryz.underlying93 hi0 hz0 hz1 hz2 rfl (.slice none 0 0) 0 [] rfl H.out (.slice (some ⟨xb, 0, none⟩) 1 1) 1 x.cs.toList rfl SRC.out ?b1 ?b2 hB ?next)
  case b1 => unfold maxLen; omega
  case b2 => omega
  case next =>
  intro v2 w2 hown _ hgrow hpl
  have F := iH (FIN.out v2 w2 hown hgrow hpl)
  clear hown hgrow hpl
  go_wp2
  go_ret
  exact F.out
 ·clear h hx fin
  by_cases hcl : cap = l.length
  ·subst hcl
   go_enter Tryz.func135, Tryz.ntmps135
   go_wp2_with (at_builtin; refine xqa _ rfl (.tmp 23) (.tmp 24) 93 93 rfl B 99 i0 _ 3 32 Tryz.underlying93 hi0 hz0 hz1 hz2 rfl (.slice (some ⟨g, 0, none⟩) l.length l.length) l.length (kcs encCu l) rfl H.out (.slice (some ⟨xb, 0, none⟩) 1 1) 1 x.cs.toList rfl SRC.out ?b1 ?b2 hB ?next)
   case b1 => unfold maxLen; omega
   case b2 => omega
   case next =>
   intro v2 w2 hown _ hgrow hpl
   have F := iH (FIN.out v2 w2 hown hgrow hpl)
   clear hown hgrow hpl
   go_wp2
   go_ret
   exact F.out
  go_enter Tryz.func135, Tryz.ntmps135
  go_wp2_with (at_builtin; refine xqa _ rfl (.tmp 23) (.tmp 24) 93 93 rfl B 99 i0 _ 3 32 Tryz.underlying93 hi0 hz0 hz1 hz2 rfl (.slice (some ⟨g, 0, none⟩) l.length cap) l.length (kcs encCu l) rfl H.out (.slice (some ⟨xb, 0, none⟩) 1 1) 1 x.cs.toList rfl SRC.out ?b1 ?b2 hB ?next)
  case b1 => unfold maxLen; omega
  case b2 => omega
  case next =>
  intro v2 w2 hown _ hgrow hpl
  have F := iH (FIN.out v2 w2 hown hgrow hpl)
  clear hown hgrow hpl
  go_wp2
  go_ret
  exact F.out
theorem cinsert_grow (g n : Nat) (l : List Cu) (i : Nat) (x : Cu) (xb : Nat) (w : World) (B : Nat) (hn : n = l.length) (h : OwnK encCu w B 99 (.slice (some ⟨g, 0, none⟩) n n) l) (hB : B <= w.heap.size) (hx : w.heap[xb]? = some (.cells x.cs 99 (0, 0))) (hi : i < n) (hl : n <= 1000) :
 Calls Tryz.prog 135 #[.slice (some ⟨g, 0, none⟩) n n, .int .i64 i, .slice (some ⟨xb, 0, none⟩) 1 1] w (InsPost w B (.slice (some ⟨g, 0, none⟩) n n) l i x) := by
 obtain ⟨i0, hi0, hz0, hz1, hz2⟩ := info_parts Tryz.infoCu
 have hcell : ∀ j u, (kcs encCu l)[j]? = some u -> w.cell? ⟨g, j, none⟩ = some u := fun j u hu => by
  have := World.ownsRow.cells h (g := g) rfl j u hu
  simpa [Addr.add_lit] using this
 have hil : i <= l.length := by omega
 have hold : (Builtin.firstCells i0.size i (.slice (some ⟨g, 0, none⟩) i n)).run Tryz.prog w.drew = .ok (kcs encCu (l.take i)).toArray w.drew := by
  rw [hz1]
  refine run_firstCells_some w.drew 3 i ⟨g, 0, none⟩ i n (kcs encCu (l.take i)) (by rw [xql, List.length_take, Nat.min_eq_left hil]; rfl) (fun j u hj => ?_)
  rw [yqk encCu l i hil, List.getElem?_take] at hj
  split at hj
  ·rw [Addr.add_lit, Nat.zero_add]; exact hcell j u hj
  cases hj
 obtain ⟨G, hG⟩ : ∃ G, G = grownCap w (n + 1) n 99 := ⟨_, rfl⟩
 have hGn : n + 1 <= G := by rw [hG]; exact grownCap_ge w _ _ _
 have hGm : G <= maxLen := by rw [hG]; exact grownCap_le_maxLen w (n + 1) n 99 (by unfold maxLen; omega)
 obtain ⟨R, hRl, hRt, hrz⟩ : ∃ R : List Value, R.length = G * 3 /\ R.take (i * 3) = kcs encCu (l.take i) /\ ∀ ty, (Builtin.append_ #[93, 3] ty #[.slice (some ⟨g, 0, none⟩) i n, .int .i64 ((n : Int) + 1 - (i : Int))]).run Tryz.prog w =
  .ok (.slice (some ⟨w.heap.size, 0, none⟩) (n + 1) G) (w.drew.alloc (.cells R.toArray 99)) := by
  have hik : i + (n + 1 - i) = n + 1 := by omega
  have hkk : (n : Int) + 1 - (i : Int) = ((n + 1 - i : Nat) : Int) := by omega
  have hk3 : (kcs encCu (l.take i)).length = i * 3 := by rw [xql, List.length_take, Nat.min_eq_left hil]; rfl
  refine ⟨kcs encCu (l.take i) ++ (Builtin.zeroCells (Value.agg #[.string ⟨#[]⟩, .int .i64 0, .int .i64 0]).cells (n + 1 - i)).toList ++ (Builtin.zeroCells (Value.agg #[.string ⟨#[]⟩, .int .i64 0, .int .i64 0]).cells (G - (n + 1))).toList, ?_, ?_, fun ty => ?_⟩
  ·have hzc : (Value.agg #[.string ⟨#[]⟩, .int .i64 0, .int .i64 0]).cells.size = 3 := rfl
   simp only [List.length_append, hk3, Array.length_toList, Builtin.zeroCells, Array.size_map, Array.size_range, hzc]
   omega
  ·rw [List.append_assoc]
   exact List.take_left' hk3
  ·have hh := Lib.run_append_grow_zeros w 93 3 ty 99 i0 _ .i64 .i64 Tryz.underlying93 Tryz.underlying3 hi0 hz0 (some ⟨g, 0, none⟩) i n (kcs encCu (l.take i)) hold (n + 1 - i) (by omega) (by omega) (by omega) (by omega) (by rw [hz2]; omega) (by rw [hz2, hik]; exact growslice_fits (by omega) (by omega))
   rw [hik, <- hG] at hh
   rw [hkk, hh]
   congr 3
   apply Array.toList_inj.1
   simp
 have hcx : ∀ j u, x.cs.toList[j]? = some u -> w.cell? ⟨xb, 0 + j, none⟩ = some u := fun j u hu => by
  rw [cell_of_row _ _ _ _ _ _ hx, Nat.zero_add]
  simpa using hu
 obtain ⟨z, hz⟩ : ∃ z, z = w.heap.size := ⟨_, rfl⟩
 have hxz : xb < z := by rw [hz]; exact xqh hx
 have hgz : g < z := by rw [hz]; exact (h.lt g rfl).2
 obtain ⟨W1, hW1⟩ : ∃ W1, W1 = w.drew.alloc (.cells R.toArray 99) := ⟨_, rfl⟩
 have H1 : W1.heap[z]? = some (.cells R.toArray 99 (0, 0)) := by rw [hW1, hz]; exact heap_alloc_new w.drew _
 have K1 : Kept w W1 [] := by rw [hW1]; exact ((Kept.refl w []).drew).alloc _
 rw [<- hz, <- hW1] at hrz
 have KH1 := iH K1; have HH1 := iH H1; have HZ := iH hz; have CX := iH hcx; have CL := iH hcell; have RT := iH hRt; have RL := iH hRl
 have HN := iH hn; have BB := iH hB; have GM := iH hGm
 have X1 : RowKit.Hid (∀ u ∈ x.cs.toList, u.oneCell' = true) := iH (encCu.one x)
 have XL : RowKit.Hid (x.cs.toList.length = 3) := iH (by rw [Array.length_toList]; exact encCu.size x)
 have F1 : RowKit.Hid (i * 3 + 3 <= R.length /\ (n + 1) * 3 <= R.length) := iH (by rw [hRl]; omega)
 obtain ⟨XS, hXS⟩ : ∃ XS, XS = x.cs.toList := ⟨_, rfl⟩
 have HXS := iH hXS
 obtain ⟨LD, hLD⟩ : ∃ LD, LD = kcs encCu (l.drop i) := ⟨_, rfl⟩
 have HLD := iH hLD
 have LDL : RowKit.Hid (LD.length = (n - i) * 3) := iH (by rw [hLD, xql, List.length_drop, <- hn]; rfl)
 have LD1 : RowKit.Hid (∀ u ∈ LD, u.oneCell' = true) := iH (by rw [hLD]; exact kcs_one encCu _)
 have LDC : RowKit.Hid (∀ j u, LD[j]? = some u -> w.cell? ⟨g, i * 3 + j, none⟩ = some u) := iH (fun j u hj => by
  rw [hLD, yqv encCu l i hil, List.getElem?_drop] at hj
  exact hcell _ u hj)
 rw [<- hXS] at X1 XL CX
 have HG := iH hG
 have hGi : ¬ (G = i) := by omega
 have hGim : ¬ (G = i + 1) := by omega
 have hci : ¬ (n = i) := by omega
 have hw1 : IntKind.i64.wrap ((i : Int) + 1) = (i : Int) + 1 := by rw [IntKind.wrap_i64]; omega
 have hb1 : (0 : Int) <= (i : Int) + 1 := by omega
 have htn : ((i : Int) + 1).toNat = i + 1 := by omega
 have hin : i <= n := by omega
 have hin1 : (i : Int) <= (n : Int) := by omega
 have hz1' : ¬ ((i : Int) = (n : Int)) := by omega
 have HRZ := iH hrz
 clear h hx hold hrz hRl hRt hG hcx hcell hn hz hW1 H1 K1 hB hGm hXS hLD hil
 go_enter Tryz.func135, Tryz.ntmps135
 go_wp2_with (first
  | (at_builtin; refine Lib.wpList_append_run _ rfl _ _ _ _ rfl _ _ rfl rfl _ _ (HRZ.out _) ?_)
  | (refine yqh rfl (.tmp 43) (.tmp 44) 93 93 rfl 99 i0 Tryz.underlying93 hi0 z (i * 3) _ _ ⟨xb, 0, none⟩ 1 1 1 rfl rfl ?hm R 99 HH1.out XS ?hn ?hsrc ?hfit X1.out ?next))
 case hm => exact Nat.min_eq_left (by omega)
 case hn => rw [XL.out, hz1]
 case hsrc => intro j u hu; rw [Addr.add_lit]; exact KH1.out.cell (by simp) (CX.out j u hu)
 case hfit => rw [XL.out]; exact F1.out.1
 case next =>
  intro w2 HG2 HF2
  have L2 : RowKit.Hid ((splice R (i * 3) XS).length = R.length) := iH (length_splice _ _ _ (by rw [XL.out]; exact F1.out.1))
  obtain ⟨R2, hR2⟩ : ∃ R2, R2 = splice R (i * 3) XS := ⟨_, rfl⟩
  rw [<- hR2] at HG2 L2
  have HR2 := iH hR2
  clear hR2
  have LC2 : RowKit.Hid (∀ j u, LD[j]? = some u -> w2.cell? ⟨g, i * 3 + j, none⟩ = some u) := iH (fun j u hj => by
   have h1 := KH1.out.cell (by simp) (LDC.out j u hj)
   rw [World.cell?_of_block (HF2.out.block g (World.block_lt_of_cell? _ _ h1) (by omega))]
   exact h1)
  go_wp2_with fail
  go_region_law (refine yqG rfl (.tmp 50) (.tmp 53) 93 93 rfl 99 i0 Tryz.underlying93 hi0 z ((i + 1) * 3) (n + 1 - (i + 1)) (G - (i + 1)) ⟨g, i * 3, none⟩ (n - i) (n - i) (n - i) (by simp [Act.eval, Act.put]) (by simp [Act.eval, Act.put]) (by rw [show n + 1 - (i + 1) = n - i by omega]; exact Nat.min_self _) R2 99 HG2.out LD (by rw [LDL.out, hz1]) (fun j u hu => by rw [Addr.add_lit]; exact LC2.out j u hu) (by rw [LDL.out, L2.out, RL.out]; omega) LD1.out ?_; intro w3 HG3 HF3)
  go_wp2
  go_ret
  refine ⟨_, rfl, ?_, ?_, fun k hk => .inr (by cases hk; rw [HZ.out]; exact Nat.le_refl _)⟩
  ·have hl2 : (l.take i ++ x :: l.drop i).length = n + 1 := by
    have := HN.out
    simp only [List.length_append, List.length_cons, List.length_take, List.length_drop]
    omega
   have hR3 : (splice R2 ((i + 1) * 3) LD).length = R2.length := length_splice _ _ _ (by rw [LDL.out, L2.out, RL.out]; omega)
   rw [<- hl2]
   refine yqt HG3.out (by have := BB.out; have := HZ.out; omega) (by rw [hl2]; exact hGn) GM.out (by rw [hR3, L2.out, RL.out]; rfl) ?_
   rw [hl2, HR2.out, HN.out, HXS.out, HLD.out]
   exact ins_grow (E := encCu) x (by have := HN.out; omega) (by rw [RL.out, <- HN.out]; show (n + 1) * 3 <= _; omega) RT.out
  have hz := HZ.out
  have f := (Fo.ofKept KH1.out (fun k => k = z)).trans (HF2.out.drew.trans HF3.out)
  exact ⟨f.os, f.tape, f.output, f.size, fun k hk _ => f.block k hk (by omega)⟩
theorem cinsert_shift (g n c : Nat) (l : List Cu) (i : Nat) (x : Cu) (xb : Nat) (w : World) (B : Nat) (hn : n = l.length) (h : OwnK encCu w B 99 (.slice (some ⟨g, 0, none⟩) n c) l) (hx : w.heap[xb]? = some (.cells x.cs 99 (0, 0))) (hxg : xb ≠ g) (hi : i < n) (hc : n + 1 <= c) (hl : n <= 1000) :
 Calls Tryz.prog 135 #[.slice (some ⟨g, 0, none⟩) n c, .int .i64 i, .slice (some ⟨xb, 0, none⟩) 1 1] w (InsPost w B (.slice (some ⟨g, 0, none⟩) n c) l i x) := by
 obtain ⟨i0, hi0, hz0, hz1, hz2⟩ := info_parts Tryz.infoCu
 have hcell : ∀ j u, (kcs encCu l)[j]? = some u -> w.cell? ⟨g, j, none⟩ = some u := fun j u hu => by
  have := World.ownsRow.cells h (g := g) rfl j u hu
  simpa [Addr.add_lit] using this
 have hil : i <= l.length := by omega
 obtain ⟨R, hR, hBg, -, hlc, hcm, hRl, hRt⟩ := h.row
 have hcx : ∀ j u, x.cs.toList[j]? = some u -> w.cell? ⟨xb, 0 + j, none⟩ = some u := fun j u hu => by
  rw [cell_of_row _ _ _ _ _ _ hx, Nat.zero_add]
  simpa using hu
 have hrl3 : R.length = c * 3 := hRl
 have HH1 := iH hR; have CX := iH hcx; have RT := iH hRt; have RL := iH hrl3
 have HN := iH hn; have BG := iH hBg; have CM := iH hcm
 have X1 : RowKit.Hid (∀ u ∈ x.cs.toList, u.oneCell' = true) := iH (encCu.one x)
 have XL : RowKit.Hid (x.cs.toList.length = 3) := iH (by rw [Array.length_toList]; exact encCu.size x)
 obtain ⟨XS, hXS⟩ : ∃ XS, XS = x.cs.toList := ⟨_, rfl⟩
 have HXS := iH hXS
 obtain ⟨LD, hLD⟩ : ∃ LD, LD = kcs encCu (l.drop i) := ⟨_, rfl⟩
 have HLD := iH hLD
 have LDL : RowKit.Hid (LD.length = (n - i) * 3) := iH (by rw [hLD, xql, List.length_drop, <- hn]; rfl)
 have LD1 : RowKit.Hid (∀ u ∈ LD, u.oneCell' = true) := iH (by rw [hLD]; exact kcs_one encCu _)
 have LDC : RowKit.Hid (∀ j u, LD[j]? = some u -> w.cell? ⟨g, i * 3 + j, none⟩ = some u) := iH (fun j u hj => by
  rw [hLD, yqv encCu l i hil, List.getElem?_drop] at hj
  exact hcell _ u hj)
 rw [<- hXS] at X1 XL CX
 have hov : ∀ lb cb, (callFunc 179 #[.slice (some ⟨xb, 0, none⟩) 1 1, .slice (some ⟨g, (i + 1) * 3, none⟩) lb cb]).run Tryz.prog w = .ok (.value (.bool false)) w := fun lb cb => by
  have hsh : ∀ {b : Nat} {cs : Array Value}, w.heap[b]? = some (.cells cs 99 (0, 0)) -> w.shape? b = some (99, cs.size) := fun {b cs} hb => by simp [World.shape?, hb]
  rw [run_callFunc_extern Tryz.func179 (by kernel_rfl) (by kernel_rfl) (by kernel_rfl) (e := Extern.SlicesOverlaps.overlaps #[93, 93] #[4]) (by kernel_rfl),
   Lib.run_overlaps_apart w 93 4 99 Tryz.underlying93 3 (fun w => Tryz.sizeOf99 w) ⟨xb, 0, none⟩ ⟨g, (i + 1) * 3, none⟩ 1 1 lb cb hxg 99 99 _ _ (hsh hx) (hsh hR) (by rw [List.size_toArray, hrl3]; omega) (frozen_of_row _ _ _ _ _ hx) (frozen_of_row _ _ _ _ _ hx)]
  rfl
 have HOV := iH hov
 have F1 : RowKit.Hid ((i + 1) * 3 + (n - i) * 3 <= R.length /\ i * 3 + 3 <= R.length) := iH (by rw [hrl3]; omega)
 have hgx := iH (show xb ≠ g from hxg)
 have hGi : ¬ (c = i) := by omega
 have hGim : ¬ (c = i + 1) := by omega
 have hw1 : IntKind.i64.wrap ((i : Int) + 1) = (i : Int) + 1 := by rw [IntKind.wrap_i64]; omega
 have hb1 : (0 : Int) <= (i : Int) + 1 := by omega
 have htn : ((i : Int) + 1).toNat = i + 1 := by omega
 have htn2 : ((n : Int) + 1).toNat = n + 1 := by omega
 have hin : i <= n := by omega
 have hin1 : (i : Int) <= (n : Int) := by omega
 have hin2 : (i : Int) <= (n : Int) + 1 := by omega
 have hz1' : ¬ ((i : Int) = (n : Int)) := by omega
 have hcc : ¬ ((c : Int) < (n : Int) + 1) := by omega
 have hcm63 : c <= 9223372036854775807 := by unfold maxLen at hcm; omega
 clear h hx hRl hrl3 hRt hcx hcell hn hXS hLD hil hR hBg hcm hlc hxg
 go_enter Tryz.func135, Tryz.ntmps135
 go_wp2_with (simp only [hov])
 clear hov
 go_region_law (refine yqG rfl (.tmp 73) (.tmp 76) 93 93 rfl 99 i0 Tryz.underlying93 hi0 g ((i + 1) * 3) (n + 1 - (i + 1)) (c - (i + 1)) ⟨g, i * 3, none⟩ (n + 1 - i) (c - i) (n - i) (by simp [Act.eval, Act.put]) (by simp [Act.eval, Act.put]) (by rw [show n + 1 - (i + 1) = n - i by omega]; exact Nat.min_eq_right (by omega)) R 99 HH1.out LD (by rw [LDL.out, hz1]) (fun j u hu => by rw [Addr.add_lit]; exact LDC.out j u hu) (by rw [LDL.out]; exact F1.out.1) LD1.out ?_; intro w2 HG2 HF2)
 have L2 : RowKit.Hid ((splice R ((i + 1) * 3) LD).length = R.length) := iH (length_splice _ _ _ (by rw [LDL.out]; exact F1.out.1))
 obtain ⟨R2, hR2⟩ : ∃ R2, R2 = splice R ((i + 1) * 3) LD := ⟨_, rfl⟩
 rw [<- hR2] at HG2 L2
 have HR2 := iH hR2
 clear hR2
 have CX2 : RowKit.Hid (∀ j u, XS[j]? = some u -> w2.cell? ⟨xb, 0 + j, none⟩ = some u) := iH (fun j u hj => by
  have h1 := CX.out j u hj
  rw [World.cell?_of_block (HF2.out.block xb (World.block_lt_of_cell? _ _ h1) (fun e => hgx.out e))]
  exact h1)
 go_wp2_with (refine yqh rfl (.tmp 80) (.tmp 81) 93 93 rfl 99 i0 Tryz.underlying93 hi0 g (i * 3) _ _ ⟨xb, 0, none⟩ 1 1 1 rfl rfl ?hm R2 99 HG2.out XS ?hn ?hsrc ?hfit X1.out ?next)
 case hm => exact Nat.min_eq_left (by omega)
 case hn => rw [XL.out, hz1]
 case hsrc => intro j u hu; rw [Addr.add_lit]; exact CX2.out j u hu
 case hfit => rw [XL.out, L2.out]; exact F1.out.2
 case next =>
  intro w3 HG3 HF3
  go_wp2
  go_ret
  refine ⟨_, rfl, ?_, ?_, fun k hk => .inl hk⟩
  ·have hl2 : (l.take i ++ x :: l.drop i).length = n + 1 := by
    have := HN.out
    simp only [List.length_append, List.length_cons, List.length_take, List.length_drop]
    omega
   have hR3 : (splice R2 (i * 3) XS).length = R2.length := length_splice _ _ _ (by rw [XL.out, L2.out]; exact F1.out.2)
   rw [<- hl2]
   refine yqt HG3.out BG.out (by rw [hl2]; exact hc) CM.out (by rw [hR3, L2.out, RL.out]; rfl) ?_
   rw [hl2, HR2.out, HN.out, HXS.out, HLD.out]
   exact ins_shift (E := encCu) x (by have := HN.out; omega) (by rw [RL.out, <- HN.out]; show (n + 1) * 3 <= _; omega) RT.out
  exact ((Fo.refl _ w).drew.trans (HF2.out.trans HF3.out)).mono (fun k hk => by rw [hk]; rfl)
theorem cinsert_any {v : Value} {l : List Cu} {i : Nat} {x : Cu} {xb : Nat} {w : World} {B : Nat} (h : OwnK encCu w B 99 v l) (hB : B <= w.heap.size) (hx : w.heap[xb]? = some (.cells x.cs 99 (0, 0))) (hxg : v.ownBlock ≠ some xb) (hi : i <= l.length) (hl : l.length <= 1000) :
 Calls Tryz.prog 135 #[v, .int .i64 i, .slice (some ⟨xb, 0, none⟩) 1 1] w (InsPost w B v l i x) := by
 by_cases he : i = l.length
 ·subst he
  exact cinsert_end v l x xb w B h hB hx hl
 ·rcases id h.2 with ⟨rfl, h0⟩ | ⟨g, cap, cur, rfl, _, _, hnc, _, _, _⟩
  ·omega
  by_cases hc : l.length + 1 <= cap
  ·exact cinsert_shift g _ cap l i x xb w B rfl h hx (fun e => hxg (by rw [e]; rfl)) (by omega) hc hl
  obtain rfl : cap = l.length := by omega
  exact cinsert_grow g _ l i x xb w B rfl h hB hx (by omega) hl
def DelPost (w : World) (B g c : Nat) (l : List Cu) (i : Nat) (e : Ending) (w' : World) : Prop :=
 e = .returned (.slice (some ⟨g, 0, none⟩) (l.length - 1) c) /\ OwnK encCu w' B 99 (.slice (some ⟨g, 0, none⟩) (l.length - 1) c) (l.eraseIdx i) /\ Fo (fun k => k = g) w w'
theorem cdelete_any (g m c : Nat) (l : List Cu) (i : Nat) (w : World) (B : Nat) (hn : l.length = m + 1) (h : OwnK encCu w B 99 (.slice (some ⟨g, 0, none⟩) (m + 1) c) l) (hi : i <= m) (hl : m <= 1000) :
 Calls Tryz.prog 161 #[.slice (some ⟨g, 0, none⟩) (m + 1) c, .int .i64 i, .int .i64 (i + 1)] w (DelPost w B g c l i) := by
 obtain ⟨i0, hi0, hz0, hz1, hz2⟩ := info_parts Tryz.infoCu
 obtain ⟨R, hR, hBg, -, hlc, hcm, hRl, hRt⟩ := h.row
 have hrl3 : R.length = c * 3 := hRl
 have hcell : ∀ j u, (kcs encCu l)[j]? = some u -> w.cell? ⟨g, j, none⟩ = some u := fun j u hu => by
  have := World.ownsRow.cells h (g := g) rfl j u hu
  simpa [Addr.add_lit] using this
 obtain ⟨LD, hLD⟩ : ∃ LD, LD = kcs encCu (l.drop (i + 1)) := ⟨_, rfl⟩
 have LDL : RowKit.Hid (LD.length = (m - i) * 3) := iH (by rw [hLD, xql, List.length_drop, hn, show m + 1 - (i + 1) = m - i by omega]; rfl)
 have LDC : RowKit.Hid (∀ j u, LD[j]? = some u -> w.cell? ⟨g, (i + 1) * 3 + j, none⟩ = some u) := iH (fun j u hj => by
  rw [hLD, yqv encCu l (i + 1) (by omega), List.getElem?_drop] at hj
  exact hcell _ u hj)
 have LD1 : RowKit.Hid (∀ u ∈ LD, u.oneCell' = true) := iH (by rw [hLD]; exact kcs_one encCu _)
 have F1 : RowKit.Hid (i * 3 + (m - i) * 3 + 3 <= R.length /\ m * 3 + 3 <= R.length) := iH (by rw [hrl3]; omega)
 have fin : ∀ (w3 : World) (R3 : List Value), w3.heap[g]? = some (.cells R3.toArray 99 (0, 0)) -> R3.length = R.length -> R3.take (m * 3) = (splice R (i * 3) LD).take (m * 3) -> Fo (fun k => k = g) w w3 -> DelPost w B g c l i (.returned (.slice (some ⟨g, 0, none⟩) m c)) w3 := by
  intro w3 R3 h3 hl3 ht3 hf3
  have e1 : l.length - 1 = m := by omega
  have e2 : (l.eraseIdx i).length = m := by rw [List.length_eraseIdx, if_pos (by omega)]; omega
  refine ⟨by rw [e1], ?_, hf3⟩
  have hh := yqt (E := encCu) (l := l.eraseIdx i) (B := B) (cap := c) h3 hBg (by rw [e2]; omega) hcm (by rw [hl3]; exact hRl) (by
   rw [e2, show m * encCu.k = m * 3 from rfl, ht3, hLD]
   have := del_shift (E := encCu) (cur := R) (l := l) (i := i) (by omega) (by rw [hRl]; exact Nat.mul_le_mul_right _ hlc) hRt
   rw [e1] at this
   exact this)
  rw [e2] at hh
  rw [e1]
  exact hh
 have FIN := iH fin
 have RL := iH hrl3; have HR := iH hR
 have hlc2 : m + 1 <= c := by omega
 have hcm63 : c <= 9223372036854775807 := by unfold maxLen at hcm; omega
 have hci : ¬ (c = i) := by omega
 have hic : i <= c := by omega
 have hcm1 : ¬ (c = m) := by omega
 have hx1 : ((i : Int) == (i : Int) + 1) = false := by rw [beq_eq_false_iff_ne]; omega
 have hx2 : (i : Int) <= (m : Int) := by omega
 have hx3 : (0 : Int) <= (i : Int) + 1 := by omega
 have hx4 : (i : Int) + 1 <= (m : Int) + 1 := by omega
 have htn : ((i : Int) + 1).toNat = i + 1 := by omega
 have hx5 : ¬ (m + 1 = i) := by omega
 have hx6 : (m : Int) + 1 <= (c : Int) := by omega
 clear h hRl hrl3 hRt hcell hn hLD hR hBg hcm hlc fin
 have after : ∀ (w3 : World), w3.heap[g]? = some (.cells (splice R (i * 3) LD).toArray 99 (0, 0)) -> Fo (fun k => k = g) w w3 ->
  ∃ w4, (∀ ty, (Builtin.clear_ #[93] ty #[.slice (some ⟨g, m * 3, none⟩) 1 (c - m)]).run Tryz.prog w3 = .ok (.tuple #[]) w4) /\ DelPost w B g c l i (.returned (.slice (some ⟨g, 0, none⟩) m c)) w4 := by
  intro w3 h3 hf3
  have hl3 : (splice R (i * 3) LD).length = R.length := length_splice _ _ _ (by rw [LDL.out]; have := F1.out.1; omega)
  obtain ⟨w4, hr, ⟨R4, h4, hl4, ht4⟩, hf4⟩ := run_clear_k (P := Tryz.prog) w3 93 99 _ Tryz.underlying93 (fun w => Tryz.zeroValue99 w) (by
   intro v hv
   simp [Value.cells] at hv
   rcases hv with rfl | rfl <;> rfl) (by decide) (n := 1) (c := c - m) (o := m * 3) (by decide) h3 (by rw [hl3]; exact F1.out.2)
  exact ⟨w4, hr, FIN.out w4 R4 h4 (by rw [hl4, hl3]) ht4 (hf3.trans hf4)⟩
 have AFT := iH after
 clear after
 by_cases hc1 : c = i + 1
 ·subst hc1
  obtain rfl : m = i := by omega
  have hLD0 : LD = [] := List.eq_nil_of_length_eq_zero (by rw [LDL.out]; omega)
  have HL0 := iH hLD0
  have F2 : RowKit.Hid (m * 3 <= R.length) := iH (by have := F1.out.2; omega)
  clear hLD0
  have hx7 : (m : Int) <= (m : Int) + 1 := by omega
  go_enter Tryz.func161, Tryz.ntmps161
  go_wp2
  go_region_law (refine yqj rfl (.tmp 22) (.tmp 25) 93 93 rfl 99 i0 3 Tryz.underlying93 hi0 hz1 g m (m + 1) (by simp [Act.eval, Act.put]) (.slice (some ⟨g, 0, none⟩) 0 0) 0 [] (by simp [Act.eval, Act.put]) (Src.ofSlice _ Tryz.underlying93 ⟨g, 0, none⟩ 0 0 [] (by simp) (by simp) (by simp)) (by omega) R HR.out (by simpa using F2.out) ?_; rw [show m + 0 = m by omega]; intro w3 HG3 HF3)
  obtain ⟨w4, hr4, post4⟩ := AFT.out w3 (by rw [HL0.out]; exact HG3.out) ((Fo.refl _ w).drew.trans HF3.out)
  rw [show m + 1 - m = 1 by omega] at hr4
  have P4 := iH post4; have HR4 := iH hr4
  clear post4 hr4
  go_wp2_with (refine xqN _ rfl (.tmp 31) 93 rfl _ rfl w4 (HR4.out _) ?_)
  go_ret
  exact P4.out
 ·go_enter Tryz.func161, Tryz.ntmps161
  go_wp2
  go_region_law (refine yqj rfl (.tmp 22) (.tmp 25) 93 93 rfl 99 i0 3 Tryz.underlying93 hi0 hz1 g i c (by simp [Act.eval, Act.put]) (.slice (some ⟨g, (i + 1) * 3, none⟩) (m - i) (c - (i + 1))) (m - i) LD (by simp [Act.eval, Act.put]) (Src.ofSlice _ Tryz.underlying93 ⟨g, (i + 1) * 3, none⟩ (m - i) (c - (i + 1)) LD LDL.out (fun j u hj => by rw [Addr.add_lit]; exact LDC.out j u hj) LD1.out) (by omega) R HR.out (by rw [LDL.out]; have := F1.out.1; omega) ?_; rw [show i + (m - i) = m by omega]; intro w3 HG3 HF3)
  obtain ⟨w4, hr4, post4⟩ := AFT.out w3 HG3.out ((Fo.refl _ w).drew.trans HF3.out)
  have P4 := iH post4; have HR4 := iH hr4
  clear post4 hr4
  go_wp2_with (refine xqN _ rfl (.tmp 31) 93 rfl _ rfl w4 (HR4.out _) ?_)
  go_ret
  exact P4.out
theorem cclone_any (v : Value) (m : List Cu) (w : World) (h : RdK encCu w v m) (hl : m.length <= 1000) :
 Calls Tryz.prog 103 #[v] w fun e w' => ∃ v', e = .returned v' /\ OwnK encCu w' w.heap.size 99 v' m /\ Kept w w' [] := by
 obtain ⟨i0, hi, hz0, hz1, hz2⟩ := info_parts Tryz.infoCu
 obtain ⟨a, c, rfl, hc, ha, hcell⟩ := id h
 have H := iH h; clear h hcell
 have q22 : ∀ (w : World) (a : Option Addr) (n c n' c' : Nat), (binOp .eql 93 (.slice a n c) (.slice none n' c')).run Tryz.prog w = .ok (.bool a.isNone) w := fun w a n c n' c' => Lib.run_eql_slice_nil w _ _ a n c n' c' Tryz.underlying93
 cases a with
 | none =>
 obtain rfl := ha rfl
 obtain rfl : m = [] := List.eq_nil_of_length_eq_zero (by omega)
 clear ha
 go_enter Tryz.func103, Tryz.ntmps103
 go_wp2
 go_ret
 exact ⟨_, rfl, OwnK.nil _ _ _, Kept.refl _ _⟩
 | some x =>
  clear ha
  go_enter Tryz.func103, Tryz.ntmps103
  go_wp2_with (at_builtin; refine xqe _ rfl (.tmp 5) (.tmp 6) 93 93 rfl w.heap.size 99 i0 _ 3 32 Tryz.underlying93 hi hz0 hz1 hz2 rfl (.slice (some ⟨w.heap.size, 0, none⟩) 0 0) 0 [] rfl ?hown (.slice (some x) m.length c) m.length (kcs encCu m) rfl ?src ?b1 ?b2 ?base ?next)
  case hown => exact World.ownsRow_made w #[] 0 (Nat.le_refl _) (Nat.zero_le _) (by simp)
  case src => exact (H.out.keep ((Kept.refl w []).alloc _)).src Tryz.underlying93
  case b1 => unfold maxLen; omega
  case b2 => omega
  case base => simp
  case next =>
  intro v2 w2 hown hgrow _ _
  have ho : OwnK encCu w2 w.heap.size 99 v2 m := by unfold OwnK; show w2.ownsRow _ _ 3 _ _ _; simpa using hown
  have hk : Kept w w2 [] := ((Kept.refl w []).alloc _).grown hgrow (fun k hk => .inr (by simp [Value.ownBlock] at hk; omega))
  have Ho := iH ho; have Hk := iH hk
  clear ho hk hown hgrow
  go_wp2
  go_ret
  exact ⟨_, rfl, Ho.out, Hk.out⟩
end Go.Proofs.YticiofkiffgclaaGreat
