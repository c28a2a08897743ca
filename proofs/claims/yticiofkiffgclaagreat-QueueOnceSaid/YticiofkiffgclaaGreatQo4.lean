/-
  Cub, Cus, Cui in one text.
-/
import Derived.Test.YticiofkiffgclaaGreatRows
import Derived.Test.YticiofkiffgclaaGreatQo3
import Derived.Lib.Bytealg
import Derived.Lib.SliceRun
import Derived.LoopTactic
import Derived.Shelf.Abstract
import Derived.Deep.QuietTactic
import Derived.BigQuiet
import Derived.RegionTactic
import Derived.Deep.RegionLaw
namespace Go.Proofs.YticiofkiffgclaaGreat
set_option linter.unusedVariables false
open Go.RowKit

theorem cb_lt : ∀ l m : List UInt8, (Lib.compareBytes l m < 0 ↔ Op.bytesLess l m = true)
  | [], [] => by simp [Lib.compareBytes, Op.bytesLess]
  | [], _ :: _ => by simp [Lib.compareBytes, Op.bytesLess]
  | _ :: _, [] => by simp [Lib.compareBytes, Op.bytesLess]
  | a :: l, b :: m => by
    rw [Lib.compareBytes, Op.bytesLess]
    by_cases h : a < b
    · simp [h]
    · by_cases k : b < a
      · have e : (a == b) = false := by
          rw [beq_eq_false_iff_ne]
          rintro rfl
          exact h k
        simp [h, k, e]
      · obtain rfl : a = b := UInt8.le_antisymm (UInt8.not_lt.1 k) (UInt8.not_lt.1 h)
        simp [h, cb_lt l m]
theorem cb_zero : ∀ l m : List UInt8, (Lib.compareBytes l m = 0 ↔ l = m)
  | [], [] => by simp [Lib.compareBytes]
  | [], _ :: _ => by simp [Lib.compareBytes]
  | _ :: _, [] => by simp [Lib.compareBytes]
  | a :: l, b :: m => by
    rw [Lib.compareBytes]
    by_cases h : a < b
    · have e : a ≠ b := by rintro rfl; exact absurd h (UInt8.lt_irrefl a)
      simp [h, e]
    · by_cases k : b < a
      · have e : a ≠ b := by rintro rfl; exact h k
        simp [h, k, e]
      · obtain rfl : a = b := UInt8.le_antisymm (UInt8.not_lt.1 k) (UInt8.not_lt.1 h)
        simp [h, cb_zero l m]

def cmpN (a b : ByteArray) : Int := Lib.compareBytes a.data.toList b.data.toList
theorem cmpN_lt {a b : ByteArray} : cmpN a b < 0 ↔ ltN a b = true := by rw [cmpN, cb_lt, ltN, ByteArray.toList_eq, ByteArray.toList_eq]
theorem cmpN_zero {a b : ByteArray} : cmpN a b = 0 ↔ a = b := by
  rw [cmpN, cb_zero]
  constructor
  · intro h
    cases a; cases b
    simp only at h
    congr 1
    exact Array.toList_inj.1 h
  · intro h; rw [h]

def ahd (l : List Cu) (n : ByteArray) : Nat := l.countP fun x => ltN x.nm n
theorem ahd_le (l : List Cu) (n : ByteArray) : ahd l n ≤ l.length := List.countP_le_length
theorem ahd_eq : ∀ {l : List Cu} {n : ByteArray} {i : Nat}, i ≤ l.length → (∀ j y, j < i → l[j]? = some y → ltN y.nm n = true) → (∀ j y, i ≤ j → l[j]? = some y → ltN y.nm n = false) → ahd l n = i
  | [], n, i, hi, _, _ => by simp at hi; subst hi; rfl
  | x :: t, n, 0, hi, _, h2 => by
    unfold ahd
    rw [List.countP_eq_zero]
    intro y hy
    obtain ⟨j, hj, rfl⟩ := List.mem_iff_getElem.1 hy
    rw [h2 j _ (Nat.zero_le _) (List.getElem?_eq_getElem hj)]
    simp
  | x :: t, n, i + 1, hi, h1, h2 => by
    have hx := h1 0 x (by omega) rfl
    have ih := ahd_eq (l := t) (n := n) (i := i) (by simpa using hi) (fun j y hj hy => h1 (j + 1) y (by omega) (by simpa using hy)) (fun j y hj hy => h2 (j + 1) y (by omega) (by simpa using hy))
    unfold ahd at ih ⊢
    rw [List.countP_cons_of_pos (by exact hx), ih]

theorem nms_lt {l : List Cu} (h : Nms l) {n : ByteArray} {i j : Nat} {x y : Cu} (hij : i ≤ j) (hx : l[i]? = some x) (hy : l[j]? = some y) (hl : ltN y.nm n = true) : ltN x.nm n = true := by
  rcases Nat.lt_or_ge i j with c | c
  · obtain ⟨hi, rfl⟩ := List.getElem?_eq_some_iff.1 hx
    obtain ⟨hj, rfl⟩ := List.getElem?_eq_some_iff.1 hy
    exact bl_trans _ _ _ (List.pairwise_iff_getElem.1 h i j hi hj c) hl
  · obtain rfl : i = j := by omega
    rw [hx] at hy
    cases hy
    exact hl

theorem plc_found {l : List Cu} (h : Nms l) {n : ByteArray} {x : Cu} (hx : l[ahd l n]? = some x) (hn : x.nm = n) : plc l n = some (ahd l n) := by
  refine plc_hit hx (isN_iff.2 hn) (fun j y hj hy => ?_)
  cases hc : isN n y with
  | false => rfl
  | true => have := nms_one h hx hy (hn.trans (isN_iff.1 hc).symm); omega
theorem plc_lost {l : List Cu} (h : Nms l) {n : ByteArray} (h1 : ∀ j y, j < ahd l n → l[j]? = some y → ltN y.nm n = true) (h2 : ∀ y, l[ahd l n]? = some y → y.nm ≠ n) : plc l n = none := by
  refine plc_miss (fun j y hj hy => ?_)
  cases hc : isN n y with
  | false => rfl
  | true =>
    have e := isN_iff.1 hc
    rcases Nat.lt_trichotomy j (ahd l n) with c | c | c
    · have := h1 j y c hy
      rw [e, ltN, bl_irrefl] at this
      cases this
    · subst c; exact absurd e (h2 y hy)
    · obtain ⟨hj', rfl⟩ := List.getElem?_eq_some_iff.1 hy
      have hz := List.pairwise_iff_getElem.1 h (ahd l n) j (by omega) hj' c
      have h3 : ahd l n + 1 ≤ ahd l n := by
        have : (l.take (ahd l n + 1)).countP (fun x => ltN x.nm n) = ahd l n + 1 := by
          have hl : (l.take (ahd l n + 1)).length = ahd l n + 1 := by rw [List.length_take]; omega
          conv => rhs; rw [← hl]
          rw [List.countP_eq_length]
          intro x hx
          obtain ⟨q, hq, rfl⟩ := List.mem_iff_getElem.1 hx
          rw [List.getElem_take]
          rw [hl] at hq
          by_cases hqa : q < ahd l n
          · exact h1 q _ hqa (List.getElem?_eq_getElem _)
          · obtain rfl : q = ahd l n := by omega
            rw [e] at hz; exact hz
        conv => rhs; rw [ahd, ← List.take_append_drop (ahd l n + 1) l, List.countP_append]
        omega
      omega

theorem OwnK.three {w : World} {base : Nat} {e : TypeId} {g n c : Nat} {l : List Cu} (h : OwnK encCu w base e (.slice (some ⟨g, 0, none⟩) n c) l) {k : Nat} {x : Cu} (hx : l[k]? = some x) :
    w.cell? ⟨g, k * 3, none⟩ = some (.string x.nm) ∧ w.cell? ⟨g, k * 3 + 1, none⟩ = some (.int .i64 x.la) ∧ w.cell? ⟨g, k * 3 + 2, none⟩ = some (.int .i64 x.op) := by
  obtain ⟨g', hg, hc⟩ := h.at hx
  simp only [Option.some.injEq, Addr.mk.injEq] at hg
  obtain ⟨rfl, _⟩ := hg
  exact ⟨(hc 0 (by decide)).1, (hc 1 (by decide)).1, (hc 2 (by decide)).1⟩
theorem OwnK.threeF {w : World} {base : Nat} {e : TypeId} {g n c : Nat} {l : List Cu} (h : OwnK encCu w base e (.slice (some ⟨g, 0, none⟩) n c) l) {k : Nat} {x : Cu} (hx : l[k]? = some x) :
    w.frozen? ⟨g, k * 3, none⟩ = false ∧ w.frozen? ⟨g, k * 3 + 1, none⟩ = false ∧ w.frozen? ⟨g, k * 3 + 2, none⟩ = false := by
  obtain ⟨g', hg, hc⟩ := h.at hx
  simp only [Option.some.injEq, Addr.mk.injEq] at hg
  obtain ⟨rfl, _⟩ := hg
  exact ⟨(hc 0 (by decide)).2, (hc 1 (by decide)).2, (hc 2 (by decide)).2⟩

set_option maxHeartbeats 1000000 in
set_option maxRecDepth 100000 in
theorem cmpstr_any (a b : ByteArray) (w : World) : Calls Tryz.prog 199 #[.string a, .string b] w fun e w' => e = .returned (.int .i64 (cmpN a b)) ∧ w' = w := by
  go_enter Tryz.func199, Tryz.ntmps199
  go_wp2
  rw [run_callFunc_extern Tryz.func218 (by kernel_rfl) (by kernel_rfl) (by kernel_rfl) (e := Extern.BytealgCompare.compare) (by kernel_rfl), Lib.run_compareString]
  simp only [Result.andThen]
  rw [Oper.upon_value]
  go_wp2
  go_ret
  exact ⟨rfl, rfl⟩

set_option maxHeartbeats 1000000 in
theorem compare_any (a b : ByteArray) (w : World) : Calls Tryz.prog 178 #[.string a, .string b] w fun e w' => e = .returned (.int .i64 (cmpN a b)) ∧ w' = w := by
  go_enter Tryz.func178, Tryz.ntmps178
  go_wp2_with (go_at_call 199; refine (cmpstr_any _ _ _).mono ?_; rintro e w' ⟨rfl, rfl⟩)
  go_ret
  exact ⟨rfl, rfl⟩

set_option maxHeartbeats 1000000 in
theorem closure_any (x : Cu) (n : ByteArray) (w : World) : Calls Tryz.prog 177 #[.agg x.cs, .string n] w fun e w' => e = .returned (.int .i64 (cmpN x.nm n)) ∧ Kept w w' [] := by
  obtain ⟨b0, b1, b2⟩ := x
  simp only [Cu.cs]
  go_enter Tryz.func177, Tryz.ntmps177
  go_wp2_with (go_at_call 178; refine (compare_any _ _ _).mono ?_; rintro e w' ⟨rfl, rfl⟩)
  go_ret
  exact ⟨rfl, (Kept.refl w []).alloc _⟩


end Go.Proofs.YticiofkiffgclaaGreat

namespace Go.Proofs.YticiofkiffgclaaGreat
set_option linter.unusedVariables false
open Go.RowKit

theorem retib {a : Int} {b c : Bool} (h : b = c) : Ending.returned (.tuple #[.int .i64 a, .bool b]) = .returned (.tuple #[.int .i64 a, .bool c]) := by rw [h]

set_option maxHeartbeats 2000000 in
set_option maxRecDepth 100000 in
theorem csearch_any (v : Value) (l : List Cu) (n : ByteArray) (w : World) {base : Nat} {e : TypeId} (h : OwnK encCu w base e v l) (hs : Nms l) (hlen : l.length ≤ 1000000) :
    Calls Tryz.prog 176 #[v, .string n, .func (.func 177) #[] #[]] w fun e w' =>
      e = .returned (.tuple #[.int .i64 (ahd l n), .bool (plc l n).isSome]) ∧ Kept w w' [] := by
  have ec : ∀ args w, (callFunc 177 args).run Tryz.prog w = .ok (.enter 177 args) w := enters_of Tryz.func177 (by kernel_rfl) rfl
  rcases id h.2 with ⟨rfl, h0⟩ | ⟨g, cap, cur, rfl, _⟩
  · obtain rfl : l = [] := List.eq_nil_of_length_eq_zero h0
    clear h
    go_enter Tryz.func176, Tryz.ntmps176
    go_wp2
    go_loop [9, 10] (fun t s => t = .int .i64 0 ∧ s = .int .i64 0) (fun _ _ => 0)
    case atStart => exact ⟨rfl, rfl⟩
    case round =>
      obtain ⟨rfl, rfl⟩ := hrel
      go_wp2
      go_ret2
      exact ⟨rfl, Kept.refl w []⟩
  · have H := Lib.hid h; have S := Lib.hid hs
    clear h hs
    go_enter Tryz.func176, Tryz.ntmps176
    go_wp2
    go_loopw [9, 10] (fun t s wr => ∃ i j : Nat, t = .int .i64 i ∧ s = .int .i64 j ∧ i ≤ j ∧ j ≤ l.length ∧ (∀ q y, q < i → l[q]? = some y → ltN y.nm n = true) ∧ (∀ q y, j ≤ q → l[q]? = some y → ltN y.nm n = false) ∧ Kept w wr []) (fun t s _ => (intOf s).toNat - (intOf t).toNat)
    case atStart =>
      refine ⟨0, l.length, rfl, rfl, Nat.zero_le _, Nat.le_refl _, fun q y hq => absurd hq (Nat.not_lt_zero _), fun q y h1 h2 => ?_, Kept.refl w []⟩
      have := (List.getElem?_eq_some_iff.1 h2).1
      omega
    case round =>
      obtain ⟨i, j, rfl, rfl, hij, hj, hL, hR, hk⟩ := hrel
      have L := Lib.hid hL; have R := Lib.hid hR; have K := Lib.hid hk
      clear hL hR hk
      by_cases hlt : i < j
      · have x1 : (i : Int) < (j : Int) := by omega
        obtain ⟨k, hk⟩ : ∃ k : Nat, k = (i + j) / 2 := ⟨_, rfl⟩
        have hk1 : i ≤ k := by omega
        have hk2 : k < j := by omega
        obtain ⟨x, hx⟩ : ∃ x, l[k]? = some x := ⟨_, List.getElem?_eq_getElem (by omega)⟩
        obtain ⟨c0, c1, c2⟩ := (H.out.kept K.out (by simp)).three hx
        have X := Lib.hid hx
        have x2 : (k : Int) < (l.length : Int) := by omega
        have e3 : ((i : Int) + (j : Int)) / 2 = (k : Int) := by omega
        have e2 : ((i : Int) + (j : Int)) % 18446744073709551616 = (i : Int) + (j : Int) := by clear c0 c1 c2; omega
        have call := closure_any x n wr
        obtain ⟨z, hz⟩ : ∃ z, z = cmpN x.nm n := ⟨_, rfl⟩
        rw [← hz] at call
        have Hz := Lib.hid hz
        obtain ⟨b0, b1, b2⟩ := x
        simp only [Cu.cs] at c0 c1 c2 call
        clear hz hk hx
        by_cases hzl : z < 0
        · go_wp2_with (go_at_fn 177; refine call.mono ?_; rintro e w2 ⟨rfl, k2⟩)
          go_roundw
          case rel => exact ⟨k + 1, j, by go_num, rfl, by omega, by omega, fun q y hq hy => nms_lt S.out (by omega) hy X.out (cmpN_lt.1 (by rw [← Hz.out]; exact hzl)), R.out, K.out.trans k2 (by simp)⟩
          case measure => simp [intOf]; omega
        · go_wp2_with (go_at_fn 177; refine call.mono ?_; rintro e w2 ⟨rfl, k2⟩)
          go_roundw
          case rel =>
            refine ⟨i, k, rfl, rfl, by omega, by omega, L.out, fun q y hq hy => ?_, K.out.trans k2 (by simp)⟩
            cases hc : ltN y.nm n with
            | false => rfl
            | true => exact absurd (cmpN_lt.2 (nms_lt S.out hq X.out hy hc)) (by rw [← Hz.out]; omega)
          case measure => simp [intOf]; omega
      · have x1 : ¬ (i : Int) < (j : Int) := by omega
        obtain rfl : i = j := by omega
        have EA := Lib.hid (ahd_eq (l := l) (n := n) hj L.out R.out)
        by_cases hil : i < l.length
        · obtain ⟨x, hx⟩ : ∃ x, l[i]? = some x := ⟨_, List.getElem?_eq_getElem hil⟩
          obtain ⟨c0, c1, c2⟩ := (H.out.kept K.out (by simp)).three hx
          have X := Lib.hid hx
          have x2 : (i : Int) < (l.length : Int) := by omega
          have call := closure_any x n wr
          have fin : ((cmpN x.nm n == 0) = (plc l n).isSome) := by
            by_cases hxn : x.nm = n
            · rw [plc_found S.out (by rw [EA.out]; exact hx) hxn, cmpN_zero.2 hxn]; rfl
            · rw [plc_lost S.out (by rw [EA.out]; exact L.out) (by rw [EA.out, hx]; rintro y hy; cases hy; exact hxn)]
              simp [cmpN_zero, hxn]
          obtain ⟨z, hz⟩ : ∃ z, z = cmpN x.nm n := ⟨_, rfl⟩
          rw [← hz] at call fin
          have FIN := Lib.hid fin
          obtain ⟨b0, b1, b2⟩ := x
          simp only [Cu.cs] at c0 c1 c2 call
          clear hx fin hz
          go_wp2_with (go_at_fn 177; refine call.mono ?_; rintro e w2 ⟨rfl, k2⟩)
          go_ret2
          rw [EA.out]
          exact ⟨retib FIN.out, K.out.trans k2 (by simp)⟩
        · have x2 : ¬ (i : Int) < (l.length : Int) := by omega
          have P0 := Lib.hid (plc_lost S.out (by rw [EA.out]; exact L.out) (by rw [EA.out]; intro y hy; have := (List.getElem?_eq_some_iff.1 hy).1; omega))
          go_wp2
          go_ret2
          rw [EA.out, P0.out]
          exact ⟨rfl, K.out⟩

end Go.Proofs.YticiofkiffgclaaGreat

namespace Go.Proofs.YticiofkiffgclaaGreat
set_option linter.unusedVariables false
open Go.RowKit

theorem Tryz.infoCu : (Tryz.prog.info? 99).map (fun i => (i.zero, i.size, i.bytes)) = some (some (.agg #[.string ⟨#[]⟩, .int .i64 0, .int .i64 0]), 3, 32) := by kernel_rfl

def InsPost (w : World) (B : Nat) (v : Value) (l : List Cu) (i : Nat) (x : Cu) (e : Ending) (w' : World) : Prop :=
  ∃ v', e = .returned v' ∧ OwnK encCu w' B 99 v' (l.take i ++ x :: l.drop i) ∧ Fo (fun k => v.ownBlock = some k) w w' ∧ ∀ k, v'.ownBlock = some k → v.ownBlock = some k ∨ w.heap.size ≤ k

theorem src_x {w : World} {xb : Nat} {x : Cu} (hx : w.heap[xb]? = some (.cells x.cs 99 (0, 0))) : Src Tryz.prog 3 93 (.slice (some ⟨xb, 0, none⟩) 1 1) 1 x.cs.toList w := by
  have := (rdK_one (E := encCu) (x := x) hx).src (P := Tryz.prog) (tx := 93) Tryz.underlying93
  rw [kcs_single] at this
  exact this

set_option maxHeartbeats 1000000 in
set_option maxRecDepth 100000 in
theorem cinsert_end (v : Value) (l : List Cu) (x : Cu) (xb : Nat) (w : World) (B : Nat) (h : OwnK encCu w B 99 v l) (hB : B ≤ w.heap.size) (hx : w.heap[xb]? = some (.cells x.cs 99 (0, 0))) (hl : l.length ≤ 1000) :
    Calls Tryz.prog 135 #[v, .int .i64 l.length, .slice (some ⟨xb, 0, none⟩) 1 1] w (InsPost w B v l l.length x) := by
  obtain ⟨i0, hi0, hz0, hz1, hz2⟩ := info_parts Tryz.infoCu
  have SRC := Lib.hid (src_x hx)
  have H := Lib.hid h
  have fin : ∀ v2 w2, w2.ownsRow B 99 3 v2 (l.length + 1) (kcs encCu l ++ x.cs.toList) → w.grownBy w2 v.ownBlock → (v2.ownBlock = v.ownBlock ∨ ∃ g, v2.ownBlock = some g ∧ w.heap.size ≤ g) → InsPost w B v l l.length x (.returned v2) w2 := by
    intro v2 w2 ho hg hp
    refine ⟨v2, rfl, ?_, (Fo.refl _ w).grown hg (fun k hk => .inl hk), fun k hk => ?_⟩
    · rw [List.take_length, List.drop_length]; exact ownK_snoc ho
    · rcases hp with hp | ⟨g, hg, hgs⟩
      · exact .inl (by rw [← hp]; exact hk)
      · rw [hg] at hk; cases hk; exact .inr hgs
  have FIN := Lib.hid fin
  rcases h.2 with ⟨rfl, h0⟩ | ⟨g, cap, cur, rfl, _, _, hnc, _, _, _⟩
  · obtain rfl : l = [] := List.eq_nil_of_length_eq_zero h0
    clear h hx fin
    simp only [List.length_nil] at *
    go_enter Tryz.func135, Tryz.ntmps135
    go_wp2_with (at_builtin; refine wpList_append_all _ rfl (.tmp 23) (.tmp 24) 93 93 rfl B 99 i0 _ 3 32 Tryz.underlying93 hi0 hz0 hz1 hz2 rfl (.slice none 0 0) 0 [] rfl H.out (.slice (some ⟨xb, 0, none⟩) 1 1) 1 x.cs.toList rfl SRC.out ?b1 ?b2 hB ?next)
    case b1 => unfold maxLen; omega
    case b2 => omega
    case next =>
      intro v2 w2 hown _ hgrow hpl
      have F := Lib.hid (FIN.out v2 w2 hown hgrow hpl)
      clear hown hgrow hpl
      go_wp2
      go_ret
      exact F.out
  · clear h hx fin
    by_cases hcl : cap = l.length
    · subst hcl
      go_enter Tryz.func135, Tryz.ntmps135
      go_wp2_with (at_builtin; refine wpList_append_all _ rfl (.tmp 23) (.tmp 24) 93 93 rfl B 99 i0 _ 3 32 Tryz.underlying93 hi0 hz0 hz1 hz2 rfl (.slice (some ⟨g, 0, none⟩) l.length l.length) l.length (kcs encCu l) rfl H.out (.slice (some ⟨xb, 0, none⟩) 1 1) 1 x.cs.toList rfl SRC.out ?b1 ?b2 hB ?next)
      case b1 => unfold maxLen; omega
      case b2 => omega
      case next =>
        intro v2 w2 hown _ hgrow hpl
        have F := Lib.hid (FIN.out v2 w2 hown hgrow hpl)
        clear hown hgrow hpl
        go_wp2
        go_ret
        exact F.out
    · go_enter Tryz.func135, Tryz.ntmps135
      go_wp2_with (at_builtin; refine wpList_append_all _ rfl (.tmp 23) (.tmp 24) 93 93 rfl B 99 i0 _ 3 32 Tryz.underlying93 hi0 hz0 hz1 hz2 rfl (.slice (some ⟨g, 0, none⟩) l.length cap) l.length (kcs encCu l) rfl H.out (.slice (some ⟨xb, 0, none⟩) 1 1) 1 x.cs.toList rfl SRC.out ?b1 ?b2 hB ?next)
      case b1 => unfold maxLen; omega
      case b2 => omega
      case next =>
        intro v2 w2 hown _ hgrow hpl
        have F := Lib.hid (FIN.out v2 w2 hown hgrow hpl)
        clear hown hgrow hpl
        go_wp2
        go_ret
        exact F.out

end Go.Proofs.YticiofkiffgclaaGreat
