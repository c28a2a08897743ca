/-
  slices.BinarySearchFunc on consumers.
-/
import Derived.Test.YtnoiomaoignndaaCub
namespace Go.Proofs.Ytnoiomaoignndaa
set_option linter.unusedVariables false
open Go.RowKit

theorem retib {a : Int} {b c : Bool} (h : b = c) : Ending.returned (.tuple #[.int .i64 a, .bool b]) = .returned (.tuple #[.int .i64 a, .bool c]) := by rw [h]

set_option maxHeartbeats 2000000 in
set_option maxRecDepth 100000 in
theorem csearch_any (v : Value) (l : List Cu) (n : ByteArray) (w : World) {base : Nat} {e : TypeId} (h : OwnK encCu w base e v l) (hs : Nms l) (hlen : l.length ≤ 1000000) :
    Calls Try.prog 31 #[v, .string n, .func (.func 32) #[] #[]] w fun e w' =>
      e = .returned (.tuple #[.int .i64 (ahd l n), .bool (plc l n).isSome]) ∧ Kept w w' [] := by
  have ec : ∀ args w, (callFunc 32 args).run Try.prog w = .ok (.enter 32 args) w := enters_of Try.func32 (by kernel_rfl) rfl
  rcases id h.2 with ⟨rfl, h0⟩ | ⟨g, cap, cur, rfl, _⟩
  · obtain rfl : l = [] := List.eq_nil_of_length_eq_zero h0
    clear h
    go_enter Try.func31, Try.ntmps31
    go_wp2
    go_loop [9, 10] (fun t s => t = .int .i64 0 ∧ s = .int .i64 0) (fun _ _ => 0)
    case atStart => exact ⟨rfl, rfl⟩
    case round =>
      obtain ⟨rfl, rfl⟩ := hrel
      go_wp2
      go_ret2
      exact ⟨rfl, Kept.refl w []⟩
  · have H := Lib.hid h; have S := Lib.hid hs
    clear h hs
    go_enter Try.func31, Try.ntmps31
    go_wp2
    go_loopw [9, 10] (fun t s wr => ∃ i j : Nat, t = .int .i64 i ∧ s = .int .i64 j ∧ i ≤ j ∧ j ≤ l.length ∧ (∀ q y, q < i → l[q]? = some y → ltN y.nm n = true) ∧ (∀ q y, j ≤ q → l[q]? = some y → ltN y.nm n = false) ∧ Kept w wr []) (fun t s _ => (intOf s).toNat - (intOf t).toNat)
    case atStart =>
      refine ⟨0, l.length, rfl, rfl, Nat.zero_le _, Nat.le_refl _, fun q y hq => absurd hq (Nat.not_lt_zero _), fun q y h1 h2 => ?_, Kept.refl w []⟩
      have := (List.getElem?_eq_some_iff.1 h2).1
      omega
    case round =>
      obtain ⟨i, j, rfl, rfl, hij, hj, hL, hR, hk⟩ := hrel
      have L := Lib.hid hL; have R := Lib.hid hR; have K := Lib.hid hk
      clear hL hR hk
      by_cases hlt : i < j
      · have x1 : (i : Int) < (j : Int) := by omega
        obtain ⟨k, hk⟩ : ∃ k : Nat, k = (i + j) / 2 := ⟨_, rfl⟩
        have hk1 : i ≤ k := by omega
        have hk2 : k < j := by omega
        obtain ⟨x, hx⟩ : ∃ x, l[k]? = some x := ⟨_, List.getElem?_eq_getElem (by omega)⟩
        obtain ⟨c0, c1, c2⟩ := (H.out.kept K.out (by simp)).three hx
        have X := Lib.hid hx
        have x2 : (k : Int) < (l.length : Int) := by omega
        have e3 : ((i : Int) + (j : Int)) / 2 = (k : Int) := by omega
        have e2 : ((i : Int) + (j : Int)) % 18446744073709551616 = (i : Int) + (j : Int) := by clear c0 c1 c2; omega
        have call := closure_any x n wr
        obtain ⟨z, hz⟩ : ∃ z, z = cmpN x.nm n := ⟨_, rfl⟩
        rw [← hz] at call
        have Hz := Lib.hid hz
        obtain ⟨b0, b1, b2⟩ := x
        simp only [Cu.cs] at c0 c1 c2 call
        clear hz hk hx
        by_cases hzl : z < 0
        · go_wp2_with (go_at_fn 32; refine call.mono ?_; rintro e w2 ⟨rfl, k2⟩)
          go_roundw
          case rel => exact ⟨k + 1, j, by go_num, rfl, by omega, by omega, fun q y hq hy => nms_lt S.out (by omega) hy X.out (cmpN_lt.1 (by rw [← Hz.out]; exact hzl)), R.out, K.out.trans k2 (by simp)⟩
          case measure => simp [intOf]; omega
        · go_wp2_with (go_at_fn 32; refine call.mono ?_; rintro e w2 ⟨rfl, k2⟩)
          go_roundw
          case rel =>
            refine ⟨i, k, rfl, rfl, by omega, by omega, L.out, fun q y hq hy => ?_, K.out.trans k2 (by simp)⟩
            cases hc : ltN y.nm n with
            | false => rfl
            | true => exact absurd (cmpN_lt.2 (nms_lt S.out hq X.out hy hc)) (by rw [← Hz.out]; omega)
          case measure => simp [intOf]; omega
      · have x1 : ¬ (i : Int) < (j : Int) := by omega
        obtain rfl : i = j := by omega
        have EA := Lib.hid (ahd_eq (l := l) (n := n) hj L.out R.out)
        by_cases hil : i < l.length
        · obtain ⟨x, hx⟩ : ∃ x, l[i]? = some x := ⟨_, List.getElem?_eq_getElem hil⟩
          obtain ⟨c0, c1, c2⟩ := (H.out.kept K.out (by simp)).three hx
          have X := Lib.hid hx
          have x2 : (i : Int) < (l.length : Int) := by omega
          have call := closure_any x n wr
          have fin : ((cmpN x.nm n == 0) = (plc l n).isSome) := by
            by_cases hxn : x.nm = n
            · rw [plc_found S.out (by rw [EA.out]; exact hx) hxn, cmpN_zero.2 hxn]; rfl
            · rw [plc_lost S.out (by rw [EA.out]; exact L.out) (by rw [EA.out, hx]; rintro y hy; cases hy; exact hxn)]
              simp [cmpN_zero, hxn]
          obtain ⟨z, hz⟩ : ∃ z, z = cmpN x.nm n := ⟨_, rfl⟩
          rw [← hz] at call fin
          have FIN := Lib.hid fin
          obtain ⟨b0, b1, b2⟩ := x
          simp only [Cu.cs] at c0 c1 c2 call
          clear hx fin hz
          go_wp2_with (go_at_fn 32; refine call.mono ?_; rintro e w2 ⟨rfl, k2⟩)
          go_ret2
          rw [EA.out]
          exact ⟨retib FIN.out, K.out.trans k2 (by simp)⟩
        · have x2 : ¬ (i : Int) < (l.length : Int) := by omega
          have P0 := Lib.hid (plc_lost S.out (by rw [EA.out]; exact L.out) (by rw [EA.out]; intro y hy; have := (List.getElem?_eq_some_iff.1 hy).1; omega))
          go_wp2
          go_ret2
          rw [EA.out, P0.out]
          exact ⟨rfl, K.out⟩

end Go.Proofs.Ytnoiomaoignndaa
