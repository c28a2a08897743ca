/-
  Eoh in one text.
-/
import Derived.Test.YtjdbmlifekghfaaEr15
import Derived.Lib.ConvBytes
namespace Go.Proofs.Ytjdbmlifekghfaa
set_option linter.unusedVariables false
open Go.RowKit

theorem conv_str (w : World) (s : ByteArray) : ∃ c w', (convert 9 22 (.string s)).run Try.prog w = .ok (.slice (some ⟨w.heap.size, 0, none⟩) s.size c) w' ∧ Rd w' (.slice (some ⟨w.heap.size, 0, none⟩) s.size c) s.data.toList ∧ Kept w w' [] := by
  refine ⟨_, _, Lib.run_convert_string_bytes (P := Try.prog) w 9 22 5 s Try.underlying9 Try.underlying22 Try.underlying5, ⟨some ⟨w.heap.size, 0, none⟩, _, by rw [size_list], ?_, by simp, fun _ => ⟨w.heap.size, 0, rfl, fun i hi => ?_⟩⟩, ⟨rfl, rfl, rfl, ?_, fun k hk _ => Lib.bytesWorld_at_old w _ s k hk⟩⟩
  · rw [size_list]; exact grownCap_ge w s.size 0 _
  · rw [size_list] at hi
    have := Lib.bytesWorld_cell w 5 s i hi
    rw [Nat.zero_add]
    exact this
  · have := Lib.bytesWorld_size w 5 s; omega

def evE (e : Int) (l : List UInt8) : Int := if (rText 400 e l).2.2 = 0 then dErr (rText 400 e l).1 else (rText 400 e l).2.2
def evL (e : Int) (l : List UInt8) : List UInt8 := if (rText 400 e l).2.2 = 0 then (if dErr (rText 400 e l).1 = 0 then (rText 400 e l).2.1 else []) else (rText 400 e l).2.1

set_option maxHeartbeats 2000000 in
set_option maxRecDepth 100000 in
theorem zev_any (q r c : Nat) (e : Int) (l : List UInt8) (w : World) (h : Zs w q r c e l) (hc : c < w.heap.size) :
    Calls Try.prog 85 #[.pointer (some ⟨q, 0, none⟩)] w fun en w' => ∃ E : Ev, en = .returned (.agg E.cs) ∧ Zs w' q r c (evE e l) (evL e l) ∧ Kept w w' [q, r] ∧ (evE e l = 0 → E = dEv (rText 400 e l).1) := by
  have hlt := h.lt
  obtain ⟨W1, hW1⟩ : ∃ W1, W1 = w.alloc (.cells #[.int .i64 0, .int .i64 0, .string ⟨#[]⟩, .int .i64 0, .int .i64 0, .int .u8 0, .int .i64 0, .string ⟨#[]⟩] 69) := ⟨_, rfl⟩
  have k1 : Kept w W1 [] := by rw [hW1]; exact (Kept.refl w []).alloc _
  have b1 : W1.heap[w.heap.size]? = some (.cells #[.int .i64 0, .int .i64 0, .string ⟨#[]⟩, .int .i64 0, .int .i64 0, .int .u8 0, .int .i64 0, .string ⟨#[]⟩] 69 (0, 0)) := by rw [hW1]; exact heap_alloc_new w _
  have z1 : Zs W1 q r c e l := h.kept k1 (by simp) (by simp) (by simp)
  have c1 := z1.cell
  have HT := Lib.hid (ztext_any q r c 400 e l W1 z1 (by omega))
  have B1 := Lib.hid b1; have K1 := Lib.hid k1; have HC := Lib.hid hc; have LT := Lib.hid hlt
  clear h k1 b1 z1 hc hlt
  go_enter Try.func85, Try.ntmps85
  go_upto_region 1 with fail
  rw [← hW1]
  clear hW1
  go_wp2_with fail
  refine HT.out.mono ?_
  rintro en w2 ⟨a, rfl, z2, k2, ha, hs⟩
  obtain ⟨cc, w3, hcv, rd3, k3⟩ := conv_str w2 a
  obtain ⟨⟨e0, e1, e2, e3, e4, e5, e6, e7⟩, hE⟩ : ∃ E, E = cEv a.data.toList := ⟨_, rfl⟩
  obtain ⟨x, hx⟩ : ∃ x, x = cErr a.data.toList := ⟨_, rfl⟩
  have HD : RowKit.Hid (Calls Try.prog 92 #[.slice (some ⟨w2.heap.size, 0, none⟩) a.size cc] w3 fun e w' => e = .returned (.tuple #[.agg #[.int .i64 e0, .int .i64 e1, .string e2, .int .i64 e3, .int .i64 e4, .int .u8 e5, .int .i64 e6, .string e7], .int .i64 x]) ∧ Kept w3 w' []) := Lib.hid (by
    have := decode_any _ _ w3 rd3 (by rw [size_list]; exact hs)
    rw [← hE, ← hx] at this
    exact this)
  have HA : RowKit.Hid ((rText 400 e l).2.2 = 0 → x = dErr (rText 400 e l).1 ∧ (⟨e0, e1, e2, e3, e4, e5, e6, e7⟩ : Ev) = dEv (rText 400 e l).1) := Lib.hid (fun h0 => by
    rw [hE, hx, ha h0, strL_data]
    exact dec_same _)
  have Z2 := Lib.hid z2; have K2 := Lib.hid (k2.trans k3 (by simp)); have Z3 := Lib.hid (z2.kept k3 (by simp) (by simp) (by simp))
  clear z2 k2 k3 rd3 ha hs hE hx c1
  go_wp2_with fail
  refine HD.out.mono ?_
  rintro en w4 ⟨rfl, k4⟩
  have K4 := Lib.hid (K2.out.trans k4 (by simp)); have Z4 := Lib.hid (Z3.out.kept k4 (by simp) (by simp) (by simp))
  clear k4 hcv
  obtain ⟨W5, hW5⟩ : ∃ W5, W5 = w4.alloc (.cells #[.int .i64 e0, .int .i64 e1, .string e2, .int .i64 e3, .int .i64 e4, .int .u8 e5, .int .i64 e6, .string e7] 69) := ⟨_, rfl⟩
  have Z5 : RowKit.Hid (Zs W5 q r c (rText 400 e l).2.2 (rText 400 e l).2.1) := Lib.hid (by rw [hW5]; exact Z4.out.kept ((Kept.refl w4 []).alloc _) (by simp) (by simp) (by simp))
  have B5 : RowKit.Hid (W5.heap[w4.heap.size]? = some (.cells #[.int .i64 e0, .int .i64 e1, .string e2, .int .i64 e3, .int .i64 e4, .int .u8 e5, .int .i64 e6, .string e7] 69 (0, 0))) := Lib.hid (by rw [hW5]; exact heap_alloc_new w4 _)
  have K5 : RowKit.Hid (Kept W1 W5 [q, r]) := Lib.hid (by rw [hW5]; exact K4.out.alloc _)
  have S4 : RowKit.Hid (w.heap.size < w4.heap.size) := Lib.hid (by have h1 := (Array.getElem?_eq_some_iff.1 B1.out).1; have := K4.out.size; omega)
  go_upto_region 2 with fail
  rw [← hW5]
  clear hW5
  have HM := Lib.hid (zmeet_any q r c (rText 400 e l).2.2 x (rText 400 e l).2.1 (evL e l) W5 Z5.out (fun h0 hx => by
    have := (HA.out h0).1
    rw [evL, if_pos h0, ← this, if_pos hx]))
  go_wp2_with fail
  refine HM.out.mono ?_
  rintro en w6 ⟨rfl, z6, k6⟩
  have hE2 : (if (rText 400 e l).2.2 = 0 then x else (rText 400 e l).2.2) = evE e l := by
    unfold evE
    split
    · rename_i h0; exact (HA.out h0).1
    · rfl
  rw [hE2] at z6
  have LS : RowKit.Hid (q ≠ w.heap.size ∧ r ≠ w.heap.size ∧ c ≠ w.heap.size) := Lib.hid (by have := LT.out; have := HC.out; omega)
  have b6 := k6.heap (by have := LT.out; have := S4.out; simp; omega) B5.out
  have d6 := (K5.out.trans k6 (by intro x hx; simp at hx; simp [hx])).heap (by have := LS.out; simp; omega) B1.out
  have y0 : w6.cell? ⟨w4.heap.size, 0, none⟩ = some (.int .i64 e0) := cell_of_row w6 _ 0 _ _ _ b6
  have x0 : w6.cell? ⟨w.heap.size, 0, none⟩ = some (.int .i64 0) := cell_of_row w6 _ 0 _ _ _ d6
  have f0 : w6.frozen? ⟨w.heap.size, 0, none⟩ = false := frozen_of_row w6 _ 0 _ _ d6
  have y1 : w6.cell? ⟨w4.heap.size, 1, none⟩ = some (.int .i64 e1) := cell_of_row w6 _ 1 _ _ _ b6
  have x1 : w6.cell? ⟨w.heap.size, 1, none⟩ = some (.int .i64 0) := cell_of_row w6 _ 1 _ _ _ d6
  have f1 : w6.frozen? ⟨w.heap.size, 1, none⟩ = false := frozen_of_row w6 _ 1 _ _ d6
  have y2 : w6.cell? ⟨w4.heap.size, 2, none⟩ = some (.string e2) := cell_of_row w6 _ 2 _ _ _ b6
  have x2 : w6.cell? ⟨w.heap.size, 2, none⟩ = some (.string ⟨#[]⟩) := cell_of_row w6 _ 2 _ _ _ d6
  have f2 : w6.frozen? ⟨w.heap.size, 2, none⟩ = false := frozen_of_row w6 _ 2 _ _ d6
  have y3 : w6.cell? ⟨w4.heap.size, 3, none⟩ = some (.int .i64 e3) := cell_of_row w6 _ 3 _ _ _ b6
  have x3 : w6.cell? ⟨w.heap.size, 3, none⟩ = some (.int .i64 0) := cell_of_row w6 _ 3 _ _ _ d6
  have f3 : w6.frozen? ⟨w.heap.size, 3, none⟩ = false := frozen_of_row w6 _ 3 _ _ d6
  have y4 : w6.cell? ⟨w4.heap.size, 4, none⟩ = some (.int .i64 e4) := cell_of_row w6 _ 4 _ _ _ b6
  have x4 : w6.cell? ⟨w.heap.size, 4, none⟩ = some (.int .i64 0) := cell_of_row w6 _ 4 _ _ _ d6
  have f4 : w6.frozen? ⟨w.heap.size, 4, none⟩ = false := frozen_of_row w6 _ 4 _ _ d6
  have y5 : w6.cell? ⟨w4.heap.size, 5, none⟩ = some (.int .u8 e5) := cell_of_row w6 _ 5 _ _ _ b6
  have x5 : w6.cell? ⟨w.heap.size, 5, none⟩ = some (.int .u8 0) := cell_of_row w6 _ 5 _ _ _ d6
  have f5 : w6.frozen? ⟨w.heap.size, 5, none⟩ = false := frozen_of_row w6 _ 5 _ _ d6
  have y6 : w6.cell? ⟨w4.heap.size, 6, none⟩ = some (.int .i64 e6) := cell_of_row w6 _ 6 _ _ _ b6
  have x6 : w6.cell? ⟨w.heap.size, 6, none⟩ = some (.int .i64 0) := cell_of_row w6 _ 6 _ _ _ d6
  have f6 : w6.frozen? ⟨w.heap.size, 6, none⟩ = false := frozen_of_row w6 _ 6 _ _ d6
  have y7 : w6.cell? ⟨w4.heap.size, 7, none⟩ = some (.string e7) := cell_of_row w6 _ 7 _ _ _ b6
  have x7 : w6.cell? ⟨w.heap.size, 7, none⟩ = some (.string ⟨#[]⟩) := cell_of_row w6 _ 7 _ _ _ d6
  have f7 : w6.frozen? ⟨w.heap.size, 7, none⟩ = false := frozen_of_row w6 _ 7 _ _ d6
  have Z6 := Lib.hid z6; have K6 := Lib.hid (K5.out.trans k6 (by intro x hx; simp at hx; simp [hx]))
  have D6 := Lib.hid d6
  clear z6 k6 hE2 b6 d6
  go_wp2
  obtain ⟨g8, k8⟩ := eight (p := w.heap.size) D6.out (.int .i64 e0) (.int .i64 e1) (.string e2) (.int .i64 e3) (.int .i64 e4) (.int .u8 e5) (.int .i64 e6) (.string e7)
  have z0 := cell_of_row _ w.heap.size 0 _ _ _ g8
  have z1 := cell_of_row _ w.heap.size 1 _ _ _ g8
  have z2 := cell_of_row _ w.heap.size 2 _ _ _ g8
  have z3 := cell_of_row _ w.heap.size 3 _ _ _ g8
  have z4 := cell_of_row _ w.heap.size 4 _ _ _ g8
  have z5 := cell_of_row _ w.heap.size 5 _ _ _ g8
  have z6 := cell_of_row _ w.heap.size 6 _ _ _ g8
  have z7 := cell_of_row _ w.heap.size 7 _ _ _ g8
  simp at z0 z1 z2 z3 z4 z5 z6 z7
  refine bodyPost_ret (v := .agg #[.int .i64 e0, .int .i64 e1, .string e2, .int .i64 e3, .int .i64 e4, .int .u8 e5, .int .i64 e6, .string e7]) (by simp [results, Try.results85, go_sem, z0, z1, z2, z3, z4, z5, z6, z7]) rfl ?_
  refine ⟨⟨e0, e1, e2, e3, e4, e5, e6, e7⟩, rfl, Z6.out.kept k8 (by have := LS.out; simp; omega) (by have := LS.out; simp; omega) (by have := LS.out; simp; omega), ?_, fun h0 => ?_⟩
  · exact ((K1.out.mono (cs := [q, r]) (by simp)).trans K6.out (fun x hx => .inl hx)).trans k8 (by intro x hx; simp at hx; exact .inr (by omega))
  · unfold evE at h0
    split at h0
    · rename_i h1; exact (HA.out h1).2
    · exact absurd h0 (by assumption)

set_option maxHeartbeats 2000000 in
set_option maxRecDepth 100000 in
theorem rmany_any (q r c cl : Nat) (lb : Array Value) (e : Int) (l : List UInt8) (Ek : Nat → Int) (Lk : Nat → List UInt8) (Inv : Nat → World → Prop) (w : World) (ec : ∀ args w, (callFunc cl args).run Try.prog w = .ok (.enter cl args) w)
    (h : Zs w q r c e l) (h0 : Ek 0 = (bA e l).2.2) (hI : ∀ W, Zs W q r c (bA e l).2.2 (bA e l).2.1 → Kept w W [q, r] → Inv 0 W) (hZ : ∀ k W, Inv k W → Zs W q r c (Ek k) (Lk k))
    (hst : ∀ k W, k < (bA e l).1 → Ek k = 0 → Inv k W → Calls Try.prog cl lb W fun en w' => en = .returned (.tuple #[]) ∧ Inv (k + 1) w') :
    Calls Try.prog 82 #[.pointer (some ⟨q, 0, none⟩), .func (.func cl) #[] lb] w fun en w' => en = .returned (.tuple #[]) ∧ ∃ k, k ≤ (bA e l).1 ∧ Inv k w' ∧ (Ek k ≠ 0 ∨ k = (bA e l).1) := by
  obtain ⟨n, hn⟩ : ∃ n, n = (bA e l).1 := ⟨_, rfl⟩
  have hn255 : Ek 0 = 0 → n ≤ 255 := fun h1 => by rw [hn]; exact bA_le e l (h0 ▸ h1)
  have HU : RowKit.Hid (Calls Try.prog 81 #[.pointer (some ⟨q, 0, none⟩), .int .i64 255] w fun en w' => ∃ a : Int, en = .returned (.int .i64 a) ∧ Inv 0 w' ∧ (Ek 0 = 0 → a = n)) := Lib.hid ((zup_any q r c 255 e l w h (by omega)).mono (by
    rintro en w' ⟨a, rfl, z, k, ha⟩
    exact ⟨a, rfl, hI w' z k, fun h1 => by rw [hn]; exact ha (h0 ▸ h1)⟩))
  rw [← hn] at hst ⊢
  have HF : RowKit.Hid (∀ k W, Inv k W → Calls Try.prog 64 #[.pointer (some ⟨q, 0, none⟩)] W fun en w' => en = .returned (.int .i64 (Ek k)) ∧ w' = W) := Lib.hid (fun k W hi => by
    obtain ⟨x, e0, l0, z, s⟩ := hZ k W hi
    have := efirst_any q r c x e0 l0 W z
    rw [s.1] at this
    exact this)
  have HST := Lib.hid hst; have HN := Lib.hid hn255
  clear h h0 hI hZ hst hn hn255
  go_enter Try.func82, Try.ntmps82
  go_wp2_with fail
  refine HU.out.mono ?_
  rintro en w2 ⟨a, rfl, i2, ha⟩
  have I2 := Lib.hid i2; have HA := Lib.hid ha
  clear i2 ha
  go_wp2
  go_loopw [5] (fun t wr => ∃ k : Nat, t = .int .i64 k ∧ Inv k wr ∧ (k = 0 ∨ (Ek 0 = 0 ∧ k ≤ n))) (fun t _ => n - (intOf t).toNat)
  case atStart => exact ⟨0, rfl, I2.out, .inl rfl⟩
  case round =>
    obtain ⟨k, rfl, hi, hk⟩ := hrel
    have I := Lib.hid hi; have HK := Lib.hid hk
    clear hi hk
    by_cases hlt : (k : Int) < a
    · obtain ⟨x, hx⟩ : ∃ x, x = Ek k := ⟨_, rfl⟩
      have hf := HF.out k wr I.out
      rw [← hx] at hf
      have FF := Lib.hid hf
      clear hf
      by_cases h1 : x = 0
      · have hE0 : Ek 0 = 0 := by rcases HK.out with h2 | h2; exact h2 ▸ (hx ▸ h1); exact h2.1
        have hkn : k < n := by have := HA.out hE0; omega
        have call := HST.out k wr hkn (hx ▸ h1) I.out
        have hk64 : k ≤ 255 := by have := HN.out hE0; omega
        have E0 := Lib.hid hE0
        subst h1
        clear hx hE0
        go_wp2_with fail
        refine FF.out.mono ?_
        rintro en w3 ⟨rfl, hw⟩
        subst hw
        go_wp2_with (go_at_fn cl; refine call.mono ?_; rintro en w4 ⟨rfl, i4⟩)
        have I4 := Lib.hid i4
        clear i4 call
        go_wp2
        go_roundw
        case rel => exact ⟨k + 1, by go_num, I4.out, .inr ⟨E0.out, by omega⟩⟩
        case measure => simp [intOf]; omega
      · have x0 : (x == 0) = false := by simpa using h1
        have R : RowKit.Hid (Ek k ≠ 0 ∧ k ≤ n) := Lib.hid ⟨hx ▸ h1, by rcases HK.out with h2 | h2; omega; exact h2.2⟩
        clear hx
        go_wp2_with fail
        refine FF.out.mono ?_
        rintro en w3 ⟨rfl, hw⟩
        subst hw
        go_wp2
        go_end0
        exact ⟨rfl, k, R.out.2, I.out, .inl R.out.1⟩
    · have R : RowKit.Hid (k ≤ n ∧ (Ek k ≠ 0 ∨ k = n)) := Lib.hid (by
        by_cases h1 : Ek 0 = 0
        · have := HA.out h1
          rcases HK.out with h2 | h2
          · exact ⟨by omega, .inr (by omega)⟩
          · exact ⟨h2.2, .inr (by omega)⟩
        · rcases HK.out with h2 | h2
          · subst h2; exact ⟨by omega, .inl h1⟩
          · exact absurd h2.1 h1)
      have x0 : decide ((k : Int) < a) = false := by simpa using hlt
      go_wp2
      go_end0
      exact ⟨rfl, k, R.out.1, I.out, R.out.2⟩

end Go.Proofs.Ytjdbmlifekghfaa
