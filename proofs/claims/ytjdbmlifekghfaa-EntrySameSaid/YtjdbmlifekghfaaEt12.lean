/-
  Eoh, Eod in one text.
-/
import Derived.Test.YtjdbmlifekghfaaEt0
import Derived.Test.YtjdbmlifekghfaaEt11
import Derived.Lib.ConvBytes
set_option linter.unusedVariables false
set_option maxHeartbeats 16000000
set_option maxRecDepth 100000
namespace Go.Proofs.Ytjdbmlifekghfaa
open Go.RowKit
theorem conv_str (w : World) (s : ByteArray) : ∃ c w', (convert 9 22 (.string s)).run Try.prog w = .ok (.slice (some ⟨w.heap.size, 0, none⟩) s.size c) w' /\ Rd w' (.slice (some ⟨w.heap.size, 0, none⟩) s.size c) s.data.toList /\ Kept w w' [] := by
 refine ⟨_, _, Lib.run_convert_string_bytes (P := Try.prog) w 9 22 5 s Try.underlying9 Try.underlying22 Try.underlying5, ⟨some ⟨w.heap.size, 0, none⟩, _, by rw [xqk], ?_, by simp, fun _ => ⟨w.heap.size, 0, rfl, fun i hi => ?_⟩⟩, ⟨rfl, rfl, rfl, ?_, fun k hk _ => Lib.bytesWorld_at_old w _ s k hk⟩⟩
 ·rw [xqk]; exact grownCap_ge w s.size 0 _
 ·rw [xqk] at hi
  have := Lib.bytesWorld_cell w 5 s i hi
  rw [Nat.zero_add]
  exact this
 have := Lib.bytesWorld_size w 5 s; omega
def evE (e : Int) (l : List UInt8) : Int := if (xqg 400 e l).2.2 = 0 then dErr (xqg 400 e l).1 else (xqg 400 e l).2.2
def evL (e : Int) (l : List UInt8) : List UInt8 := if (xqg 400 e l).2.2 = 0 then (if dErr (xqg 400 e l).1 = 0 then (xqg 400 e l).2.1 else []) else (xqg 400 e l).2.1
theorem zev_any (q r c : Nat) (e : Int) (l : List UInt8) (w : World) (h : Zs w q r c e l) (hc : c < w.heap.size) :
  Calls Try.prog 85 #[.pointer (some ⟨q, 0, none⟩)] w fun en w' => ∃ E : Ev, en = .returned (.agg E.cs) /\ Zs w' q r c (evE e l) (evL e l) /\ Kept w w' [q, r] /\ (evE e l = 0 -> E = dEv (xqg 400 e l).1) := by
 have hlt := h.lt
 obtain ⟨W1, hW1⟩ : ∃ W1, W1 = w.alloc (.cells #[.int .i64 0, .int .i64 0, .string ⟨#[]⟩, .int .i64 0, .int .i64 0, .int .u8 0, .int .i64 0, .string ⟨#[]⟩] 69) := ⟨_, rfl⟩
 have k1 : Kept w W1 [] := by rw [hW1]; exact (Kept.refl w []).alloc _
 have b1 : W1.heap[w.heap.size]? = some (.cells #[.int .i64 0, .int .i64 0, .string ⟨#[]⟩, .int .i64 0, .int .i64 0, .int .u8 0, .int .i64 0, .string ⟨#[]⟩] 69 (0, 0)) := by rw [hW1]; exact heap_alloc_new w _
 have z1 : Zs W1 q r c e l := h.kept k1 (by simp) (by simp) (by simp)
 have c1 := z1.cell
 have HT := iH (ztext_any q r c 400 e l W1 z1 (by omega))
 have B1 := iH b1; have K1 := iH k1; have HC := iH hc; have LT := iH hlt
 clear h k1 b1 z1 hc hlt
 go_enter Try.func85, Try.ntmps85
 go_upto_region 1 with fail
 rw [<- hW1]
 clear hW1
 go_wp2_with fail
 refine HT.out.mono ?_
 rintro en w2 ⟨a, rfl, z2, k2, ha, hs⟩
 obtain ⟨cc, w3, hcv, rd3, k3⟩ := conv_str w2 a
 obtain ⟨⟨e0, e1, e2, e3, e4, e5, e6, e7⟩, hE⟩ : ∃ E, E = cEv a.data.toList := ⟨_, rfl⟩
 obtain ⟨x, hx⟩ : ∃ x, x = cErr a.data.toList := ⟨_, rfl⟩
 have HD : RowKit.Hid (Calls Try.prog 92 #[.slice (some ⟨w2.heap.size, 0, none⟩) a.size cc] w3 fun e w' => e = .returned (.tuple #[.agg #[.int .i64 e0, .int .i64 e1, .string e2, .int .i64 e3, .int .i64 e4, .int .u8 e5, .int .i64 e6, .string e7], .int .i64 x]) /\ Kept w3 w' []) := iH (by
  have := decode_any _ _ w3 rd3 (by rw [xqk]; exact hs)
  rw [<- hE, <- hx] at this
  exact this)
 have HA : RowKit.Hid ((xqg 400 e l).2.2 = 0 -> x = dErr (xqg 400 e l).1 /\ (⟨e0, e1, e2, e3, e4, e5, e6, e7⟩ : Ev) = dEv (xqg 400 e l).1) := iH (fun h0 => by
  rw [hE, hx, ha h0, strL_data]
  exact dec_same _)
 have Z2 := iH z2; have K2 := iH (k2.trans k3 (by simp)); have Z3 := iH (z2.kept k3 (by simp) (by simp) (by simp))
 clear z2 k2 k3 rd3 ha hs hE hx c1
 go_wp2_with fail
 refine HD.out.mono ?_
 rintro en w4 ⟨rfl, k4⟩
 have K4 := iH (K2.out.trans k4 (by simp)); have Z4 := iH (Z3.out.kept k4 (by simp) (by simp) (by simp))
 clear k4 hcv
 obtain ⟨W5, hW5⟩ : ∃ W5, W5 = w4.alloc (.cells #[.int .i64 e0, .int .i64 e1, .string e2, .int .i64 e3, .int .i64 e4, .int .u8 e5, .int .i64 e6, .string e7] 69) := ⟨_, rfl⟩
 have Z5 : RowKit.Hid (Zs W5 q r c (xqg 400 e l).2.2 (xqg 400 e l).2.1) := iH (by rw [hW5]; exact Z4.out.kept ((Kept.refl w4 []).alloc _) (by simp) (by simp) (by simp))
 have B5 : RowKit.Hid (W5.heap[w4.heap.size]? = some (.cells #[.int .i64 e0, .int .i64 e1, .string e2, .int .i64 e3, .int .i64 e4, .int .u8 e5, .int .i64 e6, .string e7] 69 (0, 0))) := iH (by rw [hW5]; exact heap_alloc_new w4 _)
 have K5 : RowKit.Hid (Kept W1 W5 [q, r]) := iH (by rw [hW5]; exact K4.out.alloc _)
 have S4 : RowKit.Hid (w.heap.size < w4.heap.size) := iH (by have h1 := (Array.getElem?_eq_some_iff.1 B1.out).1; have := K4.out.size; omega)
 go_upto_region 2 with fail
 rw [<- hW5]
 clear hW5
 have HM := iH (zmeet_any q r c (xqg 400 e l).2.2 x (xqg 400 e l).2.1 (evL e l) W5 Z5.out (fun h0 hx => by
  have := (HA.out h0).1
  rw [evL, if_pos h0, <- this, if_pos hx]))
 go_wp2_with fail
 refine HM.out.mono ?_
 rintro en w6 ⟨rfl, z6, k6⟩
 have hE2 : (if (xqg 400 e l).2.2 = 0 then x else (xqg 400 e l).2.2) = evE e l := by
  unfold evE
  split
  ·rename_i h0; exact (HA.out h0).1
  rfl
 rw [hE2] at z6
 have LS : RowKit.Hid (q ≠ w.heap.size /\ r ≠ w.heap.size /\ c ≠ w.heap.size) := iH (by have := LT.out; have := HC.out; omega)
 have b6 := k6.heap (by have := LT.out; have := S4.out; simp; omega) B5.out
 have d6 := (K5.out.trans k6 (by intro x hx; simp at hx; simp [hx])).heap (by have := LS.out; simp; omega) B1.out
 have y0 : w6.cell? ⟨w4.heap.size, 0, none⟩ = some (.int .i64 e0) := cell_of_row w6 _ 0 _ _ _ b6
 have x0 : w6.cell? ⟨w.heap.size, 0, none⟩ = some (.int .i64 0) := cell_of_row w6 _ 0 _ _ _ d6
 have f0 : w6.frozen? ⟨w.heap.size, 0, none⟩ = false := frozen_of_row w6 _ 0 _ _ d6
 have y1 : w6.cell? ⟨w4.heap.size, 1, none⟩ = some (.int .i64 e1) := cell_of_row w6 _ 1 _ _ _ b6
 have x1 : w6.cell? ⟨w.heap.size, 1, none⟩ = some (.int .i64 0) := cell_of_row w6 _ 1 _ _ _ d6
 have f1 : w6.frozen? ⟨w.heap.size, 1, none⟩ = false := frozen_of_row w6 _ 1 _ _ d6
 have y2 : w6.cell? ⟨w4.heap.size, 2, none⟩ = some (.string e2) := cell_of_row w6 _ 2 _ _ _ b6
 have x2 : w6.cell? ⟨w.heap.size, 2, none⟩ = some (.string ⟨#[]⟩) := cell_of_row w6 _ 2 _ _ _ d6
 have f2 : w6.frozen? ⟨w.heap.size, 2, none⟩ = false := frozen_of_row w6 _ 2 _ _ d6
 have y3 : w6.cell? ⟨w4.heap.size, 3, none⟩ = some (.int .i64 e3) := cell_of_row w6 _ 3 _ _ _ b6
 have x3 : w6.cell? ⟨w.heap.size, 3, none⟩ = some (.int .i64 0) := cell_of_row w6 _ 3 _ _ _ d6
 have f3 : w6.frozen? ⟨w.heap.size, 3, none⟩ = false := frozen_of_row w6 _ 3 _ _ d6
 have y4 : w6.cell? ⟨w4.heap.size, 4, none⟩ = some (.int .i64 e4) := cell_of_row w6 _ 4 _ _ _ b6
 have x4 : w6.cell? ⟨w.heap.size, 4, none⟩ = some (.int .i64 0) := cell_of_row w6 _ 4 _ _ _ d6
 have f4 : w6.frozen? ⟨w.heap.size, 4, none⟩ = false := frozen_of_row w6 _ 4 _ _ d6
 have y5 : w6.cell? ⟨w4.heap.size, 5, none⟩ = some (.int .u8 e5) := cell_of_row w6 _ 5 _ _ _ b6
 have x5 : w6.cell? ⟨w.heap.size, 5, none⟩ = some (.int .u8 0) := cell_of_row w6 _ 5 _ _ _ d6
 have f5 : w6.frozen? ⟨w.heap.size, 5, none⟩ = false := frozen_of_row w6 _ 5 _ _ d6
 have y6 : w6.cell? ⟨w4.heap.size, 6, none⟩ = some (.int .i64 e6) := cell_of_row w6 _ 6 _ _ _ b6
 have x6 : w6.cell? ⟨w.heap.size, 6, none⟩ = some (.int .i64 0) := cell_of_row w6 _ 6 _ _ _ d6
 have f6 : w6.frozen? ⟨w.heap.size, 6, none⟩ = false := frozen_of_row w6 _ 6 _ _ d6
 have y7 : w6.cell? ⟨w4.heap.size, 7, none⟩ = some (.string e7) := cell_of_row w6 _ 7 _ _ _ b6
 have x7 : w6.cell? ⟨w.heap.size, 7, none⟩ = some (.string ⟨#[]⟩) := cell_of_row w6 _ 7 _ _ _ d6
 have f7 : w6.frozen? ⟨w.heap.size, 7, none⟩ = false := frozen_of_row w6 _ 7 _ _ d6
 have Z6 := iH z6; have K6 := iH (K5.out.trans k6 (by intro x hx; simp at hx; simp [hx]))
 have D6 := iH d6
 clear z6 k6 hE2 b6 d6
 go_wp2
 obtain ⟨g8, k8⟩ := eight (p := w.heap.size) D6.out (.int .i64 e0) (.int .i64 e1) (.string e2) (.int .i64 e3) (.int .i64 e4) (.int .u8 e5) (.int .i64 e6) (.string e7)
 have z0 := cell_of_row _ w.heap.size 0 _ _ _ g8
 have z1 := cell_of_row _ w.heap.size 1 _ _ _ g8
 have z2 := cell_of_row _ w.heap.size 2 _ _ _ g8
 have z3 := cell_of_row _ w.heap.size 3 _ _ _ g8
 have z4 := cell_of_row _ w.heap.size 4 _ _ _ g8
 have z5 := cell_of_row _ w.heap.size 5 _ _ _ g8
 have z6 := cell_of_row _ w.heap.size 6 _ _ _ g8
 have z7 := cell_of_row _ w.heap.size 7 _ _ _ g8
 simp at z0 z1 z2 z3 z4 z5 z6 z7
 refine bodyPost_ret (v := .agg #[.int .i64 e0, .int .i64 e1, .string e2, .int .i64 e3, .int .i64 e4, .int .u8 e5, .int .i64 e6, .string e7]) (by simp [results, Try.results85, go_sem, z0, z1, z2, z3, z4, z5, z6, z7]) rfl ?_
 refine ⟨⟨e0, e1, e2, e3, e4, e5, e6, e7⟩, rfl, Z6.out.kept k8 (by have := LS.out; simp; omega) (by have := LS.out; simp; omega) (by have := LS.out; simp; omega), ?_, fun h0 => ?_⟩
 ·exact ((K1.out.mono (cs := [q, r]) (by simp)).trans K6.out (fun x hx => .inl hx)).trans k8 (by intro x hx; simp at hx; exact .inr (by omega))
 ·unfold evE at h0
  split at h0
  ·rename_i h1; exact (HA.out h1).2
  exact absurd h0 (by assumption)
theorem rmany_any (q r c cl : Nat) (lb : Array Value) (e : Int) (l : List UInt8) (Ek : Nat -> Int) (Lk : Nat -> List UInt8) (Inv : Nat -> World -> Prop) (w : World) (ec : ∀ args w, (callFunc cl args).run Try.prog w = .ok (.enter cl args) w)
  (h : Zs w q r c e l) (h0 : Ek 0 = (bA e l).2.2) (hI : ∀ W, Zs W q r c (bA e l).2.2 (bA e l).2.1 -> Kept w W [q, r] -> Inv 0 W) (hZ : ∀ k W, Inv k W -> Zs W q r c (Ek k) (Lk k))
  (hst : ∀ k W, k < (bA e l).1 -> Ek k = 0 -> Inv k W -> Calls Try.prog cl lb W fun en w' => en = .returned (.tuple #[]) /\ Inv (k + 1) w') :
  Calls Try.prog 82 #[.pointer (some ⟨q, 0, none⟩), .func (.func cl) #[] lb] w fun en w' => en = .returned (.tuple #[]) /\ ∃ k, k <= (bA e l).1 /\ Inv k w' /\ (Ek k ≠ 0 ∨ k = (bA e l).1) := by
 obtain ⟨n, hn⟩ : ∃ n, n = (bA e l).1 := ⟨_, rfl⟩
 have hn255 : Ek 0 = 0 -> n <= 255 := fun h1 => by rw [hn]; exact bA_le e l (h0 ▸ h1)
 have HU : RowKit.Hid (Calls Try.prog 81 #[.pointer (some ⟨q, 0, none⟩), .int .i64 255] w fun en w' => ∃ a : Int, en = .returned (.int .i64 a) /\ Inv 0 w' /\ (Ek 0 = 0 -> a = n)) := iH ((zup_any q r c 255 e l w h (by omega)).mono (by
  rintro en w' ⟨a, rfl, z, k, ha⟩
  exact ⟨a, rfl, hI w' z k, fun h1 => by rw [hn]; exact ha (h0 ▸ h1)⟩))
 rw [<- hn] at hst ⊢
 have HF : RowKit.Hid (∀ k W, Inv k W -> Calls Try.prog 64 #[.pointer (some ⟨q, 0, none⟩)] W fun en w' => en = .returned (.int .i64 (Ek k)) /\ w' = W) := iH (fun k W hi => by
  obtain ⟨x, e0, l0, z, s⟩ := hZ k W hi
  have := efirst_any q r c x e0 l0 W z
  rw [s.1] at this
  exact this)
 have HST := iH hst; have HN := iH hn255
 clear h h0 hI hZ hst hn hn255
 go_enter Try.func82, Try.ntmps82
 go_wp2_with fail
 refine HU.out.mono ?_
 rintro en w2 ⟨a, rfl, i2, ha⟩
 have I2 := iH i2; have HA := iH ha
 clear i2 ha
 go_wp2
 go_loopw [5] (fun t wr => ∃ k : Nat, t = .int .i64 k /\ Inv k wr /\ (k = 0 ∨ (Ek 0 = 0 /\ k <= n))) (fun t _ => n - (intOf t).toNat)
 case atStart => exact ⟨0, rfl, I2.out, .inl rfl⟩
 case round =>
  obtain ⟨k, rfl, hi, hk⟩ := hrel
  have I := iH hi; have HK := iH hk
  clear hi hk
  by_cases hlt : (k : Int) < a
  ·obtain ⟨x, hx⟩ : ∃ x, x = Ek k := ⟨_, rfl⟩
   have hf := HF.out k wr I.out
   rw [<- hx] at hf
   have FF := iH hf
   clear hf
   by_cases h1 : x = 0
   ·have hE0 : Ek 0 = 0 := by rcases HK.out with h2 | h2; exact h2 ▸ (hx ▸ h1); exact h2.1
    have hkn : k < n := by have := HA.out hE0; omega
    have call := HST.out k wr hkn (hx ▸ h1) I.out
    have hk64 : k <= 255 := by have := HN.out hE0; omega
    have E0 := iH hE0
    subst h1
    clear hx hE0
    go_wp2_with fail
    refine FF.out.mono ?_
    rintro en w3 ⟨rfl, hw⟩
    subst hw
    go_wp2_with (go_at_fn cl; refine call.mono ?_; rintro en w4 ⟨rfl, i4⟩)
    have I4 := iH i4
    clear i4 call
    go_wp2
    go_roundw
    case rel => exact ⟨k + 1, by go_num, I4.out, .inr ⟨E0.out, by omega⟩⟩
    case measure => simp [intOf]; omega
   have x0 : (x == 0) = false := by simpa using h1
   have R : RowKit.Hid (Ek k ≠ 0 /\ k <= n) := iH ⟨hx ▸ h1, by rcases HK.out with h2 | h2; omega; exact h2.2⟩
   clear hx
   go_wp2_with fail
   refine FF.out.mono ?_
   rintro en w3 ⟨rfl, hw⟩
   subst hw
   go_wp2
   go_end0
   exact ⟨rfl, k, R.out.2, I.out, .inl R.out.1⟩
  have R : RowKit.Hid (k <= n /\ (Ek k ≠ 0 ∨ k = n)) := iH (by
   by_cases h1 : Ek 0 = 0
   ·have := HA.out h1
    rcases HK.out with h2 | h2
    ·exact ⟨by omega, .inr (by omega)⟩
    exact ⟨h2.2, .inr (by omega)⟩
   ·rcases HK.out with h2 | h2
    ·subst h2; exact ⟨by omega, .inl h1⟩
    exact absurd h2.1 h1)
  have x0 : decide ((k : Int) < a) = false := by simpa using hlt
  go_wp2
  go_end0
  exact ⟨rfl, k, R.out.1, I.out, R.out.2⟩
theorem Cap.made {w W1 : World} {B p : Nat} {v : Value} {l : List UInt8} (W : Wr wB w B p v l) {hl hw : Nat} {T : TypeId} {cs : Array Value} (k : Kept w W1 [])
  (b1 : W1.heap[hl]? = some (.cells cs T (0, 0))) (b2 : W1.heap[hw]? = some (.cells #[.pointer (some ⟨p, 0, none⟩)] 79 (0, 0))) (h1 : w.heap.size <= hl) (h2 : w.heap.size <= hw) :
  Wr wB W1 B p v l /\ Wtp w W1 [p] v v /\ Cap W1 p v hl hw T cs :=
 ⟨W.kept k (by simp) (by simp), ⟨k.mono (by simp), .inl rfl⟩, ⟨b1, b2, W.far h1, W.far h2⟩⟩
theorem xqY {α : Type} (f : α -> List UInt8) (xs : List α) {k : Nat} {x : α} (h : xs[k]? = some x) : xqf f (xs.take (k + 1)) = xqf f (xs.take k) ++ f x := by
 obtain ⟨hk, rfl⟩ := List.getElem?_eq_some_iff.1 h
 rw [List.take_succ_eq_append_getElem hk, manyL_snoc]
theorem Ox.encL_len {o : Ox} (h : o.Right) : o.encL.length <= 100 := by
 have h1 := xqc (n := o.tb.toNat) (by have := h.tb; omega)
 have h2 := xqc (n := flag o.g) (by have := flag_le o.g; omega)
 have h3 := xqc (Lib.zigzag_lt h.key.1 h.key.2)
 have h4 := xqc (n := o.t.data.toList.length) (by have := h.t; rw [xqk]; omega)
 have h5 := h.t
 have h6 := xqk o.t
 simp only [Ox.encL, Ox.r2, Ox.r3, Ox.r4, xqr, intL, List.length_append]
 omega
theorem Px.encL_len {x : Px} (h : x.Right) : x.encL.length <= 300 := by
 have h1 := xqc (n := x.sp.toNat) (by have := h.sp; omega)
 have h2 := Ev.encL_len h.ev h.ok
 have h3 := xqc (n := x.ev.encL.length) (by omega)
 simp only [Px.encL, xqr, List.length_append]
 omega
theorem RdK.blk_lt {α : Type} {E : Enc α} {w : World} {v : Value} {xs : List α} (h : RdK E w v xs) {k : Nat} (hk : k < xs.length) : ∀ b, v.ownBlock = some b -> b < w.heap.size := by
 obtain ⟨a, c, rfl, _, _, hl⟩ := h
 obtain ⟨b, o, rfl, hc⟩ := hl (by rintro rfl; simp at hk)
 intro b' hb
 simp only [Value.ownBlock, Option.some.injEq] at hb
 subst hb
 obtain ⟨u, hu⟩ := kcs_some E xs 0 (Nat.mul_pos (by omega) E.pos)
 have := hc 0 (Nat.mul_pos (by omega) E.pos)
 rw [hu] at this
 exact World.block_lt_of_cell? w _ this
theorem RdI.blk_lt {w : World} {v : Value} {xs : List Int} (h : RdI w v xs) {k : Nat} (hk : k < xs.length) : ∀ b, v.ownBlock = some b -> b < w.heap.size := by
 obtain ⟨a, c, rfl, _, _, _, hl⟩ := h
 obtain ⟨b, o, rfl, hc⟩ := hl (by rintro rfl; simp at hk)
 intro b' hb
 simp only [Value.ownBlock, Option.some.injEq] at hb
 subst hb
 exact World.block_lt_of_cell? w _ (hc 0 (by omega))
theorem wops_any (B p : Nat) (v sv : Value) (l : List UInt8) (xs : List Ox) (w : World) (W : Wr wB w B p v l) (hB : B <= w.heap.size) (hs : RdK encO w sv xs) (hb : ∀ b, sv.ownBlock = some b -> Far p v b) (hr : ∀ o ∈ xs, o.Right) (hn : xs.length <= 255) (hl' : l.length <= 10000000) :
  Calls Try.prog 50 #[.pointer (some ⟨p, 0, none⟩), sv] w fun e w' => e = .returned (.tuple #[]) /\ ∃ v', Wr wB w' B p v' (l ++ opsL xs) /\ Wtp w w' [p] v v' := by
 obtain ⟨sa, sc, rfl, _⟩ := id hs
 obtain ⟨W1, hW1⟩ : ∃ W1, W1 = (w.alloc (.cells #[.pointer (some ⟨p, 0, none⟩)] 79)).alloc (.cells #[.slice sa xs.length sc] 38) := ⟨_, rfl⟩
 have hz : (w.alloc (.cells #[.pointer (some ⟨p, 0, none⟩)] 79)).heap.size = w.heap.size + 1 := by simp
 have k1 : Kept w W1 [] := by rw [hW1]; exact ((Kept.refl w []).alloc _).alloc _
 have b1 : W1.heap[w.heap.size + 1]? = some (.cells #[.slice sa xs.length sc] 38 (0, 0)) := by rw [hW1, <- hz]; exact heap_alloc_new _ _
 have b2 : W1.heap[w.heap.size]? = some (.cells #[.pointer (some ⟨p, 0, none⟩)] 79 (0, 0)) := by rw [hW1]; exact ((Kept.refl _ []).alloc _).heap (by simp) (heap_alloc_new w _)
 obtain ⟨g1, s1, C1⟩ := Cap.made W k1 b1 b2 (by omega) (Nat.le_refl _)
 have c1 : W1.cell? ⟨w.heap.size, 0, none⟩ = some (.pointer (some ⟨p, 0, none⟩)) := cell_of_row _ _ 0 _ _ _ b2
 have c2 : W1.cell? ⟨w.heap.size + 1, 0, none⟩ = some (.slice sa xs.length sc) := cell_of_row _ _ 0 _ _ _ b1
 have HM : RowKit.Hid (Calls Try.prog 73 #[.pointer (some ⟨p, 0, none⟩), .int .i64 xs.length, .func (.func 74) #[] #[.pointer (some ⟨w.heap.size + 1, 0, none⟩), .pointer (some ⟨w.heap.size, 0, none⟩)]] W1 fun e w' => e = .returned (.tuple #[]) /\ ∃ v', Wr wB w' B p v' (l ++ opsL xs) /\ Wtp W1 w' [p] v v') := iH (by
  have h := wmany_any B p v l xs.length 74 #[.pointer (some ⟨w.heap.size + 1, 0, none⟩), .pointer (some ⟨w.heap.size, 0, none⟩)] (fun k => xqf Ox.encL (xs.take k)) W1 (fun _ _ => rfl) g1 (Nat.le_trans hB k1.size) hn (by omega) (by simp [xqf]) (fun k v' Z hk hg hs' => by
   obtain ⟨o, ho⟩ : ∃ o, xs[k]? = some o := ⟨_, List.getElem?_eq_getElem hk⟩
   have hm := xqA Ox.encL 100 (xs.take k) (fun y hy => Ox.encL_len (hr y (List.mem_of_mem_take hy)))
   have hten := xqc (n := xs.length) (by omega)
   have := wop_any B p (w.heap.size + 1) w.heap.size v' _ _ xs k o Z hg (Nat.le_trans (Nat.le_trans hB k1.size) hs'.1.size) (C1.on hs') (hs'.rdK (hs.keep k1) hb) ho (fun b hb' => hs'.far (hb b hb') (by
    have hlt := (RdK.blk_lt hs hk b hb')
    have := k1.size
    omega)) (hr o (List.mem_iff_getElem?.2 ⟨k, ho⟩)) (by rw [List.length_take] at hm; simp only [List.length_append]; omega)
   refine this.mono ?_
   rintro e w' ⟨rfl, v2, h1, h2⟩
   refine ⟨rfl, v2, ?_, h2⟩
   rw [xqY _ _ ho, <- List.append_assoc]
   exact h1)
  refine h.mono ?_
  rintro e w' ⟨rfl, v', h1, h2⟩
  refine ⟨rfl, v', ?_, h2⟩
  rw [opsL, <- List.append_assoc]
  simpa using h1)
 have S1 := iH s1
 clear s1 g1 C1 k1 b1 b2 hs hb hr hl' hz W hB hn
 go_enter Try.func50, Try.ntmps50
 go_upto_region 1 with fail
 rw [<- hW1]
 clear hW1
 go_wp2_with fail
 refine HM.out.mono ?_
 rintro e w2 ⟨rfl, v2, g2, s2⟩
 have G2 := iH g2; have S2 := iH s2
 clear g2 s2 c1 c2
 go_wp2
 go_end0
 exact ⟨rfl, v2, G2.out, S1.out.trans S2.out⟩
theorem wevs_any (B p : Nat) (v sv : Value) (l : List UInt8) (xs : List Px) (w : World) (W : Wr wB w B p v l) (hB : B <= w.heap.size) (hs : RdK encP w sv xs) (hb : ∀ b, sv.ownBlock = some b -> Far p v b) (hr : ∀ o ∈ xs, o.Right) (hn : xs.length <= 255) (hl' : l.length <= 10000000) :
  Calls Try.prog 51 #[.pointer (some ⟨p, 0, none⟩), sv] w fun e w' => e = .returned (.tuple #[]) /\ ∃ v', Wr wB w' B p v' (l ++ evsL xs) /\ Wtp w w' [p] v v' := by
 obtain ⟨sa, sc, rfl, _⟩ := id hs
 obtain ⟨W1, hW1⟩ : ∃ W1, W1 = (w.alloc (.cells #[.pointer (some ⟨p, 0, none⟩)] 79)).alloc (.cells #[.slice sa xs.length sc] 39) := ⟨_, rfl⟩
 have hz : (w.alloc (.cells #[.pointer (some ⟨p, 0, none⟩)] 79)).heap.size = w.heap.size + 1 := by simp
 have k1 : Kept w W1 [] := by rw [hW1]; exact ((Kept.refl w []).alloc _).alloc _
 have b1 : W1.heap[w.heap.size + 1]? = some (.cells #[.slice sa xs.length sc] 39 (0, 0)) := by rw [hW1, <- hz]; exact heap_alloc_new _ _
 have b2 : W1.heap[w.heap.size]? = some (.cells #[.pointer (some ⟨p, 0, none⟩)] 79 (0, 0)) := by rw [hW1]; exact ((Kept.refl _ []).alloc _).heap (by simp) (heap_alloc_new w _)
 obtain ⟨g1, s1, C1⟩ := Cap.made W k1 b1 b2 (by omega) (Nat.le_refl _)
 have c1 : W1.cell? ⟨w.heap.size, 0, none⟩ = some (.pointer (some ⟨p, 0, none⟩)) := cell_of_row _ _ 0 _ _ _ b2
 have c2 : W1.cell? ⟨w.heap.size + 1, 0, none⟩ = some (.slice sa xs.length sc) := cell_of_row _ _ 0 _ _ _ b1
 have HM : RowKit.Hid (Calls Try.prog 73 #[.pointer (some ⟨p, 0, none⟩), .int .i64 xs.length, .func (.func 76) #[] #[.pointer (some ⟨w.heap.size, 0, none⟩), .pointer (some ⟨w.heap.size + 1, 0, none⟩)]] W1 fun e w' => e = .returned (.tuple #[]) /\ ∃ v', Wr wB w' B p v' (l ++ evsL xs) /\ Wtp W1 w' [p] v v') := iH (by
  have h := wmany_any B p v l xs.length 76 #[.pointer (some ⟨w.heap.size, 0, none⟩), .pointer (some ⟨w.heap.size + 1, 0, none⟩)] (fun k => xqf Px.encL (xs.take k)) W1 (fun _ _ => rfl) g1 (Nat.le_trans hB k1.size) hn (by omega) (by simp [xqf]) (fun k v' Z hk hg hs' => by
   obtain ⟨o, ho⟩ : ∃ o, xs[k]? = some o := ⟨_, List.getElem?_eq_getElem hk⟩
   have hm := xqA Px.encL 300 (xs.take k) (fun y hy => Px.encL_len (hr y (List.mem_of_mem_take hy)))
   have hten := xqc (n := xs.length) (by omega)
   have := wev_any B p (w.heap.size + 1) w.heap.size v' _ _ xs k o Z hg (Nat.le_trans (Nat.le_trans hB k1.size) hs'.1.size) (C1.on hs') (hs'.rdK (hs.keep k1) hb) ho (fun b hb' => hs'.far (hb b hb') (by
    have hlt := (RdK.blk_lt hs hk b hb')
    have := k1.size
    omega)) (hr o (List.mem_iff_getElem?.2 ⟨k, ho⟩)) (by rw [List.length_take] at hm; simp only [List.length_append]; omega)
   refine this.mono ?_
   rintro e w' ⟨rfl, v2, h1, h2⟩
   refine ⟨rfl, v2, ?_, h2⟩
   rw [xqY _ _ ho, <- List.append_assoc]
   exact h1)
  refine h.mono ?_
  rintro e w' ⟨rfl, v', h1, h2⟩
  refine ⟨rfl, v', ?_, h2⟩
  rw [evsL, <- List.append_assoc]
  simpa using h1)
 have S1 := iH s1
 clear s1 g1 C1 k1 b1 b2 hs hb hr hl' hz W hB hn
 go_enter Try.func51, Try.ntmps51
 go_upto_region 1 with fail
 rw [<- hW1]
 clear hW1
 go_wp2_with fail
 refine HM.out.mono ?_
 rintro e w2 ⟨rfl, v2, g2, s2⟩
 have G2 := iH g2; have S2 := iH s2
 clear g2 s2 c1 c2
 go_wp2
 go_end0
 exact ⟨rfl, v2, G2.out, S1.out.trans S2.out⟩
theorem wtick_any (B p : Nat) (v sv : Value) (tn tm ta : Int) (l : List UInt8) (xs : List Int) (w : World) (W : Wr wB w B p v l) (hB : B <= w.heap.size) (hs : RdI w sv xs) (hb : ∀ b, sv.ownBlock = some b -> Far p v b) (hr : ∀ o ∈ xs, whole o) (hn : xs.length <= 255) (h1 : whole tn) (h2 : whole tm) (h3 : -9223372036854775808 <= ta /\ ta <= 9223372036854775807) (hl' : l.length <= 10000000) :
  Calls Try.prog 53 #[.pointer (some ⟨p, 0, none⟩), .agg #[.int .i64 tn, .int .i64 tm, sv, .int .i64 ta]] w fun e w' => e = .returned (.tuple #[]) /\ ∃ v', Wr wB w' B p v' (l ++ (xqb tn ++ (xqb tm ++ (openL xs ++ intL ta)))) /\ Wtp w w' [p] v v' := by
 obtain ⟨sa, sc, rfl, _⟩ := id hs
 obtain ⟨W1, hW1⟩ : ∃ W1, W1 = (w.alloc (.cells #[.pointer (some ⟨p, 0, none⟩)] 79)).alloc (.cells #[.int .i64 tn, .int .i64 tm, .slice sa xs.length sc, .int .i64 ta] 33) := ⟨_, rfl⟩
 have hz : (w.alloc (.cells #[.pointer (some ⟨p, 0, none⟩)] 79)).heap.size = w.heap.size + 1 := by simp
 have k1 : Kept w W1 [] := by rw [hW1]; exact ((Kept.refl w []).alloc _).alloc _
 have b1 : W1.heap[w.heap.size + 1]? = some (.cells #[.int .i64 tn, .int .i64 tm, .slice sa xs.length sc, .int .i64 ta] 33 (0, 0)) := by rw [hW1, <- hz]; exact heap_alloc_new _ _
 have b2 : W1.heap[w.heap.size]? = some (.cells #[.pointer (some ⟨p, 0, none⟩)] 79 (0, 0)) := by rw [hW1]; exact ((Kept.refl _ []).alloc _).heap (by simp) (heap_alloc_new w _)
 obtain ⟨g1, s1, C1⟩ := Cap.made W k1 b1 b2 (by omega) (Nat.le_refl _)
 have CS : RowKit.Hid (∀ V v', Wtp W1 V [p] v v' -> V.cell? ⟨w.heap.size, 0, none⟩ = some (.pointer (some ⟨p, 0, none⟩)) /\ ∀ j, V.cell? ⟨w.heap.size + 1, j, none⟩ = (#[.int .i64 tn, .int .i64 tm, .slice sa xs.length sc, .int .i64 ta] : Array Value)[j]?) := iH (fun V v' s => ⟨cell_of_row V _ 0 _ _ _ (s.heap C1.fw C1.bw), fun j => cell_of_row V _ j _ _ _ (s.heap C1.fl C1.bl)⟩)
 have c1 := (CS.out _ _ (Wtp.refl W1 [p] v)).1
 have c2 : W1.cell? ⟨w.heap.size + 1, 0, none⟩ = some (.int .i64 tn) := (CS.out _ _ (Wtp.refl W1 [p] v)).2 0
 have c3 : W1.cell? ⟨w.heap.size + 1, 1, none⟩ = some (.int .i64 tm) := (CS.out _ _ (Wtp.refl W1 [p] v)).2 1
 have hsz := Nat.le_trans hB k1.size
 have HN : RowKit.Hid (Calls Try.prog 49 #[.pointer (some ⟨p, 0, none⟩), .slice (some ⟨W1.heap.size, 0, none⟩) 2 2] (W1.alloc (.cells #[.int .i64 tn, .int .i64 tm] 2)) fun e w' => e = .returned (.tuple #[]) /\ ∃ v', Wr wB w' B p v' (l ++ (xqb tn ++ xqb tm)) /\ Wtp W1 w' [p] v v') := iH (by
  have h := nums_any B p v l _ [tn, tm] _ (g1.alloc (.cells #[.int .i64 tn, .int .i64 tm] 2)) (by simp; omega) (rdI_new (heap_alloc_new W1 _) rfl rfl (by simp)) (by intro x hx; simp only [List.mem_cons, List.not_mem_nil, or_false] at hx; rcases hx with rfl | rfl; exact h1; exact h2) (by simp) (fun b hb' => by simp only [Value.ownBlock, Option.some.injEq] at hb'; subst hb'; exact g1.far (Nat.le_refl _)) (by omega)
  refine h.mono ?_
  rintro e w' ⟨rfl, v', h1, h2⟩
  exact ⟨rfl, v', by simpa [xqf] using h1, ((Wtp.refl _ _ _).alloc _).trans h2⟩)
 have hten := xqc (n := tn.toNat) (by have := h1.2; omega)
 have htem := xqc (n := tm.toNat) (by have := h2.2; omega)
 have hl2 : (l ++ (xqb tn ++ xqb tm)).length <= 10000020 := by simp only [List.length_append, xqb]; omega
 have hop : (openL xs).length <= 2560 := by
  have hm := xqA xqb 10 xs (fun y hy => xqc (by have := (hr y hy).2; omega))
  have := xqc (n := xs.length) (by omega)
  simp only [openL, List.length_append]; omega
 have HM : RowKit.Hid (∀ (V : World) (v1 : Value), Wtp W1 V [p] v v1 -> Wr wB V B p v1 (l ++ (xqb tn ++ xqb tm)) -> Calls Try.prog 73 #[.pointer (some ⟨p, 0, none⟩), .int .i64 xs.length, .func (.func 80) #[] #[.pointer (some ⟨w.heap.size, 0, none⟩), .pointer (some ⟨w.heap.size + 1, 0, none⟩)]] V fun e w' => e = .returned (.tuple #[]) /\ ∃ v', Wr wB w' B p v' (l ++ (xqb tn ++ xqb tm) ++ openL xs) /\ Wtp W1 w' [p] v v') := iH (fun V v1 sV gV => by
  have h := wmany_any B p v1 _ xs.length 80 #[.pointer (some ⟨w.heap.size, 0, none⟩), .pointer (some ⟨w.heap.size + 1, 0, none⟩)] (fun k => xqf xqb (xs.take k)) V (fun _ _ => rfl) gV (Nat.le_trans hsz sV.1.size) hn (by omega) (by simp [xqf]) (fun k v' Z hk hg hs' => by
   have hs2 := sV.trans hs'
   have hm := xqA xqb 10 (xs.take k) (fun y hy => xqc (by have := (hr y (List.mem_of_mem_take hy)).2; omega))
   have hten := xqc (n := xs.length) (by omega)
   have := wopen_any B p (w.heap.size + 1) w.heap.size v' _ (.int .i64 tn) (.int .i64 tm) (.int .i64 ta) _ xs k Z hg (Nat.le_trans hsz hs2.1.size) (C1.on hs2) (hs2.rdI (hs.keep k1) hb) hk (fun b hb' => hs2.far (hb b hb') (by
    have hlt := (RdI.blk_lt hs hk b hb')
    have := k1.size
    omega)) hr (by rw [List.length_take] at hm; simp only [List.length_append] at *; omega)
   refine this.mono ?_
   rintro e w' ⟨rfl, v2, h1, h2⟩
   refine ⟨rfl, v2, ?_, h2⟩
   rw [xqY _ _ (List.getElem?_eq_getElem hk), <- List.append_assoc]
   exact h1)
  refine h.mono ?_
  rintro e w' ⟨rfl, v', h1, h2⟩
  refine ⟨rfl, v', ?_, sV.trans h2⟩
  rw [openL, <- List.append_assoc]
  simpa using h1)
 have S1 := iH s1; have SZ := iH hsz; have H3 := iH h3; have HL := iH hl2; have HO := iH hop
 clear s1 g1 C1 k1 b1 b2 hs hb hr hl' hz hB hsz h1 h2 h3 hn hten htem hl2 hop W
 go_enter Try.func53, Try.ntmps53
 go_upto_region 1 with fail
 rw [<- hW1]
 clear hW1
 go_wp2_with fail
 refine HN.out.mono ?_
 rintro e w2 ⟨rfl, v2, g2, s2⟩
 have G2 := iH g2; have S2 := iH s2
 clear g2 s2 c1 c2 c3
 have c1 := (CS.out _ _ S2.out).1
 have c2 : w2.cell? ⟨w.heap.size + 1, 2, none⟩ = some (.slice sa xs.length sc) := (CS.out _ _ S2.out).2 2
 go_wp2_with fail
 refine (HM.out _ _ S2.out G2.out).mono ?_
 rintro e w3 ⟨rfl, v3, g3, s3⟩
 have G3 := iH g3; have S3 := iH s3
 clear g3 s3 c1 c2
 have k8 := G3.out.drew
 have t8 := S3.out.drew
 have y2 : w3.drew.cell? ⟨w.heap.size, 0, none⟩ = some (.pointer (some ⟨p, 0, none⟩)) /\ w3.drew.cell? ⟨w.heap.size + 1, 3, none⟩ = some (.int .i64 ta) := ⟨(CS.out _ _ t8).1, (CS.out _ _ t8).2 3⟩
 go_wp2_with fail
 go_region_held3 (fun V => V.cell? ⟨w.heap.size, 0, none⟩ = some (.pointer (some ⟨p, 0, none⟩)) /\ V.cell? ⟨w.heap.size + 1, 3, none⟩ = some (.int .i64 ta)) (exact y2)
  (first
   | (go_at_call 52; refine (int_any B p v3 _ ta _ k8 ?_ H3.out ?_).mono ?_; (have := SZ.out; have := t8.1.size; omega); (have := HL.out; have := HO.out; rw [List.length_append]; omega); rintro e w4 ⟨rfl, v4, g4, s4⟩; have t4 := t8.trans s4; have y2 : w4.cell? ⟨w.heap.size, 0, none⟩ = some (.pointer (some ⟨p, 0, none⟩)) /\ w4.cell? ⟨w.heap.size + 1, 3, none⟩ = some (.int .i64 ta) := ⟨(CS.out _ _ t4).1, (CS.out _ _ t4).2 3⟩))
 have G4 := iH g4; have S4 := iH t4
 clear g4 s4 t4 y2 k8 t8
 go_wp2
 go_end0
 exact ⟨rfl, v4, by simpa only [List.append_assoc] using G4.out, S1.out.trans S4.out⟩
end Go.Proofs.Ytjdbmlifekghfaa
