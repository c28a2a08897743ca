/-
  Eqa, Epa, Eoa, Eob in one text.
-/
import Derived.Test.YtjdbmlifekghfaaEt0
import Derived.Test.YtjdbmlifekghfaaEt9
import Derived.Laws.StructEq
import Derived.Deep.QuietTactic
import Derived.BigQuiet
import Derived.LoopTactic
import Derived.Test.YtjdbmlifekghfaaEt6
import Derived.Test.YtjdbmlifekghfaaEt5
import Derived.Deep.RegionHeld3
import Derived.Deep.DeepCutAuto
import Derived.Lib.SliceRun
import Derived.Shelf.Abstract
set_option linter.unusedVariables false
set_option maxHeartbeats 16000000
set_option maxRecDepth 100000
namespace Go.Proofs.Ytjdbmlifekghfaa
open Go.RowKit
def EqP (P : Prop) (w : World) (e : Ending) (w' : World) : Prop := ∃ r : Bool, e = .returned (.bool r) /\ (r = true ↔ P) /\ Kept w w' []
def strB (a b : ByteArray) : Bool := decide (a = b)
theorem strB_list {a b : ByteArray} : strB a b = (a.toList == b.toList) := by
 unfold strB
 by_cases h : a = b
 ·subst h; simp
 rw [decide_eq_false h]
 symm
 rw [beq_eq_false_iff_ne]
 intro e
 apply h
 rw [ByteArray.toList_eq, ByteArray.toList_eq] at e
 exact ByteArray.ext (Array.toList_inj.1 e)
def oxB (a b : Ox) : Bool := (a.tb == b.tb) && ((a.g == b.g) && ((a.key == b.key) && strB a.t b.t))
theorem oxB_iff (a b : Ox) : oxB a b = true ↔ a = b := by
 obtain ⟨a1, a2, a3, a4⟩ := a
 obtain ⟨b1, b2, b3, b4⟩ := b
 simp only [oxB, strB, Bool.and_eq_true, beq_iff_eq, Ox.mk.injEq, decide_eq_true_eq]
def pxB (a b : Px) : Bool := (a.sp == b.sp) && ((a.ev.id == b.ev.id) && ((a.ev.tx == b.ev.tx) && (strB a.ev.ow b.ev.ow && ((a.ev.tr == b.ev.tr) && ((a.ev.tb == b.ev.tb) && ((a.ev.kd == b.ev.kd) && ((a.ev.key == b.ev.key) && strB a.ev.t b.ev.t)))))))
theorem pxB_iff (a b : Px) : pxB a b = true ↔ a = b := by
 obtain ⟨a0, a1, a2, a3, a4, a5, a6, a7, a8⟩ := a
 obtain ⟨b0, b1, b2, b3, b4, b5, b6, b7, b8⟩ := b
 simp only [pxB, strB, Bool.and_eq_true, beq_iff_eq, Px.mk.injEq, Ev.mk.injEq, decide_eq_true_eq]
theorem ox_ne (a0 : Int) (a1 : Bool) (a2 : Int) (a3 : ByteArray) (b0 : Int) (b1 : Bool) (b2 : Int) (b3 : ByteArray) (w : World) :
  (binOp .neq 67 (.agg #[.int .i64 a0, .bool a1, .int .i64 a2, .string a3]) (.agg #[.int .i64 b0, .bool b1, .int .i64 b2, .string b3])).run Try.prog w = .ok (.bool (!oxB (⟨a0, a1, a2, a3⟩ : Ox) (⟨b0, b1, b2, b3⟩ : Ox))) w := by
 rw [run_neq_struct]
 unfold oxB
 dsimp only
 simp only [strB_list]
 cases h0 : a0 == b0
 ·go_simp
 cases h1 : a1 == b1
 ·go_simp
 cases h2 : a2 == b2
 ·go_simp
 cases h3 : a3.toList == b3.toList
 ·go_simp
 ·go_simp
theorem rox_ne (a0 : Int) (a1 : Bool) (a2 : Int) (a3 : ByteArray) (b0 : Int) (b1 : Bool) (b2 : Int) (b3 : ByteArray) (w : World) :
  (binOp .neq 63 (.agg #[.int .i64 a0, .bool a1, .int .i64 a2, .string a3]) (.agg #[.int .i64 b0, .bool b1, .int .i64 b2, .string b3])).run Try.prog w = .ok (.bool (!oxB (⟨a0, a1, a2, a3⟩ : Ox) (⟨b0, b1, b2, b3⟩ : Ox))) w := by
 rw [run_neq_struct]
 unfold oxB
 dsimp only
 simp only [strB_list]
 cases h0 : a0 == b0
 ·go_simp
 cases h1 : a1 == b1
 ·go_simp
 cases h2 : a2 == b2
 ·go_simp
 cases h3 : a3.toList == b3.toList
 ·go_simp
 ·go_simp
theorem px_ne (a0 : Int) (a1 : Int) (a2 : Int) (a3 : ByteArray) (a4 : Int) (a5 : Int) (a6 : Int) (a7 : Int) (a8 : ByteArray) (b0 : Int) (b1 : Int) (b2 : Int) (b3 : ByteArray) (b4 : Int) (b5 : Int) (b6 : Int) (b7 : Int) (b8 : ByteArray) (w : World) :
  (binOp .neq 71 (.agg #[.int .i64 a0, .int .i64 a1, .int .i64 a2, .string a3, .int .i64 a4, .int .i64 a5, .int .u8 a6, .int .i64 a7, .string a8]) (.agg #[.int .i64 b0, .int .i64 b1, .int .i64 b2, .string b3, .int .i64 b4, .int .i64 b5, .int .u8 b6, .int .i64 b7, .string b8])).run Try.prog w = .ok (.bool (!pxB (⟨a0, ⟨a1, a2, a3, a4, a5, a6, a7, a8⟩⟩ : Px) (⟨b0, ⟨b1, b2, b3, b4, b5, b6, b7, b8⟩⟩ : Px))) w := by
 rw [run_neq_struct]
 unfold pxB
 dsimp only
 simp only [strB_list]
 cases h0 : a0 == b0
 ·go_simp
 cases h1 : a1 == b1
 ·go_simp
 cases h2 : a2 == b2
 ·go_simp
 cases h3 : a3.toList == b3.toList
 ·go_simp
 cases h4 : a4 == b4
 ·go_simp
 cases h5 : a5 == b5
 ·go_simp
 cases h6 : a6 == b6
 ·go_simp
 cases h7 : a7 == b7
 ·go_simp
 cases h8 : a8.toList == b8.toList
 ·go_simp
 ·go_simp
theorem rpx_ne (a0 : Int) (a1 : Int) (a2 : Int) (a3 : ByteArray) (a4 : Int) (a5 : Int) (a6 : Int) (a7 : Int) (a8 : ByteArray) (b0 : Int) (b1 : Int) (b2 : Int) (b3 : ByteArray) (b4 : Int) (b5 : Int) (b6 : Int) (b7 : Int) (b8 : ByteArray) (w : World) :
  (binOp .neq 76 (.agg #[.int .i64 a0, .int .i64 a1, .int .i64 a2, .string a3, .int .i64 a4, .int .i64 a5, .int .u8 a6, .int .i64 a7, .string a8]) (.agg #[.int .i64 b0, .int .i64 b1, .int .i64 b2, .string b3, .int .i64 b4, .int .i64 b5, .int .u8 b6, .int .i64 b7, .string b8])).run Try.prog w = .ok (.bool (!pxB (⟨a0, ⟨a1, a2, a3, a4, a5, a6, a7, a8⟩⟩ : Px) (⟨b0, ⟨b1, b2, b3, b4, b5, b6, b7, b8⟩⟩ : Px))) w := by
 rw [run_neq_struct]
 unfold pxB
 dsimp only
 simp only [strB_list]
 cases h0 : a0 == b0
 ·go_simp
 cases h1 : a1 == b1
 ·go_simp
 cases h2 : a2 == b2
 ·go_simp
 cases h3 : a3.toList == b3.toList
 ·go_simp
 cases h4 : a4 == b4
 ·go_simp
 cases h5 : a5 == b5
 ·go_simp
 cases h6 : a6 == b6
 ·go_simp
 cases h7 : a7 == b7
 ·go_simp
 cases h8 : a8.toList == b8.toList
 ·go_simp
 ·go_simp
theorem xqS (va vb : Value) (l m : List Ox) (w : World) (ha : RdK encO w va l) (hb : RdK encO w vb m) (hl : l.length <= 1000000) (hm : m.length <= 1000000) :
  Calls Try.prog 44 #[va, vb] w fun e w' => EqP (l = m) w e w' := by
 have HA := iH ha; have HB := iH hb
 obtain ⟨aa, ac, rfl, _⟩ := ha
 obtain ⟨ba, bc1, rfl, _⟩ := hb
 by_cases hlen : l.length = m.length
 ·have h1 : ((l.length : Int) != (m.length : Int)) = false := by simp; omega
  have HL := iH hlen
  clear hlen
  go_enter Try.func44, Try.ntmps44
  go_wp2
  go_loopw [5, 13] (fun _ t wr => ∃ k : Nat, k <= l.length /\ t = .int .i64 k /\ l.take k = m.take k /\ Kept w wr []) (fun _ t _ => l.length - (intOf t).toNat)
  case atStart => exact ⟨0, Nat.zero_le _, rfl, rfl, Kept.refl _ _⟩
  case round =>
  obtain ⟨k, hk, rfl, heq, hkw⟩ := hrel
  have He := iH heq; have KW := iH hkw
  clear heq hkw
  by_cases hlt : k < l.length
  ·have hltm : k < m.length := by have := HL.out; omega
   obtain ⟨x, hx⟩ : ∃ x, l[k]? = some x := ⟨_, List.getElem?_eq_getElem hlt⟩
   obtain ⟨y, hy⟩ : ∃ y, m[k]? = some y := ⟨_, List.getElem?_eq_getElem hltm⟩
   obtain ⟨ab, ao, rfl, ca⟩ := (HA.out.keep KW.out).at hx
   obtain ⟨bb, bo, rfl, cb⟩ := (HB.out.keep KW.out).at hy
   obtain ⟨x0, x1, x2, x3⟩ := x
   obtain ⟨y0, y1, y2, y3⟩ := y
   have ca0 : wr.cell? ⟨ab, ao + k * 4, none⟩ = some (.int .i64 x0) := ca 0 (by decide)
   have cb0 : wr.cell? ⟨bb, bo + k * 4, none⟩ = some (.int .i64 y0) := cb 0 (by decide)
   have ca1 : wr.cell? ⟨ab, ao + k * 4 + 1, none⟩ = some (.bool x1) := ca 1 (by decide)
   have cb1 : wr.cell? ⟨bb, bo + k * 4 + 1, none⟩ = some (.bool y1) := cb 1 (by decide)
   have ca2 : wr.cell? ⟨ab, ao + k * 4 + 2, none⟩ = some (.int .i64 x2) := ca 2 (by decide)
   have cb2 : wr.cell? ⟨bb, bo + k * 4 + 2, none⟩ = some (.int .i64 y2) := cb 2 (by decide)
   have ca3 : wr.cell? ⟨ab, ao + k * 4 + 3, none⟩ = some (.string x3) := ca 3 (by decide)
   have cb3 : wr.cell? ⟨bb, bo + k * 4 + 3, none⟩ = some (.string y3) := cb 3 (by decide)
   have hn := ox_ne x0 x1 x2 x3 y0 y1 y2 y3
   obtain ⟨r, hr⟩ : ∃ r, r = oxB (⟨x0, x1, x2, x3⟩ : Ox) (⟨y0, y1, y2, y3⟩ : Ox) := ⟨_, rfl⟩
   rw [<- hr] at hn
   have HX := iH hx; have HY := iH hy
   have HR : RowKit.Hid (r = true ↔ (⟨x0, x1, x2, x3⟩ : Ox) = (⟨y0, y1, y2, y3⟩ : Ox)) := iH (by rw [hr]; exact oxB_iff _ _)
   have x1 : (k : Int) < (l.length : Int) := by omega
   have x2 : (k : Int) < (m.length : Int) := by omega
   clear hx hy ca cb hr
   cases r with
   | false =>
   go_wp2
   go_quiet (fail)
   go_wp2
   go_ret
   refine ⟨false, rfl, ⟨fun h => absurd h (by decide), fun h => ?_⟩, KW.out.drewN _⟩
   have := HX.out
   rw [h, HY.out] at this
   exact absurd (HR.out.2 (Option.some.inj this).symm) (by decide)
   | true =>
   go_wp2
   go_quiet (fail)
   go_wp2
   go_roundw
   case rel =>
    refine ⟨k + 1, by omega, by go_num, ?_, KW.out.drewN _⟩
    rw [List.take_add_one, List.take_add_one, He.out, HX.out, HY.out, HR.out.1 (by trivial)]
   case measure => simp [intOf]; omega
  have x1 : ¬ (k : Int) < (l.length : Int) := by omega
  have Hf : RowKit.Hid (l = m) := iH (by
   have h := He.out
   rw [List.take_of_length_le (by omega), List.take_of_length_le (by have := HL.out; omega)] at h
   exact h)
  go_wp2
  go_ret
  exact ⟨true, rfl, ⟨fun _ => Hf.out, fun _ => rfl⟩, KW.out⟩
 ·have h1 : ((l.length : Int) != (m.length : Int)) = true := by rw [bne_iff_ne]; omega
  have HN : RowKit.Hid (l ≠ m) := iH (by rintro rfl; exact hlen rfl)
  clear hlen
  go_enter Try.func44, Try.ntmps44
  go_wp2
  go_ret
  exact ⟨false, rfl, ⟨fun h => absurd h (by decide), fun h => absurd h HN.out⟩, Kept.refl _ _⟩
theorem xqR (va vb : Value) (l m : List Px) (w : World) (ha : RdK encP w va l) (hb : RdK encP w vb m) (hl : l.length <= 1000000) (hm : m.length <= 1000000) :
  Calls Try.prog 45 #[va, vb] w fun e w' => EqP (l = m) w e w' := by
 have HA := iH ha; have HB := iH hb
 obtain ⟨aa, ac, rfl, _⟩ := ha
 obtain ⟨ba, bc1, rfl, _⟩ := hb
 by_cases hlen : l.length = m.length
 ·have h1 : ((l.length : Int) != (m.length : Int)) = false := by simp; omega
  have HL := iH hlen
  clear hlen
  go_enter Try.func45, Try.ntmps45
  go_wp2
  go_loopw [5, 13] (fun _ t wr => ∃ k : Nat, k <= l.length /\ t = .int .i64 k /\ l.take k = m.take k /\ Kept w wr []) (fun _ t _ => l.length - (intOf t).toNat)
  case atStart => exact ⟨0, Nat.zero_le _, rfl, rfl, Kept.refl _ _⟩
  case round =>
  obtain ⟨k, hk, rfl, heq, hkw⟩ := hrel
  have He := iH heq; have KW := iH hkw
  clear heq hkw
  by_cases hlt : k < l.length
  ·have hltm : k < m.length := by have := HL.out; omega
   obtain ⟨x, hx⟩ : ∃ x, l[k]? = some x := ⟨_, List.getElem?_eq_getElem hlt⟩
   obtain ⟨y, hy⟩ : ∃ y, m[k]? = some y := ⟨_, List.getElem?_eq_getElem hltm⟩
   obtain ⟨ab, ao, rfl, ca⟩ := (HA.out.keep KW.out).at hx
   obtain ⟨bb, bo, rfl, cb⟩ := (HB.out.keep KW.out).at hy
   obtain ⟨x0, ⟨x1, x2, x3, x4, x5, x6, x7, x8⟩⟩ := x
   obtain ⟨y0, ⟨y1, y2, y3, y4, y5, y6, y7, y8⟩⟩ := y
   have ca0 : wr.cell? ⟨ab, ao + k * 9, none⟩ = some (.int .i64 x0) := ca 0 (by decide)
   have cb0 : wr.cell? ⟨bb, bo + k * 9, none⟩ = some (.int .i64 y0) := cb 0 (by decide)
   have ca1 : wr.cell? ⟨ab, ao + k * 9 + 1, none⟩ = some (.int .i64 x1) := ca 1 (by decide)
   have cb1 : wr.cell? ⟨bb, bo + k * 9 + 1, none⟩ = some (.int .i64 y1) := cb 1 (by decide)
   have ca2 : wr.cell? ⟨ab, ao + k * 9 + 2, none⟩ = some (.int .i64 x2) := ca 2 (by decide)
   have cb2 : wr.cell? ⟨bb, bo + k * 9 + 2, none⟩ = some (.int .i64 y2) := cb 2 (by decide)
   have ca3 : wr.cell? ⟨ab, ao + k * 9 + 3, none⟩ = some (.string x3) := ca 3 (by decide)
   have cb3 : wr.cell? ⟨bb, bo + k * 9 + 3, none⟩ = some (.string y3) := cb 3 (by decide)
   have ca4 : wr.cell? ⟨ab, ao + k * 9 + 4, none⟩ = some (.int .i64 x4) := ca 4 (by decide)
   have cb4 : wr.cell? ⟨bb, bo + k * 9 + 4, none⟩ = some (.int .i64 y4) := cb 4 (by decide)
   have ca5 : wr.cell? ⟨ab, ao + k * 9 + 5, none⟩ = some (.int .i64 x5) := ca 5 (by decide)
   have cb5 : wr.cell? ⟨bb, bo + k * 9 + 5, none⟩ = some (.int .i64 y5) := cb 5 (by decide)
   have ca6 : wr.cell? ⟨ab, ao + k * 9 + 6, none⟩ = some (.int .u8 x6) := ca 6 (by decide)
   have cb6 : wr.cell? ⟨bb, bo + k * 9 + 6, none⟩ = some (.int .u8 y6) := cb 6 (by decide)
   have ca7 : wr.cell? ⟨ab, ao + k * 9 + 7, none⟩ = some (.int .i64 x7) := ca 7 (by decide)
   have cb7 : wr.cell? ⟨bb, bo + k * 9 + 7, none⟩ = some (.int .i64 y7) := cb 7 (by decide)
   have ca8 : wr.cell? ⟨ab, ao + k * 9 + 8, none⟩ = some (.string x8) := ca 8 (by decide)
   have cb8 : wr.cell? ⟨bb, bo + k * 9 + 8, none⟩ = some (.string y8) := cb 8 (by decide)
   have hn := px_ne x0 x1 x2 x3 x4 x5 x6 x7 x8 y0 y1 y2 y3 y4 y5 y6 y7 y8
   obtain ⟨r, hr⟩ : ∃ r, r = pxB (⟨x0, ⟨x1, x2, x3, x4, x5, x6, x7, x8⟩⟩ : Px) (⟨y0, ⟨y1, y2, y3, y4, y5, y6, y7, y8⟩⟩ : Px) := ⟨_, rfl⟩
   rw [<- hr] at hn
   have HX := iH hx; have HY := iH hy
   have HR : RowKit.Hid (r = true ↔ (⟨x0, ⟨x1, x2, x3, x4, x5, x6, x7, x8⟩⟩ : Px) = (⟨y0, ⟨y1, y2, y3, y4, y5, y6, y7, y8⟩⟩ : Px)) := iH (by rw [hr]; exact pxB_iff _ _)
   have x1 : (k : Int) < (l.length : Int) := by omega
   have x2 : (k : Int) < (m.length : Int) := by omega
   clear hx hy ca cb hr
   cases r with
   | false =>
   go_wp2
   go_quiet (fail)
   go_wp2
   go_ret
   refine ⟨false, rfl, ⟨fun h => absurd h (by decide), fun h => ?_⟩, KW.out.drewN _⟩
   have := HX.out
   rw [h, HY.out] at this
   exact absurd (HR.out.2 (Option.some.inj this).symm) (by decide)
   | true =>
   go_wp2
   go_quiet (fail)
   go_wp2
   go_roundw
   case rel =>
    refine ⟨k + 1, by omega, by go_num, ?_, KW.out.drewN _⟩
    rw [List.take_add_one, List.take_add_one, He.out, HX.out, HY.out, HR.out.1 (by trivial)]
   case measure => simp [intOf]; omega
  have x1 : ¬ (k : Int) < (l.length : Int) := by omega
  have Hf : RowKit.Hid (l = m) := iH (by
   have h := He.out
   rw [List.take_of_length_le (by omega), List.take_of_length_le (by have := HL.out; omega)] at h
   exact h)
  go_wp2
  go_ret
  exact ⟨true, rfl, ⟨fun _ => Hf.out, fun _ => rfl⟩, KW.out⟩
 ·have h1 : ((l.length : Int) != (m.length : Int)) = true := by rw [bne_iff_ne]; omega
  have HN : RowKit.Hid (l ≠ m) := iH (by rintro rfl; exact hlen rfl)
  clear hlen
  go_enter Try.func45, Try.ntmps45
  go_wp2
  go_ret
  exact ⟨false, rfl, ⟨fun h => absurd h (by decide), fun h => absurd h HN.out⟩, Kept.refl _ _⟩
def GPost (w : World) (v : Value) (a : Value) (e : Int) (l : List UInt8) (en : Ending) (w' : World) : Prop :=
 ∃ v', en = .returned (.tuple #[a, .agg #[v', .int .i64 e]]) /\ Rd w' v' l /\ Kept w w' [] /\ (∀ x, v'.ownBlock = some x -> v.ownBlock = some x)
theorem rNum_zero {e : Int} {l : List UInt8} (h : (rNum e l).2.2 ≠ 0) : (rNum e l).1 = 0 := by
 unfold rNum at h ⊢
 split
 ·split
  ·rename_i h1 h2
   rw [if_pos h1, if_pos h2] at h
   exact absurd rfl h
  rfl
 rfl
theorem yqa (v : Value) (e : Int) (l : List UInt8) (hi : Nat) (w : World) (h : Rd w v l) (hl : l.length <= 1099511627796) (hm : hi <= 9223372036854775807) :
  Calls Try.prog 36 #[.agg #[v, .int .i64 e], .int .u64 hi] w fun en w' => GPost w v (.int .i64 ((rfN 0 hi e l).1 : Nat)) (rfN 0 hi e l).2.2 (rfN 0 hi e l).2.1 en w' := by
 have H := iH h
 obtain ⟨a, len, c, hv⟩ := h.shape3
 clear h
 subst hv
 have hln := xqt e l
 have hnb := rNum_lt e l
 have hz := rNum_zero (e := e) (l := l)
 obtain ⟨n, hn⟩ : ∃ n, n = (rNum e l).1 := ⟨_, rfl⟩
 obtain ⟨l1, hl1⟩ : ∃ l1, l1 = (rNum e l).2.1 := ⟨_, rfl⟩
 obtain ⟨e1, he1⟩ : ∃ e1, e1 = (rNum e l).2.2 := ⟨_, rfl⟩
 have hT : rfN 0 hi e l = if badN 0 hi e1 n = true then (0, [], 2) else (n, l1, e1) := by rw [rfN, <- hn, <- he1, hn, hl1, he1]
 rw [<- hl1] at hln
 rw [<- hn] at hnb
 rw [<- hn, <- he1] at hz
 have Hn := iH hn; have Hl1 := iH hl1; have He1 := iH he1; have HT := iH hT
 clear hn hl1 he1 hT
 go_enter Try.func36, Try.ntmps36
 go_wp2_with fail
 refine (yqb _ e l _ (H.out.kept (((Kept.refl w []).alloc _).alloc _) (by simp)) hl).mono ?_
 rintro en w1 ⟨v1, rfl, hr1, hk1, hb1⟩
 rw [<- Hn.out, <- He1.out]
 rw [<- Hl1.out] at hr1
 have hB : w1.heap[w.heap.size + 1]? = some (.cells #[.slice none 0 0, .int .i64 0] 95 (0, 0)) := hk1.heap (by simp) (by
  have := heap_alloc_new (w.alloc (.cells #[.slice a len c, .int .i64 e] 95)) (.cells #[.slice none 0 0, .int .i64 0] 95)
  simpa using this)
 have hlt : w.heap.size + 1 < w1.heap.size := (Array.getElem?_eq_some_iff.1 hB).1
 have k0 : w1.cell? ⟨w.heap.size + 1, 0, none⟩ = some (.slice none 0 0) := by simpa using cell_of_row w1 (w.heap.size + 1) 0 _ _ _ hB
 have k1 : w1.cell? ⟨w.heap.size + 1, 1, none⟩ = some (.int .i64 0) := by simpa using cell_of_row w1 (w.heap.size + 1) 1 _ _ _ hB
 have f0 := frozen_of_row w1 (w.heap.size + 1) 0 _ _ hB
 have f1 := frozen_of_row w1 (w.heap.size + 1) 1 _ _ hB
 obtain ⟨a1, c1, hv1, hc1, hna1, hcell1⟩ := id hr1
 have Hr1 := iH hr1; have Hk1 := iH (((((Kept.refl w []).alloc _).alloc _)).trans hk1 (by simp)); have Hb1 := iH hb1; have HB := iH hB
 clear hr1 hk1 hb1 hB hcell1 hna1 hc1
 subst hv1
 by_cases hb : badN 0 hi e1 n = true
 ·have HX : RowKit.Hid (rfN 0 hi e l = (0, [], 2)) := iH (by rw [HT.out, if_pos hb])
  unfold badN at hb
  simp only [Bool.and_eq_true, Bool.or_eq_true, decide_eq_true_eq] at hb
  obtain ⟨rfl, hb⟩ := hb
  obtain ⟨q0, q1⟩ := xqw HB.out (.slice none 0 0) (.int .i64 2) (.cells #[.slice a1 l1.length c1, .int .i64 0] 95)
  have x2 : (hi : Int) < (n : Int) := by omega
  clear hb hz
  go_wp2
  refine bodyPost_ret (v := .tuple #[.int .i64 0, .agg #[.slice none 0 0, .int .i64 2]]) (by simp [results, Try.results36, go_sem, q0, q1]) rfl ?_
  rw [HX.out]
  exact ⟨_, rfl, Rd.nil _, Hk1.out.trans ((((Kept.refl w1 [w.heap.size + 1]).setCell (.inl (by simp)) _).setCell (.inl (by simp)) _).alloc _) (by simp), by simp [Value.ownBlock]⟩
 ·have HX : RowKit.Hid (rfN 0 hi e l = (n, l1, e1)) := iH (by rw [HT.out, if_neg hb])
  obtain ⟨q0, q1⟩ := xqw HB.out (.slice a1 l1.length c1) (.int .i64 e1) (.cells #[.slice a1 l1.length c1, .int .i64 e1] 95)
  have hk3 : ∀ ob : Obj, Kept w1 (((w1.setCell ⟨w.heap.size + 1, 0, none⟩ (.slice a1 l1.length c1)).setCell ⟨w.heap.size + 1, 1, none⟩ (.int .i64 e1)).alloc ob).drew [w.heap.size + 1] := fun ob =>
   ((((Kept.refl w1 _).setCell (.inl (by simp)) _).setCell (.inl (by simp)) _).alloc ob).drew
  by_cases he : e1 = 0
  ·subst he
   have x2 : ¬ (hi : Int) < (n : Int) := by intro hx; apply hb; simp [badN]; omega
   have w3 : wrap64 (n : Int) = n := xqZ (by omega)
   clear hb hz
   go_wp2
   go_region
   go_wp2
   refine bodyPost_ret (v := .tuple #[.int .i64 n, .agg #[.slice a1 l1.length c1, .int .i64 0]]) (by simp [results, Try.results36, go_sem, q0, q1]) rfl ?_
   rw [HX.out]
   exact ⟨_, rfl, Hr1.out.kept2 (hk3 _) (H.out.not_new hln Hb1.out (by omega)), Hk1.out.trans (hk3 _) (by simp), Hb1.out⟩
  have x0 : (e1 == 0) = false := by simpa using he
  obtain rfl := hz he
  clear hb he
  go_wp2
  go_region
  go_wp2
  refine bodyPost_ret (v := .tuple #[.int .i64 0, .agg #[.slice a1 l1.length c1, .int .i64 e1]]) (by simp [results, Try.results36, go_sem, q0, q1]) rfl ?_
  rw [HX.out]
  exact ⟨_, rfl, Hr1.out.kept2 (hk3 _) (H.out.not_new hln Hb1.out (by omega)), Hk1.out.trans (hk3 _) (by simp), Hb1.out⟩
theorem xqq (v : Value) (e : Int) (l : List UInt8) (w : World) (h : Rd w v l) (hl : l.length <= 1099511627796) :
  Calls Try.prog 32 #[.agg #[v, .int .i64 e]] w fun en w' => GPost w v (.int .i64 ((wA e l).1 : Nat)) (wA e l).2.2 (wA e l).2.1 en w' := by
 have H := iH h
 obtain ⟨a, len, c, hv⟩ := h.shape3
 clear h
 subst hv
 obtain ⟨n, hn⟩ : ∃ n, n = (wA e l).1 := ⟨_, rfl⟩
 obtain ⟨l1, hl1⟩ : ∃ l1, l1 = (wA e l).2.1 := ⟨_, rfl⟩
 obtain ⟨e1, he1⟩ : ∃ e1, e1 = (wA e l).2.2 := ⟨_, rfl⟩
 have hln : l1.length <= l.length := by rw [hl1]; exact xqm _ _ _ _
 have HG : RowKit.Hid (∀ V, Kept w V [] -> Calls Try.prog 36 #[.agg #[.slice a len c, .int .i64 e], .int .u64 9223372036854775807] V fun en w' => GPost V (.slice a len c) (.int .i64 (n : Nat)) e1 l1 en w') := iH (fun V hV => by
  have := yqa _ e l 9223372036854775807 V (H.out.kept hV (by simp)) hl (by omega)
  rw [hn, he1, hl1]
  exact this)
 rw [<- hn, <- hl1, <- he1]
 clear hn hl1 he1
 go_enter Try.func32, Try.ntmps32
 go_wp2_with fail
 refine (HG.out _ (((Kept.refl w []).alloc _).alloc _)).mono ?_
 rintro en w1 ⟨v1, rfl, hr1, hk1, hb1⟩
 have hB : w1.heap[w.heap.size + 1]? = some (.cells #[.slice none 0 0, .int .i64 0] 95 (0, 0)) := hk1.heap (by simp) (by
  have := heap_alloc_new (w.alloc (.cells #[.slice a len c, .int .i64 e] 95)) (.cells #[.slice none 0 0, .int .i64 0] 95)
  simpa using this)
 have k0 : w1.cell? ⟨w.heap.size + 1, 0, none⟩ = some (.slice none 0 0) := by simpa using cell_of_row w1 (w.heap.size + 1) 0 _ _ _ hB
 have k1 : w1.cell? ⟨w.heap.size + 1, 1, none⟩ = some (.int .i64 0) := by simpa using cell_of_row w1 (w.heap.size + 1) 1 _ _ _ hB
 have f0 := frozen_of_row w1 (w.heap.size + 1) 0 _ _ hB
 have f1 := frozen_of_row w1 (w.heap.size + 1) 1 _ _ hB
 obtain ⟨a1, c1, hv1, hc1, hna1, hcell1⟩ := id hr1
 have Hr1 := iH hr1; have Hk1 := iH (((((Kept.refl w []).alloc _).alloc _)).trans hk1 (by simp)); have Hb1 := iH hb1; have HB := iH hB
 clear hr1 hk1 hb1 hB hcell1 hna1 hc1
 subst hv1
 go_wp2
 have g0 := xqa HB.out 0 (.slice a1 l1.length c1)
 have g1 := xqa g0 1 (.int .i64 e1)
 simp only [List.setIfInBounds_toArray, List.set_cons_zero, List.set_cons_succ] at g1
 have q0 := cell_of_row _ _ 0 _ _ _ g1; have q1 := cell_of_row _ _ 1 _ _ _ g1
 simp at q0 q1
 have hk3 : Kept w1 ((w1.setCell ⟨w.heap.size + 1, 0, none⟩ (.slice a1 l1.length c1)).setCell ⟨w.heap.size + 1, 1, none⟩ (.int .i64 e1)) [w.heap.size + 1] := ((Kept.refl w1 _).setCell (.inl (by simp)) _).setCell (.inl (by simp)) _
 refine bodyPost_ret (v := .tuple #[.int .i64 n, .agg #[.slice a1 l1.length c1, .int .i64 e1]]) (by simp [results, Try.results32, go_sem, q0, q1]) rfl ?_
 exact ⟨_, rfl, Hr1.out.kept2 hk3 (H.out.not_new hln Hb1.out (by omega)), Hk1.out.trans hk3 (by simp), Hb1.out⟩
abbrev wB : Bx := ⟨83, [.bool false], by decide⟩
theorem Wr.bad {w : World} {B p : Nat} {v : Value} {l : List UInt8} (h : Wr wB w B p v l) : w.cell? ⟨p, 1, none⟩ = some (.bool false) /\ w.frozen? ⟨p, 1, none⟩ = false :=
 ⟨by simpa using cell_of_row w p 1 (v :: wB.r).toArray _ _ h.1, frozen_of_row w p 1 _ _ h.1⟩
theorem Wr.mark {w : World} {B p : Nat} {v : Value} {l : List UInt8} (h : Wr wB w B p v l) : Wr wB (w.setCell ⟨p, 1, none⟩ (.bool false)) B p v l /\ Wtp w (w.setCell ⟨p, 1, none⟩ (.bool false)) [p] v v := by
 have hk : Kept w (w.setCell ⟨p, 1, none⟩ (.bool false)) [p] := (Kept.refl w [p]).setCell (.inl (by simp)) _
 refine ⟨⟨by simpa using xqa h.1 1 (.bool false), h.2.kept hk (fun b hb => by simpa using h.2.apart h.1 wB.ne b hb)⟩, ⟨hk.mono (fun x hx => List.mem_append.2 (.inl hx)), .inl rfl⟩⟩
theorem Wr.size {R : Bx} {w : World} {B p : Nat} {v : Value} {l : List UInt8} (h : Wr R w B p v l) : p < w.heap.size := (Array.getElem?_eq_some_iff.1 h.1).1
theorem must_any (B p : Nat) (v : Value) (l : List UInt8) (w : World) (hw : Wr wB w B p v l) :
  Calls Try.prog 71 #[.pointer (some ⟨p, 0, none⟩), .bool true] w fun e w' => e = .returned (.tuple #[]) /\ Wr wB w' B p v l /\ Wtp w w' [p] v v := by
 obtain ⟨c1, f1⟩ := hw.bad
 have H := iH hw.mark; clear hw
 go_enter Try.func71, Try.ntmps71
 go_wp2
 go_end0
 exact ⟨rfl, H.out⟩
theorem flag_any (g : Bool) (w : World) :
  Calls Try.prog 75 #[.bool g] w fun e w' => e = .returned (.int .i64 (flag g : Nat)) /\ w' = w := by
 cases g
 ·go_enter Try.func75, Try.ntmps75
  go_wp2
  go_ret
  exact ⟨rfl, rfl⟩
 ·go_enter Try.func75, Try.ntmps75
  go_wp2
  go_ret
  exact ⟨rfl, rfl⟩
theorem Wtp.rdI {w w' : World} {p : Nat} {v v' sv : Value} {xs : List Int} (s : Wtp w w' [p] v v') (h : RdI w sv xs) (hb : ∀ b, sv.ownBlock = some b -> b ≠ p /\ v.ownBlock ≠ some b) : RdI w' sv xs :=
 h.kept s.1 (fun b hb' hm => by
  obtain ⟨h1, h2⟩ := hb b hb'
  rcases List.mem_append.1 hm with h | h
  ·exact h1 (by simpa using h)
  ·exact h2 (by simpa using h))
theorem nums_any (B p : Nat) (v : Value) (l : List UInt8) (sv : Value) (xs : List Int) (w : World) (hw : Wr wB w B p v l) (hB : B <= w.heap.size) (hs : RdI w sv xs) (hx : ∀ x ∈ xs, whole x) (hn : xs.length <= 10) (hb : ∀ b, sv.ownBlock = some b -> b ≠ p /\ v.ownBlock ≠ some b) (hl : l.length <= 1000000000) :
  Calls Try.prog 49 #[.pointer (some ⟨p, 0, none⟩), sv] w fun e w' => e = .returned (.tuple #[]) /\ ∃ v', Wr wB w' B p v' (l ++ xqf xqb xs) /\ Wtp w w' [p] v v' := by
 have HS := iH hs; have HB := iH hb; have HX := iH hx; have HW := iH hw
 obtain ⟨a, c, rfl, hc, hm, ha, hcell⟩ := hs
 have HC := iH hcell
 clear hb hx hw hcell ha hm hc
 go_enter Try.func49, Try.ntmps49
 go_wp2
 go_loopw [5, 8] (fun _ t wr => ∃ (k : Nat) (v' : Value), t = .int .i64 k /\ k <= xs.length /\ Wr wB wr B p v' (l ++ xqf xqb (xs.take k)) /\ Wtp w wr [p] v v') (fun _ t _ => xs.length - (intOf t).toNat)
 case atStart => exact ⟨0, v, rfl, Nat.zero_le _, by simpa [xqf] using HW.out, Wtp.refl _ _ _⟩
 case round =>
  obtain ⟨k, v1, rfl, hk, hw1, hs1⟩ := hrel
  have W1 := iH hw1; have S1 := iH hs1
  clear hw1 hs1
  by_cases hlt : k < xs.length
  ·obtain ⟨x, hxk⟩ : ∃ x, x = xs[k] := ⟨_, rfl⟩
   have hwx : whole x := HX.out x (by rw [hxk]; exact List.getElem_mem hlt)
   obtain ⟨n, rfl⟩ := Int.eq_ofNat_of_zero_le hwx.1
   obtain ⟨a', c', e1, _, _, _, hla⟩ := S1.out.rdI HS.out HB.out
   simp only [Value.slice.injEq, true_and] at e1
   obtain ⟨rfl, rfl⟩ := e1
   obtain ⟨sb, so, rfl, hcell⟩ := hla (by rintro rfl; simp at hlt)
   have c1 := hcell k hlt
   have hg : xs.getD k 0 = (n : Int) := by rw [List.getD, List.getElem?_eq_getElem hlt]; exact hxk.symm
   rw [hg] at c1
   have hbr : B <= wr.heap.size := Nat.le_trans hB S1.out.1.size
   have hn2 : n <= 9223372036854775807 := by have := hwx.2; omega
   have e0 : decide ((0 : Int) <= (n : Int)) = true := by simp
   have e3 : IntKind.u64.wrap (n : Int) = n := by rw [IntKind.wrap_u64]; omega
   have hlen : (l ++ xqf xqb (xs.take k)).length <= 1099511627776 := by
    have := xqA xqb 10 (xs.take k) (fun y hy => xqc (by have := (HX.out y (List.mem_of_mem_take hy)).2; omega))
    rw [List.length_append]; rw [List.length_take] at this; omega
   have hT : l ++ xqf xqb (xs.take (k + 1)) = l ++ xqf xqb (xs.take k) ++ numL n := by
    rw [List.take_succ_eq_append_getElem hlt, manyL_snoc, <- hxk, List.append_assoc]; rfl
   have HT := iH hT
   have x1 : (k : Int) < (xs.length : Int) := by omega
   have HN := iH hn2; have HL := iH hlen; have HBR := iH hbr
   clear hcell hla hxk hwx hg hT hlen hbr hn2
   go_wp2_with fail
   refine (must_any B p v1 _ wr W1.out).mono ?_
   rintro e w2 ⟨rfl, g2, s2⟩
   have G2 := iH g2; have S2 := iH s2
   clear g2 s2 c1
   go_wp2_with fail
   refine (num_any B p v1 _ n w2 G2.out (Nat.le_trans HBR.out S2.out.1.size) (by have := HN.out; omega) HL.out).mono ?_
   rintro e w3 ⟨rfl, v3, g3, s3⟩
   have G3 := iH g3; have S3 := iH ((S1.out.trans S2.out).trans s3)
   clear g3 s3
   go_wp2
   go_roundw
   case rel => exact ⟨k + 1, v3, by go_num, by omega, by rw [HT.out]; exact G3.out, S3.out⟩
   case measure => simp [intOf]; omega
  have x1 : ¬ (k : Int) < (xs.length : Int) := by omega
  have ek : xs.take k = xs := List.take_of_length_le (by omega)
  go_wp2
  go_end0
  have := W1.out
  rw [ek] at this
  exact ⟨rfl, v1, this, S1.out⟩
theorem etext_any (B p : Nat) (v : Value) (l : List UInt8) (s : ByteArray) (w : World) (hw : Wr wB w B p v l) (hB : B <= w.heap.size) (hs : s.size <= 40) (hl : l.length <= 1000000000) :
  Calls Try.prog 54 #[.pointer (some ⟨p, 0, none⟩), .string s] w fun e w' => e = .returned (.tuple #[]) /\ ∃ v', Wr wB w' B p v' (l ++ xqr s.data.toList) /\ Wtp w w' [p] v v' := by
 have HW := iH hw; clear hw
 have e0 : decide ((s.size : Int) <= 40) = true := by simp; omega
 go_enter Try.func54, Try.ntmps54
 go_wp2_with fail
 refine (must_any B p v _ w HW.out).mono ?_
 rintro e w2 ⟨rfl, g2, s2⟩
 have G2 := iH g2; have S2 := iH s2
 clear g2 s2
 go_wp2_with fail
 refine (text_any B p v _ s w2 G2.out (Nat.le_trans hB S2.out.1.size) (by omega) (by omega)).mono ?_
 rintro e w3 ⟨rfl, v3, g3, s3⟩
 have G3 := iH g3; have S3 := iH (S2.out.trans s3)
 clear g3 s3
 go_wp2
 go_end0
 exact ⟨rfl, v3, G3.out, S3.out⟩
theorem Wtp.alloc {a w : World} {ps : List Nat} {v v' : Value} (s : Wtp a w ps v v') (o : Obj) : Wtp a (w.alloc o) ps v v' := ⟨s.1.alloc o, s.2⟩
theorem Wtp.drew {a w : World} {ps : List Nat} {v v' : Value} (s : Wtp a w ps v v') : Wtp a w.drew ps v v' := ⟨s.1.drew, s.2⟩
theorem Wr.alloc {R : Bx} {w : World} {B p : Nat} {v : Value} {l : List UInt8} (h : Wr R w B p v l) (o : Obj) : Wr R (w.alloc o) B p v l := h.kept ((Kept.refl w []).alloc o) (by simp) (by simp)
theorem Wr.drew {R : Bx} {w : World} {B p : Nat} {v : Value} {l : List UInt8} (h : Wr R w B p v l) : Wr R w.drew B p v l := h.kept (Kept.refl w []).drew (by simp) (by simp)
def Far (p : Nat) (v : Value) (b : Nat) : Prop := b ≠ p /\ v.ownBlock ≠ some b
theorem Far.not {p : Nat} {v : Value} {b : Nat} (h : Far p v b) : b ∉ [p] ++ v.ownBlock.toList := by
 intro hm
 rcases List.mem_append.1 hm with h1 | h1
 ·exact h.1 (by simpa using h1)
 exact h.2 (by simpa using h1)
theorem Wtp.heap {a w : World} {p : Nat} {v v' : Value} (s : Wtp a w [p] v v') {b : Nat} (f : Far p v b) {o : Obj} (h : a.heap[b]? = some o) : w.heap[b]? = some o := s.1.heap f.not h
theorem Wtp.rdK {α : Type} {E : Enc α} {a w : World} {p : Nat} {v v' sv : Value} {xs : List α} (s : Wtp a w [p] v v') (h : RdK E a sv xs) (hb : ∀ b, sv.ownBlock = some b -> Far p v b) : RdK E w sv xs :=
 h.kept s.1 (fun b hb' => (hb b hb').not)
theorem Wtp.far {a w : World} {p : Nat} {v v' : Value} (s : Wtp a w [p] v v') {b : Nat} (f : Far p v b) (hb : b < a.heap.size) : Far p v' b := by
 refine ⟨f.1, fun e => ?_⟩
 rcases s.2 with h | ⟨g, h, hg⟩
 ·exact f.2 (h ▸ e)
 rw [h] at e; cases e; omega
theorem Wr.far {R : Bx} {w : World} {B p : Nat} {v : Value} {l : List UInt8} (h : Wr R w B p v l) {b : Nat} (hb : w.heap.size <= b) : Far p v b := by
 have h1 := h.size
 refine ⟨by omega, fun e => ?_⟩
 have := (h.2.lt b e).2
 omega
theorem rdI_new {w : World} {g n : Nat} {us : Array Value} {T : TypeId} {xs : List Int} (h : w.heap[g]? = some (.cells us T (0, 0))) (hu : us.toList = ic xs) (hn : xs.length = n) (hm : n <= 1000) : RdI w (.slice (some ⟨g, 0, none⟩) n n) xs := by
 refine ⟨some ⟨g, 0, none⟩, n, by rw [hn], by omega, by unfold maxLen; omega, by simp, fun _ => ⟨g, 0, rfl, fun i hi => ?_⟩⟩
 rw [cell_of_row w g _ _ _ _ h, Nat.zero_add, <- Array.getElem?_toList, hu, ic_get _ _ hi]
theorem wmany_any (B p : Nat) (v : Value) (l : List UInt8) (n c : Nat) (lb : Array Value) (G : Nat -> List UInt8) (a : World) (ec : ∀ args w, (callFunc c args).run Try.prog w = .ok (.enter c args) w)
  (hw : Wr wB a B p v l) (hB : B <= a.heap.size) (hn : n <= 255) (hl : l.length <= 1000000000) (hG : G 0 = [])
  (hc : ∀ (k : Nat) (v' : Value) (W : World), k < n -> Wr wB W B p v' (l ++ numL n ++ G k) -> Wtp a W [p] v v' ->
   Calls Try.prog c (#[.int .i64 k] ++ lb) W fun e w' => e = .returned (.tuple #[]) /\ ∃ v2, Wr wB w' B p v2 (l ++ numL n ++ G (k + 1)) /\ Wtp W w' [p] v' v2) :
  Calls Try.prog 73 #[.pointer (some ⟨p, 0, none⟩), .int .i64 n, .func (.func c) #[] lb] a fun e w' => e = .returned (.tuple #[]) /\ ∃ v', Wr wB w' B p v' (l ++ numL n ++ G n) /\ Wtp a w' [p] v v' := by
 have HW := iH hw; have HC := iH hc; have HG := iH hG; have HL := iH hl
 have e0 : decide ((n : Int) <= 255) = true := by simp; omega
 clear hw hc hG hl
 go_enter Try.func73, Try.ntmps73
 go_wp2_with fail
 refine (must_any B p v _ a HW.out).mono ?_
 rintro e w2 ⟨rfl, g2, s2⟩
 have G2 := iH g2; have S2 := iH s2
 obtain ⟨c1, _⟩ := g2.bad
 have hne := G2.out.far (Nat.le_refl _)
 have NE := iH hne
 clear g2 s2 hne
 go_wp2_with fail
 refine (nums_any B p v l _ [(n : Int)] _ (G2.out.alloc _) ?_ (rdI_new (heap_alloc_new w2 _) rfl rfl (by simp)) ?_ (by simp) ?_ HL.out).mono ?_
 ·have := S2.out.1.size; simp; omega
 ·intro x hx; simp only [List.mem_singleton] at hx; subst hx; exact ⟨by omega, by omega⟩
 ·intro b hb; simp only [Value.ownBlock, Option.some.injEq] at hb; subst hb; exact NE.out
 rintro e w3 ⟨rfl, v3, g3, s3⟩
 have G3 : RowKit.Hid (Wr wB w3 B p v3 (l ++ numL n ++ G 0)) := iH (by rw [HG.out, List.append_nil]; simpa [xqf, xqb] using g3)
 have S3 := iH ((S2.out.alloc _).trans s3)
 clear g3 s3 c1
 go_wp2
 go_loopw [6, 20] (fun _ t wr => ∃ (k : Nat) (v' : Value), t = .int .i64 k /\ k <= n /\ Wr wB wr B p v' (l ++ numL n ++ G k) /\ Wtp a wr [p] v v') (fun _ t _ => n - (intOf t).toNat)
 case atStart => exact ⟨0, v3, rfl, Nat.zero_le _, G3.out, S3.out⟩
 case round =>
  obtain ⟨k, v1, rfl, hk, hw1, hs1⟩ := hrel
  have W1 := iH hw1; have S1 := iH hs1
  clear hw1 hs1
  by_cases hlt : k < n
  ·have x1 : (k : Int) < (n : Int) := by omega
   have call := HC.out k v1 wr hlt W1.out S1.out
   go_wp2_with (go_at_fn c; refine call.mono ?_; rintro e w4 ⟨rfl, v4, g4, s4⟩)
   have G4 := iH g4; have S4 := iH s4
   clear g4 s4 call
   go_wp2
   go_roundw
   case rel => exact ⟨k + 1, v4, by go_num, by omega, G4.out, S1.out.trans S4.out⟩
   case measure => simp [intOf]; omega
  have x1 : ¬ (k : Int) < (n : Int) := by omega
  obtain rfl : k = n := by omega
  go_wp2
  go_end0
  exact ⟨rfl, v1, by simpa only [List.append_assoc] using W1.out, S1.out⟩
structure Cap (a : World) (p : Nat) (v : Value) (hl hw : Nat) (T : TypeId) (cs : Array Value) : Prop where
 bl : a.heap[hl]? = some (.cells cs T (0, 0))
 bw : a.heap[hw]? = some (.cells #[.pointer (some ⟨p, 0, none⟩)] 79 (0, 0))
 fl : Far p v hl
 fw : Far p v hw
theorem Cap.on {a w : World} {p : Nat} {v v' : Value} {hl hw : Nat} {T : TypeId} {cs : Array Value} (c : Cap a p v hl hw T cs) (s : Wtp a w [p] v v') : Cap w p v' hl hw T cs :=
 ⟨s.heap c.fl c.bl, s.heap c.fw c.bw, s.far c.fl (Array.getElem?_eq_some_iff.1 c.bl).1, s.far c.fw (Array.getElem?_eq_some_iff.1 c.bw).1⟩
theorem wop_any (B p hl hw : Nat) (v sv : Value) (l : List UInt8) (xs : List Ox) (k : Nat) (o : Ox) (w : World) (W : Wr wB w B p v l) (hB : B <= w.heap.size) (C : Cap w p v hl hw 38 #[sv]) (hs : RdK encO w sv xs) (hx : xs[k]? = some o) (hb : ∀ b, sv.ownBlock = some b -> Far p v b) (ho : o.Right) (hl' : l.length <= 100000000) :
  Calls Try.prog 74 #[.int .i64 k, .pointer (some ⟨hl, 0, none⟩), .pointer (some ⟨hw, 0, none⟩)] w fun e w' => e = .returned (.tuple #[]) /\ ∃ v', Wr wB w' B p v' (l ++ o.encL) /\ Wtp w w' [p] v v' := by
 obtain ⟨sa, sc, rfl, _⟩ := id hs
 obtain ⟨sb, so, rfl, hcell⟩ := hs.at hx
 obtain ⟨b0, b1, b2, b3⟩ := o
 have q0 : w.cell? ⟨sb, so + k * 4, none⟩ = some (.int .i64 b0) := hcell 0 (by decide)
 have q1 : w.cell? ⟨sb, so + k * 4 + 1, none⟩ = some (.bool b1) := hcell 1 (by decide)
 have q2 : w.cell? ⟨sb, so + k * 4 + 2, none⟩ = some (.int .i64 b2) := hcell 2 (by decide)
 have q3 : w.cell? ⟨sb, so + k * 4 + 3, none⟩ = some (.string b3) := hcell 3 (by decide)
 have xl : (k : Int) < (xs.length : Int) := by have := (List.getElem?_eq_some_iff.1 hx).1; omega
 have c0 : w.cell? ⟨hl, 0, none⟩ = some (.slice (some ⟨sb, so, none⟩) xs.length sc) := cell_of_row w hl 0 _ _ _ C.bl
 go_enter Try.func74, Try.ntmps74
 go_upto_region 1 with fail
 obtain ⟨W1, hW1⟩ : ∃ W1, W1 = w.alloc (.cells #[.int .i64 b0, .bool b1, .int .i64 b2, .string b3] 67) := ⟨_, rfl⟩
 rw [<- hW1]
 obtain ⟨z, hz⟩ : ∃ z, z = w.heap.size := ⟨_, rfl⟩
 rw [<- hz]
 have bz : W1.heap[z]? = some (.cells #[.int .i64 b0, .bool b1, .int .i64 b2, .string b3] 67 (0, 0)) := by rw [hW1, hz]; exact heap_alloc_new w _
 have s1 : Wtp w W1 [p] v v := by rw [hW1]; exact (Wtp.refl _ _ _).alloc _
 have k1 : Wr wB W1 B p v l := by rw [hW1]; exact W.alloc _
 have fz : Far p v z := by rw [hz]; exact W.far (Nat.le_refl _)
 have C1 := C.on s1
 have CS : RowKit.Hid (∀ V v', Wtp W1 V [p] v v' -> V.cell? ⟨hw, 0, none⟩ = some (.pointer (some ⟨p, 0, none⟩)) /\ ∀ j, V.cell? ⟨z, j, none⟩ = (#[.int .i64 b0, .bool b1, .int .i64 b2, .string b3] : Array Value)[j]?) := iH (fun V v' s => ⟨cell_of_row V hw 0 _ _ _ (s.heap C1.fw C1.bw), fun j => cell_of_row V z j _ _ _ (s.heap fz bz)⟩)
 have SZ : RowKit.Hid (B <= W1.heap.size) := iH (Nat.le_trans hB s1.1.size)
 have FS : RowKit.Hid (∀ V, Kept W1 V [] -> Far p v V.heap.size) := iH (fun V hk => by have h1 := k1.size; have h2 := hk.size; exact ⟨by omega, fun e => by have := (k1.2.lt _ e).2; omega⟩)
 have S1 := iH s1; have K1 := iH k1; have hT : 0 <= b0 /\ b0 <= 255 := ho.tb
 have hK : -9223372036854775808 <= b2 /\ b2 <= 9223372036854775807 := ho.key
 have hX : b3.size <= 40 := ho.t
 have HT := iH hT; have HK := iH hK; have HX := iH hX; have HL := iH hl'
 clear hT hK hX hs hx hb ho hl' c0 q0 q1 q2 q3 hcell bz s1 k1 fz C1 C W hW1 hB xl
 clear hz
 have k8 := K1.out.drew
 have t8 : Wtp W1 W1.drew [p] v v := (Wtp.refl _ _ _).drew
 have y2 : (W1.drew.cell? ⟨hw, 0, none⟩ = some (.pointer (some ⟨p, 0, none⟩)) /\ W1.drew.cell? ⟨z, 0, none⟩ = some (.int .i64 b0)) /\ W1.drew.cell? ⟨z, 1, none⟩ = some (.bool b1) := ⟨⟨(CS.out _ _ t8).1, (CS.out _ _ t8).2 0⟩, (CS.out _ _ t8).2 1⟩
 have y3 : ∀ ob, ((W1.drew.alloc ob).cell? ⟨hw, 0, none⟩ = some (.pointer (some ⟨p, 0, none⟩)) /\ (W1.drew.alloc ob).cell? ⟨z, 0, none⟩ = some (.int .i64 b0)) /\ (W1.drew.alloc ob).cell? ⟨z, 1, none⟩ = some (.bool b1) := fun ob => ⟨⟨(CS.out _ _ (t8.alloc ob)).1, (CS.out _ _ (t8.alloc ob)).2 0⟩, (CS.out _ _ (t8.alloc ob)).2 1⟩
 go_region_held3 (fun V => (V.cell? ⟨hw, 0, none⟩ = some (.pointer (some ⟨p, 0, none⟩)) /\ V.cell? ⟨z, 0, none⟩ = some (.int .i64 b0)) /\ V.cell? ⟨z, 1, none⟩ = some (.bool b1)) (first | exact y2 | exact y3 _)
  (first
   | (go_at_call 75; refine (flag_any b1 _).mono ?_; rintro e w8 ⟨rfl, rfl⟩)
   | (go_at_call 49; refine (nums_any B p v l _ [b0, ((flag b1 : Nat) : Int)] _ (k8.alloc _) ?_ (rdI_new (heap_alloc_new _ _) rfl rfl (by simp)) ?_ (by simp) ?_ ?_).mono ?_; (have := SZ.out; simp; omega); (have := HT.out; have := flag_le b1; intro x hx; simp only [List.mem_cons, List.not_mem_nil, or_false] at hx; rcases hx with rfl | rfl; exact ⟨by omega, by omega⟩; exact ⟨by omega, by omega⟩); (intro b hb; simp only [Value.ownBlock, Option.some.injEq] at hb; subst hb; exact FS.out _ (Kept.refl _ _).drew); (have := HL.out; omega); rintro e w9 ⟨rfl, v9, g9, s9⟩; have t9 := (t8.alloc _).trans s9; have y2 : (w9.cell? ⟨hw, 0, none⟩ = some (.pointer (some ⟨p, 0, none⟩)) /\ w9.cell? ⟨z, 0, none⟩ = some (.int .i64 b0)) /\ w9.cell? ⟨z, 1, none⟩ = some (.bool b1) := ⟨⟨(CS.out _ _ t9).1, (CS.out _ _ t9).2 0⟩, (CS.out _ _ t9).2 1⟩))
 have L9 : RowKit.Hid ((l ++ xqf xqb [b0, ((flag b1 : Nat) : Int)]).length <= 100000020) := iH (by
  have h1 := xqc (n := b0.toNat) (by have := HT.out; omega)
  have h2 := xqc (n := flag b1) (by have := flag_le b1; omega)
  have h3 := HL.out
  simp only [xqf, xqb, List.length_append, List.length_nil, Int.toNat_natCast]; omega)
 have E9 : RowKit.Hid (xqf xqb [b0, ((flag b1 : Nat) : Int)] = numL b0.toNat ++ numL (flag b1)) := iH (by simp [xqf, xqb])
 have G9 := iH g9; have T9 := iH t9; have SZ9 : RowKit.Hid (B <= w9.heap.size) := iH (Nat.le_trans SZ.out t9.1.size)
 clear g9 t9 s9 y2 y3 k8 t8
 have k8 := G9.out.drew
 have t8 := T9.out.drew
 have y2 : w9.drew.cell? ⟨hw, 0, none⟩ = some (.pointer (some ⟨p, 0, none⟩)) /\ w9.drew.cell? ⟨z, 2, none⟩ = some (.int .i64 b2) := ⟨(CS.out _ _ t8).1, (CS.out _ _ t8).2 2⟩
 go_wp2_with fail
 go_region_held3 (fun V => V.cell? ⟨hw, 0, none⟩ = some (.pointer (some ⟨p, 0, none⟩)) /\ V.cell? ⟨z, 2, none⟩ = some (.int .i64 b2)) (exact y2)
  (first
   | (go_at_call 52; refine (int_any B p v9 _ b2 _ k8 SZ9.out HK.out (by have := L9.out; omega)).mono ?_; rintro e w10 ⟨rfl, v10, g10, s10⟩; have t10 := t8.trans s10; have y2 : w10.cell? ⟨hw, 0, none⟩ = some (.pointer (some ⟨p, 0, none⟩)) /\ w10.cell? ⟨z, 2, none⟩ = some (.int .i64 b2) := ⟨(CS.out _ _ t10).1, (CS.out _ _ t10).2 2⟩))
 have G10 := iH g10; have T10 := iH t10
 clear g10 t10 s10 y2 k8 t8
 have y1 := (CS.out _ _ T10.out).1
 have y2 : w10.cell? ⟨z, 3, none⟩ = some (.string b3) := (CS.out _ _ T10.out).2 3
 go_wp2_with fail
 refine (etext_any B p v10 _ b3 w10 G10.out (Nat.le_trans SZ.out T10.out.1.size) HX.out (by have h1 := L9.out; have h2 := HK.out; have := xqc (Lib.zigzag_lt h2.1 h2.2); rw [List.length_append, intL]; omega)).mono ?_
 rintro e w11 ⟨rfl, v11, g11, s11⟩
 have G11 := iH g11; have T11 := iH (T10.out.trans s11)
 clear g11 s11 y1 y2
 go_wp2
 go_end0
 refine ⟨rfl, v11, ?_, S1.out.trans T11.out⟩
 have := G11.out
 rw [E9.out] at this
 simpa only [Ox.encL, Ox.r2, Ox.r3, Ox.r4, List.append_assoc] using this
end Go.Proofs.Ytjdbmlifekghfaa
