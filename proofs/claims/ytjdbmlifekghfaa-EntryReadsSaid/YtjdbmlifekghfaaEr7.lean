/-
  Enc, Eqa, Eqc, Eqd in one text.
-/
import Derived.Test.YtjdbmlifekghfaaEr6
import Derived.Laws.StructEq
import Derived.Deep.QuietTactic
import Derived.BigQuiet
import Derived.LoopTactic
namespace Go.Proofs.Ytjdbmlifekghfaa
set_option linter.unusedVariables false
open Go.RowKit

theorem dOps_snoc (k : Nat) : ∀ (e : Int) (l : List UInt8), (dOps k e l).2.2 = 0 → dOps (k + 1) e l = ((dOps k e l).1 ++ [dOp (dOps k e l).2.2 (dOps k e l).2.1], (oD (dOps k e l).2.2 (dOps k e l).2.1).2) := by
  induction k with
  | zero => intro e l h; simp only [dOps] at h ⊢; rw [if_pos h, List.nil_append]
  | succ k ih =>
    intro e l h
    by_cases he : e = 0
    · rw [dOps, if_pos he] at h
      have h1 := ih _ _ h
      rw [dOps, if_pos he, h1]
      rw [dOps, if_pos he]
      rfl
    · rw [dOps, if_neg he] at h
      exact absurd h he
theorem dOps_stop (k : Nat) : ∀ (n : Nat) (e : Int) (l : List UInt8), k ≤ n → (dOps k e l).2.2 ≠ 0 → (dOps n e l).2.2 = (dOps k e l).2.2 := by
  induction k with
  | zero =>
    intro n e l _ h
    change e ≠ 0 at h
    cases n with
    | zero => rfl
    | succ n => simp only [dOps, if_neg h]
  | succ k ih =>
    intro n e l hn h
    obtain ⟨n, rfl⟩ : ∃ m, n = m + 1 := ⟨n - 1, by omega⟩
    by_cases he : e = 0
    · rw [dOps, if_pos he] at h ⊢
      rw [dOps, if_pos he]
      exact ih n _ _ (by omega) h
    · rw [dOps, if_neg he, dOps, if_neg he]
theorem dEvs_snoc (k : Nat) : ∀ (e : Int) (l : List UInt8), (dEvs k e l).2.2 = 0 → dEvs (k + 1) e l = if (pB (dEvs k e l).2.2 (dEvs k e l).2.1).2.2 = 0 then ((dEvs k e l).1 ++ [dPl (dEvs k e l).2.2 (dEvs k e l).2.1], pL (dEvs k e l).2.2 (dEvs k e l).2.1, dErr (pB (dEvs k e l).2.2 (dEvs k e l).2.1).1) else ((dEvs k e l).1, (pB (dEvs k e l).2.2 (dEvs k e l).2.1).2) := by
  induction k with
  | zero => intro e l h; simp only [dEvs] at h ⊢; rw [if_pos h]; simp only [List.nil_append]; rfl
  | succ k ih =>
    intro e l h
    by_cases he : e = 0
    · by_cases hp : (pB e l).2.2 = 0
      · rw [dEvs, if_pos he, if_pos hp] at h
        have h1 := ih _ _ h
        rw [dEvs, if_pos he, if_pos hp, h1]
        rw [dEvs, if_pos he, if_pos hp]
        dsimp only
        split
        · rfl
        · rfl
      · rw [dEvs, if_pos he, if_neg hp] at h
        exact absurd h hp
    · rw [dEvs, if_neg he] at h
      exact absurd h he
theorem dEvs_stop (k : Nat) : ∀ (n : Nat) (e : Int) (l : List UInt8), k ≤ n → (dEvs k e l).2.2 ≠ 0 → (dEvs n e l).2.2 = (dEvs k e l).2.2 := by
  induction k with
  | zero =>
    intro n e l _ h
    change e ≠ 0 at h
    cases n with
    | zero => rfl
    | succ n => simp only [dEvs, if_neg h]
  | succ k ih =>
    intro n e l hn h
    obtain ⟨n, rfl⟩ : ∃ m, n = m + 1 := ⟨n - 1, by omega⟩
    by_cases he : e = 0
    · by_cases hp : (pB e l).2.2 = 0
      · rw [dEvs, if_pos he, if_pos hp] at h ⊢
        rw [dEvs, if_pos he, if_pos hp]
        exact ih n _ _ (by omega) h
      · rw [dEvs, if_pos he, if_neg hp, dEvs, if_pos he, if_neg hp]
    · rw [dEvs, if_neg he, dEvs, if_neg he]
theorem dOpen_snoc (k : Nat) : ∀ (e : Int) (l : List UInt8), (dOpen k e l).2.2 = 0 → dOpen (k + 1) e l = ((dOpen k e l).1 ++ [((wA (dOpen k e l).2.2 (dOpen k e l).2.1).1 : Int)], (wA (dOpen k e l).2.2 (dOpen k e l).2.1).2) := by
  induction k with
  | zero => intro e l h; simp only [dOpen] at h ⊢; rw [if_pos h, List.nil_append]
  | succ k ih =>
    intro e l h
    by_cases he : e = 0
    · rw [dOpen, if_pos he] at h
      have h1 := ih _ _ h
      rw [dOpen, if_pos he, h1]
      rw [dOpen, if_pos he]
      rfl
    · rw [dOpen, if_neg he] at h
      exact absurd h he
theorem dOpen_stop (k : Nat) : ∀ (n : Nat) (e : Int) (l : List UInt8), k ≤ n → (dOpen k e l).2.2 ≠ 0 → (dOpen n e l).2.2 = (dOpen k e l).2.2 := by
  induction k with
  | zero =>
    intro n e l _ h
    change e ≠ 0 at h
    cases n with
    | zero => rfl
    | succ n => simp only [dOpen, if_neg h]
  | succ k ih =>
    intro n e l hn h
    obtain ⟨n, rfl⟩ : ∃ m, n = m + 1 := ⟨n - 1, by omega⟩
    by_cases he : e = 0
    · rw [dOpen, if_pos he] at h ⊢
      rw [dOpen, if_pos he]
      exact ih n _ _ (by omega) h
    · rw [dOpen, if_neg he, dOpen, if_neg he]

theorem rText_len2 (m e : Int) (l : List UInt8) : (rText m e l).2.1.length ≤ l.length := by
  have := rNum_len e l
  unfold rText rTextOf
  split
  · split
    · simp
    · split
      · simp
      · simp only [List.length_drop]; omega
  · exact this
theorem oD_len (e : Int) (l : List UInt8) : (oD e l).2.1.length ≤ l.length := by
  have h1 : (oA e l).2.1.length ≤ l.length := rfN_len _ _ _ _
  have h2 : (oB e l).2.1.length ≤ (oA e l).2.1.length := rfN_len _ _ _ _
  have h3 : (oC e l).2.1.length ≤ (oB e l).2.1.length := rNum_len _ _
  have h4 : (oD e l).2.1.length ≤ (oC e l).2.1.length := rText_len2 _ _ _
  omega
theorem pB_len (e : Int) (l : List UInt8) : (pB e l).2.1.length ≤ l.length := by
  have h1 : (pA e l).2.1.length ≤ l.length := rfN_len _ _ _ _
  have h2 : (pB e l).2.1.length ≤ (pA e l).2.1.length := rText_len2 _ _ _
  omega
theorem pL_len (e : Int) (l : List UInt8) : (pL e l).length ≤ l.length := by
  have := pB_len e l
  unfold pL
  split
  · exact this
  · simp
theorem dOps_len (k : Nat) : ∀ (e : Int) (l : List UInt8), (dOps k e l).2.1.length ≤ l.length := by
  induction k with
  | zero => intro e l; exact Nat.le_refl _
  | succ k ih =>
    intro e l
    rw [dOps]
    split
    · have := ih (oD e l).2.2 (oD e l).2.1; have := oD_len e l; dsimp only; omega
    · exact Nat.le_refl _
theorem dEvs_len (k : Nat) : ∀ (e : Int) (l : List UInt8), (dEvs k e l).2.1.length ≤ l.length := by
  induction k with
  | zero => intro e l; exact Nat.le_refl _
  | succ k ih =>
    intro e l
    rw [dEvs]
    split
    · split
      · have := ih (dErr (pB e l).1) (pL e l); have := pL_len e l; dsimp only; omega
      · exact pB_len e l
    · exact Nat.le_refl _
theorem bA_le (e : Int) (l : List UInt8) : (bA e l).2.2 = 0 → (bA e l).1 ≤ 255 := by
  unfold bA rfN
  split
  · intro h; exact absurd h (by decide)
  · rename_i h
    intro h0
    simp only [badN, h0, decide_true, Bool.true_and, Bool.or_eq_true, decide_eq_true_eq, not_or] at h
    omega

end Go.Proofs.Ytjdbmlifekghfaa

namespace Go.Proofs.Ytjdbmlifekghfaa
set_option linter.unusedVariables false
open Go.RowKit

def EqP (P : Prop) (w : World) (e : Ending) (w' : World) : Prop := ∃ r : Bool, e = .returned (.bool r) ∧ (r = true ↔ P) ∧ Kept w w' []
def strB (a b : ByteArray) : Bool := decide (a = b)
theorem strB_list {a b : ByteArray} : strB a b = (a.toList == b.toList) := by
  unfold strB
  by_cases h : a = b
  · subst h; simp
  · rw [decide_eq_false h]
    symm
    rw [beq_eq_false_iff_ne]
    intro e
    apply h
    rw [ByteArray.toList_eq, ByteArray.toList_eq] at e
    exact ByteArray.ext (Array.toList_inj.1 e)
def oxB (a b : Ox) : Bool := (a.tb == b.tb) && ((a.g == b.g) && ((a.key == b.key) && strB a.t b.t))
theorem oxB_iff (a b : Ox) : oxB a b = true ↔ a = b := by
  obtain ⟨a1, a2, a3, a4⟩ := a
  obtain ⟨b1, b2, b3, b4⟩ := b
  simp only [oxB, strB, Bool.and_eq_true, beq_iff_eq, Ox.mk.injEq, decide_eq_true_eq]
def pxB (a b : Px) : Bool := (a.sp == b.sp) && ((a.ev.id == b.ev.id) && ((a.ev.tx == b.ev.tx) && (strB a.ev.ow b.ev.ow && ((a.ev.tr == b.ev.tr) && ((a.ev.tb == b.ev.tb) && ((a.ev.kd == b.ev.kd) && ((a.ev.key == b.ev.key) && strB a.ev.t b.ev.t)))))))
theorem pxB_iff (a b : Px) : pxB a b = true ↔ a = b := by
  obtain ⟨a0, a1, a2, a3, a4, a5, a6, a7, a8⟩ := a
  obtain ⟨b0, b1, b2, b3, b4, b5, b6, b7, b8⟩ := b
  simp only [pxB, strB, Bool.and_eq_true, beq_iff_eq, Px.mk.injEq, Ev.mk.injEq, decide_eq_true_eq]

set_option maxRecDepth 100000 in
theorem ox_ne (a0 : Int) (a1 : Bool) (a2 : Int) (a3 : ByteArray) (b0 : Int) (b1 : Bool) (b2 : Int) (b3 : ByteArray) (w : World) :
    (binOp .neq 67 (.agg #[.int .i64 a0, .bool a1, .int .i64 a2, .string a3]) (.agg #[.int .i64 b0, .bool b1, .int .i64 b2, .string b3])).run Try.prog w = .ok (.bool (!oxB (⟨a0, a1, a2, a3⟩ : Ox) (⟨b0, b1, b2, b3⟩ : Ox))) w := by
  rw [run_neq_struct]
  unfold oxB
  dsimp only
  simp only [strB_list]
  cases h0 : a0 == b0
  · go_simp
  cases h1 : a1 == b1
  · go_simp
  cases h2 : a2 == b2
  · go_simp
  cases h3 : a3.toList == b3.toList
  · go_simp
  · go_simp

set_option maxRecDepth 100000 in
theorem rox_ne (a0 : Int) (a1 : Bool) (a2 : Int) (a3 : ByteArray) (b0 : Int) (b1 : Bool) (b2 : Int) (b3 : ByteArray) (w : World) :
    (binOp .neq 63 (.agg #[.int .i64 a0, .bool a1, .int .i64 a2, .string a3]) (.agg #[.int .i64 b0, .bool b1, .int .i64 b2, .string b3])).run Try.prog w = .ok (.bool (!oxB (⟨a0, a1, a2, a3⟩ : Ox) (⟨b0, b1, b2, b3⟩ : Ox))) w := by
  rw [run_neq_struct]
  unfold oxB
  dsimp only
  simp only [strB_list]
  cases h0 : a0 == b0
  · go_simp
  cases h1 : a1 == b1
  · go_simp
  cases h2 : a2 == b2
  · go_simp
  cases h3 : a3.toList == b3.toList
  · go_simp
  · go_simp

set_option maxRecDepth 100000 in
theorem px_ne (a0 : Int) (a1 : Int) (a2 : Int) (a3 : ByteArray) (a4 : Int) (a5 : Int) (a6 : Int) (a7 : Int) (a8 : ByteArray) (b0 : Int) (b1 : Int) (b2 : Int) (b3 : ByteArray) (b4 : Int) (b5 : Int) (b6 : Int) (b7 : Int) (b8 : ByteArray) (w : World) :
    (binOp .neq 71 (.agg #[.int .i64 a0, .int .i64 a1, .int .i64 a2, .string a3, .int .i64 a4, .int .i64 a5, .int .u8 a6, .int .i64 a7, .string a8]) (.agg #[.int .i64 b0, .int .i64 b1, .int .i64 b2, .string b3, .int .i64 b4, .int .i64 b5, .int .u8 b6, .int .i64 b7, .string b8])).run Try.prog w = .ok (.bool (!pxB (⟨a0, ⟨a1, a2, a3, a4, a5, a6, a7, a8⟩⟩ : Px) (⟨b0, ⟨b1, b2, b3, b4, b5, b6, b7, b8⟩⟩ : Px))) w := by
  rw [run_neq_struct]
  unfold pxB
  dsimp only
  simp only [strB_list]
  cases h0 : a0 == b0
  · go_simp
  cases h1 : a1 == b1
  · go_simp
  cases h2 : a2 == b2
  · go_simp
  cases h3 : a3.toList == b3.toList
  · go_simp
  cases h4 : a4 == b4
  · go_simp
  cases h5 : a5 == b5
  · go_simp
  cases h6 : a6 == b6
  · go_simp
  cases h7 : a7 == b7
  · go_simp
  cases h8 : a8.toList == b8.toList
  · go_simp
  · go_simp

set_option maxRecDepth 100000 in
theorem rpx_ne (a0 : Int) (a1 : Int) (a2 : Int) (a3 : ByteArray) (a4 : Int) (a5 : Int) (a6 : Int) (a7 : Int) (a8 : ByteArray) (b0 : Int) (b1 : Int) (b2 : Int) (b3 : ByteArray) (b4 : Int) (b5 : Int) (b6 : Int) (b7 : Int) (b8 : ByteArray) (w : World) :
    (binOp .neq 76 (.agg #[.int .i64 a0, .int .i64 a1, .int .i64 a2, .string a3, .int .i64 a4, .int .i64 a5, .int .u8 a6, .int .i64 a7, .string a8]) (.agg #[.int .i64 b0, .int .i64 b1, .int .i64 b2, .string b3, .int .i64 b4, .int .i64 b5, .int .u8 b6, .int .i64 b7, .string b8])).run Try.prog w = .ok (.bool (!pxB (⟨a0, ⟨a1, a2, a3, a4, a5, a6, a7, a8⟩⟩ : Px) (⟨b0, ⟨b1, b2, b3, b4, b5, b6, b7, b8⟩⟩ : Px))) w := by
  rw [run_neq_struct]
  unfold pxB
  dsimp only
  simp only [strB_list]
  cases h0 : a0 == b0
  · go_simp
  cases h1 : a1 == b1
  · go_simp
  cases h2 : a2 == b2
  · go_simp
  cases h3 : a3.toList == b3.toList
  · go_simp
  cases h4 : a4 == b4
  · go_simp
  cases h5 : a5 == b5
  · go_simp
  cases h6 : a6 == b6
  · go_simp
  cases h7 : a7 == b7
  · go_simp
  cases h8 : a8.toList == b8.toList
  · go_simp
  · go_simp

set_option maxHeartbeats 2000000 in
set_option maxRecDepth 100000 in
theorem eqo_any (va vb : Value) (l m : List Ox) (w : World) (ha : RdK encO w va l) (hb : RdK encO w vb m) (hl : l.length ≤ 1000000) (hm : m.length ≤ 1000000) :
    Calls Try.prog 44 #[va, vb] w fun e w' => EqP (l = m) w e w' := by
  have HA := Lib.hid ha; have HB := Lib.hid hb
  obtain ⟨aa, ac, rfl, _⟩ := ha
  obtain ⟨ba, bc1, rfl, _⟩ := hb
  by_cases hlen : l.length = m.length
  · have h1 : ((l.length : Int) != (m.length : Int)) = false := by simp; omega
    have HL := Lib.hid hlen
    clear hlen
    go_enter Try.func44, Try.ntmps44
    go_wp2
    go_loopw [5, 13] (fun _ t wr => ∃ k : Nat, k ≤ l.length ∧ t = .int .i64 k ∧ l.take k = m.take k ∧ Kept w wr []) (fun _ t _ => l.length - (intOf t).toNat)
    case atStart => exact ⟨0, Nat.zero_le _, rfl, rfl, Kept.refl _ _⟩
    case round =>
      obtain ⟨k, hk, rfl, heq, hkw⟩ := hrel
      have He := Lib.hid heq; have KW := Lib.hid hkw
      clear heq hkw
      by_cases hlt : k < l.length
      · have hltm : k < m.length := by have := HL.out; omega
        obtain ⟨x, hx⟩ : ∃ x, l[k]? = some x := ⟨_, List.getElem?_eq_getElem hlt⟩
        obtain ⟨y, hy⟩ : ∃ y, m[k]? = some y := ⟨_, List.getElem?_eq_getElem hltm⟩
        obtain ⟨ab, ao, rfl, ca⟩ := (HA.out.keep KW.out).at hx
        obtain ⟨bb, bo, rfl, cb⟩ := (HB.out.keep KW.out).at hy
        obtain ⟨x0, x1, x2, x3⟩ := x
        obtain ⟨y0, y1, y2, y3⟩ := y
        have ca0 : wr.cell? ⟨ab, ao + k * 4, none⟩ = some (.int .i64 x0) := ca 0 (by decide)
        have cb0 : wr.cell? ⟨bb, bo + k * 4, none⟩ = some (.int .i64 y0) := cb 0 (by decide)
        have ca1 : wr.cell? ⟨ab, ao + k * 4 + 1, none⟩ = some (.bool x1) := ca 1 (by decide)
        have cb1 : wr.cell? ⟨bb, bo + k * 4 + 1, none⟩ = some (.bool y1) := cb 1 (by decide)
        have ca2 : wr.cell? ⟨ab, ao + k * 4 + 2, none⟩ = some (.int .i64 x2) := ca 2 (by decide)
        have cb2 : wr.cell? ⟨bb, bo + k * 4 + 2, none⟩ = some (.int .i64 y2) := cb 2 (by decide)
        have ca3 : wr.cell? ⟨ab, ao + k * 4 + 3, none⟩ = some (.string x3) := ca 3 (by decide)
        have cb3 : wr.cell? ⟨bb, bo + k * 4 + 3, none⟩ = some (.string y3) := cb 3 (by decide)
        have hn := ox_ne x0 x1 x2 x3 y0 y1 y2 y3
        obtain ⟨r, hr⟩ : ∃ r, r = oxB (⟨x0, x1, x2, x3⟩ : Ox) (⟨y0, y1, y2, y3⟩ : Ox) := ⟨_, rfl⟩
        rw [← hr] at hn
        have HX := Lib.hid hx; have HY := Lib.hid hy
        have HR : RowKit.Hid (r = true ↔ (⟨x0, x1, x2, x3⟩ : Ox) = (⟨y0, y1, y2, y3⟩ : Ox)) := Lib.hid (by rw [hr]; exact oxB_iff _ _)
        have x1 : (k : Int) < (l.length : Int) := by omega
        have x2 : (k : Int) < (m.length : Int) := by omega
        clear hx hy ca cb hr
        cases r with
        | false =>
          go_wp2
          go_quiet (fail)
          go_wp2
          go_ret
          refine ⟨false, rfl, ⟨fun h => absurd h (by decide), fun h => ?_⟩, KW.out.drewN _⟩
          have := HX.out
          rw [h, HY.out] at this
          exact absurd (HR.out.2 (Option.some.inj this).symm) (by decide)
        | true =>
          go_wp2
          go_quiet (fail)
          go_wp2
          go_roundw
          case rel =>
            refine ⟨k + 1, by omega, by go_num, ?_, KW.out.drewN _⟩
            rw [List.take_add_one, List.take_add_one, He.out, HX.out, HY.out, HR.out.1 (by trivial)]
          case measure => simp [intOf]; omega
      · have x1 : ¬ (k : Int) < (l.length : Int) := by omega
        have Hf : RowKit.Hid (l = m) := Lib.hid (by
          have h := He.out
          rw [List.take_of_length_le (by omega), List.take_of_length_le (by have := HL.out; omega)] at h
          exact h)
        go_wp2
        go_ret
        exact ⟨true, rfl, ⟨fun _ => Hf.out, fun _ => rfl⟩, KW.out⟩
  · have h1 : ((l.length : Int) != (m.length : Int)) = true := by rw [bne_iff_ne]; omega
    have HN : RowKit.Hid (l ≠ m) := Lib.hid (by rintro rfl; exact hlen rfl)
    clear hlen
    go_enter Try.func44, Try.ntmps44
    go_wp2
    go_ret
    exact ⟨false, rfl, ⟨fun h => absurd h (by decide), fun h => absurd h HN.out⟩, Kept.refl _ _⟩

set_option maxHeartbeats 2000000 in
set_option maxRecDepth 100000 in
theorem eqp_any (va vb : Value) (l m : List Px) (w : World) (ha : RdK encP w va l) (hb : RdK encP w vb m) (hl : l.length ≤ 1000000) (hm : m.length ≤ 1000000) :
    Calls Try.prog 45 #[va, vb] w fun e w' => EqP (l = m) w e w' := by
  have HA := Lib.hid ha; have HB := Lib.hid hb
  obtain ⟨aa, ac, rfl, _⟩ := ha
  obtain ⟨ba, bc1, rfl, _⟩ := hb
  by_cases hlen : l.length = m.length
  · have h1 : ((l.length : Int) != (m.length : Int)) = false := by simp; omega
    have HL := Lib.hid hlen
    clear hlen
    go_enter Try.func45, Try.ntmps45
    go_wp2
    go_loopw [5, 13] (fun _ t wr => ∃ k : Nat, k ≤ l.length ∧ t = .int .i64 k ∧ l.take k = m.take k ∧ Kept w wr []) (fun _ t _ => l.length - (intOf t).toNat)
    case atStart => exact ⟨0, Nat.zero_le _, rfl, rfl, Kept.refl _ _⟩
    case round =>
      obtain ⟨k, hk, rfl, heq, hkw⟩ := hrel
      have He := Lib.hid heq; have KW := Lib.hid hkw
      clear heq hkw
      by_cases hlt : k < l.length
      · have hltm : k < m.length := by have := HL.out; omega
        obtain ⟨x, hx⟩ : ∃ x, l[k]? = some x := ⟨_, List.getElem?_eq_getElem hlt⟩
        obtain ⟨y, hy⟩ : ∃ y, m[k]? = some y := ⟨_, List.getElem?_eq_getElem hltm⟩
        obtain ⟨ab, ao, rfl, ca⟩ := (HA.out.keep KW.out).at hx
        obtain ⟨bb, bo, rfl, cb⟩ := (HB.out.keep KW.out).at hy
        obtain ⟨x0, ⟨x1, x2, x3, x4, x5, x6, x7, x8⟩⟩ := x
        obtain ⟨y0, ⟨y1, y2, y3, y4, y5, y6, y7, y8⟩⟩ := y
        have ca0 : wr.cell? ⟨ab, ao + k * 9, none⟩ = some (.int .i64 x0) := ca 0 (by decide)
        have cb0 : wr.cell? ⟨bb, bo + k * 9, none⟩ = some (.int .i64 y0) := cb 0 (by decide)
        have ca1 : wr.cell? ⟨ab, ao + k * 9 + 1, none⟩ = some (.int .i64 x1) := ca 1 (by decide)
        have cb1 : wr.cell? ⟨bb, bo + k * 9 + 1, none⟩ = some (.int .i64 y1) := cb 1 (by decide)
        have ca2 : wr.cell? ⟨ab, ao + k * 9 + 2, none⟩ = some (.int .i64 x2) := ca 2 (by decide)
        have cb2 : wr.cell? ⟨bb, bo + k * 9 + 2, none⟩ = some (.int .i64 y2) := cb 2 (by decide)
        have ca3 : wr.cell? ⟨ab, ao + k * 9 + 3, none⟩ = some (.string x3) := ca 3 (by decide)
        have cb3 : wr.cell? ⟨bb, bo + k * 9 + 3, none⟩ = some (.string y3) := cb 3 (by decide)
        have ca4 : wr.cell? ⟨ab, ao + k * 9 + 4, none⟩ = some (.int .i64 x4) := ca 4 (by decide)
        have cb4 : wr.cell? ⟨bb, bo + k * 9 + 4, none⟩ = some (.int .i64 y4) := cb 4 (by decide)
        have ca5 : wr.cell? ⟨ab, ao + k * 9 + 5, none⟩ = some (.int .i64 x5) := ca 5 (by decide)
        have cb5 : wr.cell? ⟨bb, bo + k * 9 + 5, none⟩ = some (.int .i64 y5) := cb 5 (by decide)
        have ca6 : wr.cell? ⟨ab, ao + k * 9 + 6, none⟩ = some (.int .u8 x6) := ca 6 (by decide)
        have cb6 : wr.cell? ⟨bb, bo + k * 9 + 6, none⟩ = some (.int .u8 y6) := cb 6 (by decide)
        have ca7 : wr.cell? ⟨ab, ao + k * 9 + 7, none⟩ = some (.int .i64 x7) := ca 7 (by decide)
        have cb7 : wr.cell? ⟨bb, bo + k * 9 + 7, none⟩ = some (.int .i64 y7) := cb 7 (by decide)
        have ca8 : wr.cell? ⟨ab, ao + k * 9 + 8, none⟩ = some (.string x8) := ca 8 (by decide)
        have cb8 : wr.cell? ⟨bb, bo + k * 9 + 8, none⟩ = some (.string y8) := cb 8 (by decide)
        have hn := px_ne x0 x1 x2 x3 x4 x5 x6 x7 x8 y0 y1 y2 y3 y4 y5 y6 y7 y8
        obtain ⟨r, hr⟩ : ∃ r, r = pxB (⟨x0, ⟨x1, x2, x3, x4, x5, x6, x7, x8⟩⟩ : Px) (⟨y0, ⟨y1, y2, y3, y4, y5, y6, y7, y8⟩⟩ : Px) := ⟨_, rfl⟩
        rw [← hr] at hn
        have HX := Lib.hid hx; have HY := Lib.hid hy
        have HR : RowKit.Hid (r = true ↔ (⟨x0, ⟨x1, x2, x3, x4, x5, x6, x7, x8⟩⟩ : Px) = (⟨y0, ⟨y1, y2, y3, y4, y5, y6, y7, y8⟩⟩ : Px)) := Lib.hid (by rw [hr]; exact pxB_iff _ _)
        have x1 : (k : Int) < (l.length : Int) := by omega
        have x2 : (k : Int) < (m.length : Int) := by omega
        clear hx hy ca cb hr
        cases r with
        | false =>
          go_wp2
          go_quiet (fail)
          go_wp2
          go_ret
          refine ⟨false, rfl, ⟨fun h => absurd h (by decide), fun h => ?_⟩, KW.out.drewN _⟩
          have := HX.out
          rw [h, HY.out] at this
          exact absurd (HR.out.2 (Option.some.inj this).symm) (by decide)
        | true =>
          go_wp2
          go_quiet (fail)
          go_wp2
          go_roundw
          case rel =>
            refine ⟨k + 1, by omega, by go_num, ?_, KW.out.drewN _⟩
            rw [List.take_add_one, List.take_add_one, He.out, HX.out, HY.out, HR.out.1 (by trivial)]
          case measure => simp [intOf]; omega
      · have x1 : ¬ (k : Int) < (l.length : Int) := by omega
        have Hf : RowKit.Hid (l = m) := Lib.hid (by
          have h := He.out
          rw [List.take_of_length_le (by omega), List.take_of_length_le (by have := HL.out; omega)] at h
          exact h)
        go_wp2
        go_ret
        exact ⟨true, rfl, ⟨fun _ => Hf.out, fun _ => rfl⟩, KW.out⟩
  · have h1 : ((l.length : Int) != (m.length : Int)) = true := by rw [bne_iff_ne]; omega
    have HN : RowKit.Hid (l ≠ m) := Lib.hid (by rintro rfl; exact hlen rfl)
    clear hlen
    go_enter Try.func45, Try.ntmps45
    go_wp2
    go_ret
    exact ⟨false, rfl, ⟨fun h => absurd h (by decide), fun h => absurd h HN.out⟩, Kept.refl _ _⟩

end Go.Proofs.Ytjdbmlifekghfaa

namespace Go.Proofs.Ytjdbmlifekghfaa
set_option linter.unusedVariables false
open Go.RowKit

theorem EqP.ye {P : Prop} {w : World} {f : Nat} {args : Array Value} {V : World} (h : Calls Try.prog f args V fun e w' => EqP P V e w') (hp : P) : Calls Try.prog f args V fun e w' => e = .returned (.bool true) ∧ Kept V w' [] :=
  h.mono (by rintro e w' ⟨r, rfl, hr, k⟩; rw [hr.2 hp]; exact ⟨rfl, k⟩)
theorem EqP.na {P : Prop} {w : World} {f : Nat} {args : Array Value} {V : World} (h : Calls Try.prog f args V fun e w' => EqP P V e w') (hp : ¬ P) : Calls Try.prog f args V fun e w' => e = .returned (.bool false) ∧ Kept V w' [] :=
  h.mono (by
    rintro e w' ⟨r, rfl, hr, k⟩
    cases r with
    | false => exact ⟨rfl, k⟩
    | true => exact absurd (hr.1 rfl) hp)

set_option maxHeartbeats 4000000 in
set_option maxRecDepth 100000 in
theorem rtsame_any (x0 x1 x3 y0 y1 y3 : Int) (xa ya : Option Addr) (xn xc yn yc : Nat) (l m : List Int) (w : World) (rx : RdI w (.slice xa xn xc) l) (ry : RdI w (.slice ya yn yc) m) :
    Calls Try.prog 47 #[.agg #[.int .i64 x0, .int .i64 x1, .slice xa xn xc, .int .i64 x3], .agg #[.int .i64 y0, .int .i64 y1, .slice ya yn yc, .int .i64 y3]] w fun e w' => EqP (x0 = y0 ∧ x3 = y3 ∧ x1 = y1 ∧ l = m) w e w' := by
  obtain ⟨W1, hW1⟩ : ∃ W1, W1 = (w.alloc (.cells #[.int .i64 x0, .int .i64 x1, .slice xa xn xc, .int .i64 x3] 33)).alloc (.cells #[.int .i64 y0, .int .i64 y1, .slice ya yn yc, .int .i64 y3] 33) := ⟨_, rfl⟩
  have k1 : Kept w W1 [] := by rw [hW1]; exact ((Kept.refl w []).alloc _).alloc _
  have IN : RowKit.Hid (Calls Try.prog 70 #[.slice xa xn xc, .slice ya yn yc] W1 fun e w' => e = .returned (.bool (l == m)) ∧ Kept W1 w' []) := Lib.hid (ints_any _ _ l m W1 (rx.keep k1) (ry.keep k1))
  obtain ⟨r, hr⟩ : ∃ r, r = (l == m) := ⟨_, rfl⟩
  rw [← hr] at IN
  obtain ⟨P, hP⟩ : ∃ P : Prop, P ↔ (x0 = y0 ∧ x3 = y3 ∧ x1 = y1 ∧ l = m) := ⟨_, Iff.rfl⟩
  have HFIN : RowKit.Hid (∀ (e : Ending) (w' : World), EqP P w e w' → EqP (x0 = y0 ∧ x3 = y3 ∧ x1 = y1 ∧ l = m) w e w') := Lib.hid (fun e w' h => by obtain ⟨r, h1, h2, h3⟩ := h; exact ⟨r, h1, h2.trans hP, h3⟩)
  have HPP := Lib.hid hP
  clear hP
  refine Calls.mono ?_ HFIN.out
  have K1 := Lib.hid k1; have HR : RowKit.Hid (r = true ↔ l = m) := Lib.hid (by rw [hr]; simp)
  clear rx ry k1 HFIN hr
  by_cases h0 : x0 = y0
  rotate_left
  · have HN : RowKit.Hid (¬ P) := Lib.hid (fun h => h0 (HPP.out.1 h).1)
    have e0 : (x0 == y0) = false := beq_eq_false_iff_ne.2 h0
    go_enter Try.func47, Try.ntmps47
    go_wp2
    go_ret
    exact ⟨false, rfl, ⟨fun h => absurd h (by decide), fun h => absurd h HN.out⟩, by rw [← hW1]; exact K1.out⟩
  subst h0
  by_cases h3 : x3 = y3
  rotate_left
  · have HN : RowKit.Hid (¬ P) := Lib.hid (fun h => h3 (HPP.out.1 h).2.1)
    have e0 : (x3 == y3) = false := beq_eq_false_iff_ne.2 h3
    go_enter Try.func47, Try.ntmps47
    go_wp2
    go_ret
    exact ⟨false, rfl, ⟨fun h => absurd h (by decide), fun h => absurd h HN.out⟩, by rw [← hW1]; exact K1.out⟩
  subst h3
  by_cases h1 : x1 = y1
  rotate_left
  · have HN : RowKit.Hid (¬ P) := Lib.hid (fun h => h1 (HPP.out.1 h).2.2.1)
    have e0 : (x1 == y1) = false := beq_eq_false_iff_ne.2 h1
    go_enter Try.func47, Try.ntmps47
    go_wp2
    go_ret
    exact ⟨false, rfl, ⟨fun h => absurd h (by decide), fun h => absurd h HN.out⟩, by rw [← hW1]; exact K1.out⟩
  subst h1
  have HY : RowKit.Hid (r = true ↔ P) := Lib.hid (HR.out.trans ⟨fun h => HPP.out.2 ⟨rfl, rfl, rfl, h⟩, fun h => (HPP.out.1 h).2.2.2⟩)
  go_enter Try.func47, Try.ntmps47
  go_wp2_with fail
  rw [← hW1]
  clear hW1
  refine IN.out.mono ?_
  rintro e w2 ⟨rfl, k2⟩
  have K2 := Lib.hid (K1.out.trans k2 (by simp))
  clear k2
  go_wp2
  go_ret
  exact ⟨r, rfl, HY.out, K2.out⟩

end Go.Proofs.Ytjdbmlifekghfaa

namespace Go.Proofs.Ytjdbmlifekghfaa
set_option linter.unusedVariables false
open Go.RowKit

set_option maxHeartbeats 8000000 in
set_option maxRecDepth 100000 in
theorem rs_ne0 (ak : Int) (atx : Int) (anx : Int) (aid : Int) (aops : List Ox) (aevs : List Px) (atn : Int) (atm : Int) (aop : List Int) (ata : Int) (anm : ByteArray) (an : Int) (aat : Int) (aoa : Option Addr) (aea : Option Addr) (aia : Option Addr) (aoc : Nat) (aec : Nat) (aic : Nat) (bk : Int) (btx : Int) (bnx : Int) (bid : Int) (bops : List Ox) (bevs : List Px) (btn : Int) (btm : Int) (bop : List Int) (bta : Int) (bnm : ByteArray) (bn : Int) (bat : Int) (boa : Option Addr) (bea : Option Addr) (bia : Option Addr) (boc : Nat) (bec : Nat) (bic : Nat) (w : World) (ra : RdN w (⟨ak, atx, anx, aid, aops, aevs, atn, atm, aop, ata, anm, an, aat⟩ : En) (.slice aoa aops.length aoc) (.slice aea aevs.length aec) (.slice aia aop.length aic)) (rb : RdN w (⟨bk, btx, bnx, bid, bops, bevs, btn, btm, bop, bta, bnm, bn, bat⟩ : En) (.slice boa bops.length boc) (.slice bea bevs.length bec) (.slice bia bop.length bic)) (hd : ak ≠ bk) :
    Calls Try.prog 19 #[.agg #[.int .u8 ak, .int .i64 atx, .int .i64 anx, .int .i64 aid, .slice aoa aops.length aoc, .slice aea aevs.length aec, .int .i64 atn, .int .i64 atm, .slice aia aop.length aic, .int .i64 ata, .string anm, .int .i64 an, .int .i64 aat], .agg #[.int .u8 bk, .int .i64 btx, .int .i64 bnx, .int .i64 bid, .slice boa bops.length boc, .slice bea bevs.length bec, .int .i64 btn, .int .i64 btm, .slice bia bop.length bic, .int .i64 bta, .string bnm, .int .i64 bn, .int .i64 bat]] w fun e w' => e = .returned (.bool false) ∧ Kept w w' [] := by
  obtain ⟨W1, hW1⟩ : ∃ W1, W1 = (w.alloc (.cells #[.int .u8 ak, .int .i64 atx, .int .i64 anx, .int .i64 aid, .slice aoa aops.length aoc, .slice aea aevs.length aec, .int .i64 atn, .int .i64 atm, .slice aia aop.length aic, .int .i64 ata, .string anm, .int .i64 an, .int .i64 aat] 35)).alloc (.cells #[.int .u8 bk, .int .i64 btx, .int .i64 bnx, .int .i64 bid, .slice boa bops.length boc, .slice bea bevs.length bec, .int .i64 btn, .int .i64 btm, .slice bia bop.length bic, .int .i64 bta, .string bnm, .int .i64 bn, .int .i64 bat] 35) := ⟨_, rfl⟩
  have hz : (w.alloc (.cells #[.int .u8 ak, .int .i64 atx, .int .i64 anx, .int .i64 aid, .slice aoa aops.length aoc, .slice aea aevs.length aec, .int .i64 atn, .int .i64 atm, .slice aia aop.length aic, .int .i64 ata, .string anm, .int .i64 an, .int .i64 aat] 35)).heap.size = w.heap.size + 1 := by simp
  have k1 : Kept w W1 [] := by rw [hW1]; exact ((Kept.refl w []).alloc _).alloc _
  have b1 : W1.heap[w.heap.size + 1]? = some (.cells #[.int .u8 bk, .int .i64 btx, .int .i64 bnx, .int .i64 bid, .slice boa bops.length boc, .slice bea bevs.length bec, .int .i64 btn, .int .i64 btm, .slice bia bop.length bic, .int .i64 bta, .string bnm, .int .i64 bn, .int .i64 bat] 35 (0, 0)) := by rw [hW1, ← hz]; exact heap_alloc_new _ _
  have b2 : W1.heap[w.heap.size]? = some (.cells #[.int .u8 ak, .int .i64 atx, .int .i64 anx, .int .i64 aid, .slice aoa aops.length aoc, .slice aea aevs.length aec, .int .i64 atn, .int .i64 atm, .slice aia aop.length aic, .int .i64 ata, .string anm, .int .i64 an, .int .i64 aat] 35 (0, 0)) := by rw [hW1]; exact ((Kept.refl _ []).alloc _).heap (by simp) (heap_alloc_new w _)
  have HT := Lib.hid (rtsame_any atn atm ata btn btm bta aia bia aop.length aic bop.length bic aop bop W1 (ra.ri.keep k1) (rb.ri.keep k1))
  have CS : RowKit.Hid (∀ V, Kept W1 V [] → ∀ j, V.cell? ⟨w.heap.size, j, none⟩ = (#[.int .u8 ak, .int .i64 atx, .int .i64 anx, .int .i64 aid, .slice aoa aops.length aoc, .slice aea aevs.length aec, .int .i64 atn, .int .i64 atm, .slice aia aop.length aic, .int .i64 ata, .string anm, .int .i64 an, .int .i64 aat] : Array Value)[j]? ∧ V.cell? ⟨w.heap.size + 1, j, none⟩ = (#[.int .u8 bk, .int .i64 btx, .int .i64 bnx, .int .i64 bid, .slice boa bops.length boc, .slice bea bevs.length bec, .int .i64 btn, .int .i64 btm, .slice bia bop.length bic, .int .i64 bta, .string bnm, .int .i64 bn, .int .i64 bat] : Array Value)[j]?) := Lib.hid (fun V hV j => ⟨cell_of_row V _ j _ _ _ (hV.heap (by simp) b2), cell_of_row V _ j _ _ _ (hV.heap (by simp) b1)⟩)
  have K1 := Lib.hid k1
  clear ra rb k1 b1 b2 hz
  have x0 : (ak != bk) = true := bne_iff_ne.2 hd
  clear hd
  go_enter Try.func19, Try.ntmps19
  go_wp2
  go_ret
  first | (rw [← hW1]; exact ⟨rfl, K1.out⟩) | (rw [hW1] at K1; exact ⟨rfl, K1.out⟩)

set_option maxHeartbeats 8000000 in
set_option maxRecDepth 100000 in
theorem rs_ne1 (ak : Int) (atx : Int) (anx : Int) (aid : Int) (aops : List Ox) (aevs : List Px) (atn : Int) (atm : Int) (aop : List Int) (ata : Int) (anm : ByteArray) (an : Int) (aat : Int) (aoa : Option Addr) (aea : Option Addr) (aia : Option Addr) (aoc : Nat) (aec : Nat) (aic : Nat) (btx : Int) (bnx : Int) (bid : Int) (bops : List Ox) (bevs : List Px) (btn : Int) (btm : Int) (bop : List Int) (bta : Int) (bnm : ByteArray) (bn : Int) (bat : Int) (boa : Option Addr) (bea : Option Addr) (bia : Option Addr) (boc : Nat) (bec : Nat) (bic : Nat) (w : World) (ra : RdN w (⟨ak, atx, anx, aid, aops, aevs, atn, atm, aop, ata, anm, an, aat⟩ : En) (.slice aoa aops.length aoc) (.slice aea aevs.length aec) (.slice aia aop.length aic)) (rb : RdN w (⟨ak, btx, bnx, bid, bops, bevs, btn, btm, bop, bta, bnm, bn, bat⟩ : En) (.slice boa bops.length boc) (.slice bea bevs.length bec) (.slice bia bop.length bic)) (hd : atx ≠ btx) :
    Calls Try.prog 19 #[.agg #[.int .u8 ak, .int .i64 atx, .int .i64 anx, .int .i64 aid, .slice aoa aops.length aoc, .slice aea aevs.length aec, .int .i64 atn, .int .i64 atm, .slice aia aop.length aic, .int .i64 ata, .string anm, .int .i64 an, .int .i64 aat], .agg #[.int .u8 ak, .int .i64 btx, .int .i64 bnx, .int .i64 bid, .slice boa bops.length boc, .slice bea bevs.length bec, .int .i64 btn, .int .i64 btm, .slice bia bop.length bic, .int .i64 bta, .string bnm, .int .i64 bn, .int .i64 bat]] w fun e w' => e = .returned (.bool false) ∧ Kept w w' [] := by
  obtain ⟨W1, hW1⟩ : ∃ W1, W1 = (w.alloc (.cells #[.int .u8 ak, .int .i64 atx, .int .i64 anx, .int .i64 aid, .slice aoa aops.length aoc, .slice aea aevs.length aec, .int .i64 atn, .int .i64 atm, .slice aia aop.length aic, .int .i64 ata, .string anm, .int .i64 an, .int .i64 aat] 35)).alloc (.cells #[.int .u8 ak, .int .i64 btx, .int .i64 bnx, .int .i64 bid, .slice boa bops.length boc, .slice bea bevs.length bec, .int .i64 btn, .int .i64 btm, .slice bia bop.length bic, .int .i64 bta, .string bnm, .int .i64 bn, .int .i64 bat] 35) := ⟨_, rfl⟩
  have hz : (w.alloc (.cells #[.int .u8 ak, .int .i64 atx, .int .i64 anx, .int .i64 aid, .slice aoa aops.length aoc, .slice aea aevs.length aec, .int .i64 atn, .int .i64 atm, .slice aia aop.length aic, .int .i64 ata, .string anm, .int .i64 an, .int .i64 aat] 35)).heap.size = w.heap.size + 1 := by simp
  have k1 : Kept w W1 [] := by rw [hW1]; exact ((Kept.refl w []).alloc _).alloc _
  have b1 : W1.heap[w.heap.size + 1]? = some (.cells #[.int .u8 ak, .int .i64 btx, .int .i64 bnx, .int .i64 bid, .slice boa bops.length boc, .slice bea bevs.length bec, .int .i64 btn, .int .i64 btm, .slice bia bop.length bic, .int .i64 bta, .string bnm, .int .i64 bn, .int .i64 bat] 35 (0, 0)) := by rw [hW1, ← hz]; exact heap_alloc_new _ _
  have b2 : W1.heap[w.heap.size]? = some (.cells #[.int .u8 ak, .int .i64 atx, .int .i64 anx, .int .i64 aid, .slice aoa aops.length aoc, .slice aea aevs.length aec, .int .i64 atn, .int .i64 atm, .slice aia aop.length aic, .int .i64 ata, .string anm, .int .i64 an, .int .i64 aat] 35 (0, 0)) := by rw [hW1]; exact ((Kept.refl _ []).alloc _).heap (by simp) (heap_alloc_new w _)
  have HT := Lib.hid (rtsame_any atn atm ata btn btm bta aia bia aop.length aic bop.length bic aop bop W1 (ra.ri.keep k1) (rb.ri.keep k1))
  have CS : RowKit.Hid (∀ V, Kept W1 V [] → ∀ j, V.cell? ⟨w.heap.size, j, none⟩ = (#[.int .u8 ak, .int .i64 atx, .int .i64 anx, .int .i64 aid, .slice aoa aops.length aoc, .slice aea aevs.length aec, .int .i64 atn, .int .i64 atm, .slice aia aop.length aic, .int .i64 ata, .string anm, .int .i64 an, .int .i64 aat] : Array Value)[j]? ∧ V.cell? ⟨w.heap.size + 1, j, none⟩ = (#[.int .u8 ak, .int .i64 btx, .int .i64 bnx, .int .i64 bid, .slice boa bops.length boc, .slice bea bevs.length bec, .int .i64 btn, .int .i64 btm, .slice bia bop.length bic, .int .i64 bta, .string bnm, .int .i64 bn, .int .i64 bat] : Array Value)[j]?) := Lib.hid (fun V hV j => ⟨cell_of_row V _ j _ _ _ (hV.heap (by simp) b2), cell_of_row V _ j _ _ _ (hV.heap (by simp) b1)⟩)
  have K1 := Lib.hid k1
  clear ra rb k1 b1 b2 hz
  have x0 : (atx != btx) = true := bne_iff_ne.2 hd
  clear hd
  go_enter Try.func19, Try.ntmps19
  go_wp2
  go_ret
  first | (rw [← hW1]; exact ⟨rfl, K1.out⟩) | (rw [hW1] at K1; exact ⟨rfl, K1.out⟩)

set_option maxHeartbeats 8000000 in
set_option maxRecDepth 100000 in
theorem rs_ne2 (ak : Int) (atx : Int) (anx : Int) (aid : Int) (aops : List Ox) (aevs : List Px) (atn : Int) (atm : Int) (aop : List Int) (ata : Int) (anm : ByteArray) (an : Int) (aat : Int) (aoa : Option Addr) (aea : Option Addr) (aia : Option Addr) (aoc : Nat) (aec : Nat) (aic : Nat) (bnx : Int) (bid : Int) (bops : List Ox) (bevs : List Px) (btn : Int) (btm : Int) (bop : List Int) (bta : Int) (bnm : ByteArray) (bn : Int) (bat : Int) (boa : Option Addr) (bea : Option Addr) (bia : Option Addr) (boc : Nat) (bec : Nat) (bic : Nat) (w : World) (ra : RdN w (⟨ak, atx, anx, aid, aops, aevs, atn, atm, aop, ata, anm, an, aat⟩ : En) (.slice aoa aops.length aoc) (.slice aea aevs.length aec) (.slice aia aop.length aic)) (rb : RdN w (⟨ak, atx, bnx, bid, bops, bevs, btn, btm, bop, bta, bnm, bn, bat⟩ : En) (.slice boa bops.length boc) (.slice bea bevs.length bec) (.slice bia bop.length bic)) (hd : anx ≠ bnx) :
    Calls Try.prog 19 #[.agg #[.int .u8 ak, .int .i64 atx, .int .i64 anx, .int .i64 aid, .slice aoa aops.length aoc, .slice aea aevs.length aec, .int .i64 atn, .int .i64 atm, .slice aia aop.length aic, .int .i64 ata, .string anm, .int .i64 an, .int .i64 aat], .agg #[.int .u8 ak, .int .i64 atx, .int .i64 bnx, .int .i64 bid, .slice boa bops.length boc, .slice bea bevs.length bec, .int .i64 btn, .int .i64 btm, .slice bia bop.length bic, .int .i64 bta, .string bnm, .int .i64 bn, .int .i64 bat]] w fun e w' => e = .returned (.bool false) ∧ Kept w w' [] := by
  obtain ⟨W1, hW1⟩ : ∃ W1, W1 = (w.alloc (.cells #[.int .u8 ak, .int .i64 atx, .int .i64 anx, .int .i64 aid, .slice aoa aops.length aoc, .slice aea aevs.length aec, .int .i64 atn, .int .i64 atm, .slice aia aop.length aic, .int .i64 ata, .string anm, .int .i64 an, .int .i64 aat] 35)).alloc (.cells #[.int .u8 ak, .int .i64 atx, .int .i64 bnx, .int .i64 bid, .slice boa bops.length boc, .slice bea bevs.length bec, .int .i64 btn, .int .i64 btm, .slice bia bop.length bic, .int .i64 bta, .string bnm, .int .i64 bn, .int .i64 bat] 35) := ⟨_, rfl⟩
  have hz : (w.alloc (.cells #[.int .u8 ak, .int .i64 atx, .int .i64 anx, .int .i64 aid, .slice aoa aops.length aoc, .slice aea aevs.length aec, .int .i64 atn, .int .i64 atm, .slice aia aop.length aic, .int .i64 ata, .string anm, .int .i64 an, .int .i64 aat] 35)).heap.size = w.heap.size + 1 := by simp
  have k1 : Kept w W1 [] := by rw [hW1]; exact ((Kept.refl w []).alloc _).alloc _
  have b1 : W1.heap[w.heap.size + 1]? = some (.cells #[.int .u8 ak, .int .i64 atx, .int .i64 bnx, .int .i64 bid, .slice boa bops.length boc, .slice bea bevs.length bec, .int .i64 btn, .int .i64 btm, .slice bia bop.length bic, .int .i64 bta, .string bnm, .int .i64 bn, .int .i64 bat] 35 (0, 0)) := by rw [hW1, ← hz]; exact heap_alloc_new _ _
  have b2 : W1.heap[w.heap.size]? = some (.cells #[.int .u8 ak, .int .i64 atx, .int .i64 anx, .int .i64 aid, .slice aoa aops.length aoc, .slice aea aevs.length aec, .int .i64 atn, .int .i64 atm, .slice aia aop.length aic, .int .i64 ata, .string anm, .int .i64 an, .int .i64 aat] 35 (0, 0)) := by rw [hW1]; exact ((Kept.refl _ []).alloc _).heap (by simp) (heap_alloc_new w _)
  have HT := Lib.hid (rtsame_any atn atm ata btn btm bta aia bia aop.length aic bop.length bic aop bop W1 (ra.ri.keep k1) (rb.ri.keep k1))
  have CS : RowKit.Hid (∀ V, Kept W1 V [] → ∀ j, V.cell? ⟨w.heap.size, j, none⟩ = (#[.int .u8 ak, .int .i64 atx, .int .i64 anx, .int .i64 aid, .slice aoa aops.length aoc, .slice aea aevs.length aec, .int .i64 atn, .int .i64 atm, .slice aia aop.length aic, .int .i64 ata, .string anm, .int .i64 an, .int .i64 aat] : Array Value)[j]? ∧ V.cell? ⟨w.heap.size + 1, j, none⟩ = (#[.int .u8 ak, .int .i64 atx, .int .i64 bnx, .int .i64 bid, .slice boa bops.length boc, .slice bea bevs.length bec, .int .i64 btn, .int .i64 btm, .slice bia bop.length bic, .int .i64 bta, .string bnm, .int .i64 bn, .int .i64 bat] : Array Value)[j]?) := Lib.hid (fun V hV j => ⟨cell_of_row V _ j _ _ _ (hV.heap (by simp) b2), cell_of_row V _ j _ _ _ (hV.heap (by simp) b1)⟩)
  have K1 := Lib.hid k1
  clear ra rb k1 b1 b2 hz
  have x0 : (anx != bnx) = true := bne_iff_ne.2 hd
  clear hd
  go_enter Try.func19, Try.ntmps19
  go_wp2
  go_ret
  first | (rw [← hW1]; exact ⟨rfl, K1.out⟩) | (rw [hW1] at K1; exact ⟨rfl, K1.out⟩)

set_option maxHeartbeats 8000000 in
set_option maxRecDepth 100000 in
theorem rs_ne3 (ak : Int) (atx : Int) (anx : Int) (aid : Int) (aops : List Ox) (aevs : List Px) (atn : Int) (atm : Int) (aop : List Int) (ata : Int) (anm : ByteArray) (an : Int) (aat : Int) (aoa : Option Addr) (aea : Option Addr) (aia : Option Addr) (aoc : Nat) (aec : Nat) (aic : Nat) (bid : Int) (bops : List Ox) (bevs : List Px) (btn : Int) (btm : Int) (bop : List Int) (bta : Int) (bnm : ByteArray) (bn : Int) (bat : Int) (boa : Option Addr) (bea : Option Addr) (bia : Option Addr) (boc : Nat) (bec : Nat) (bic : Nat) (w : World) (ra : RdN w (⟨ak, atx, anx, aid, aops, aevs, atn, atm, aop, ata, anm, an, aat⟩ : En) (.slice aoa aops.length aoc) (.slice aea aevs.length aec) (.slice aia aop.length aic)) (rb : RdN w (⟨ak, atx, anx, bid, bops, bevs, btn, btm, bop, bta, bnm, bn, bat⟩ : En) (.slice boa bops.length boc) (.slice bea bevs.length bec) (.slice bia bop.length bic)) (hd : aid ≠ bid) :
    Calls Try.prog 19 #[.agg #[.int .u8 ak, .int .i64 atx, .int .i64 anx, .int .i64 aid, .slice aoa aops.length aoc, .slice aea aevs.length aec, .int .i64 atn, .int .i64 atm, .slice aia aop.length aic, .int .i64 ata, .string anm, .int .i64 an, .int .i64 aat], .agg #[.int .u8 ak, .int .i64 atx, .int .i64 anx, .int .i64 bid, .slice boa bops.length boc, .slice bea bevs.length bec, .int .i64 btn, .int .i64 btm, .slice bia bop.length bic, .int .i64 bta, .string bnm, .int .i64 bn, .int .i64 bat]] w fun e w' => e = .returned (.bool false) ∧ Kept w w' [] := by
  obtain ⟨W1, hW1⟩ : ∃ W1, W1 = (w.alloc (.cells #[.int .u8 ak, .int .i64 atx, .int .i64 anx, .int .i64 aid, .slice aoa aops.length aoc, .slice aea aevs.length aec, .int .i64 atn, .int .i64 atm, .slice aia aop.length aic, .int .i64 ata, .string anm, .int .i64 an, .int .i64 aat] 35)).alloc (.cells #[.int .u8 ak, .int .i64 atx, .int .i64 anx, .int .i64 bid, .slice boa bops.length boc, .slice bea bevs.length bec, .int .i64 btn, .int .i64 btm, .slice bia bop.length bic, .int .i64 bta, .string bnm, .int .i64 bn, .int .i64 bat] 35) := ⟨_, rfl⟩
  have hz : (w.alloc (.cells #[.int .u8 ak, .int .i64 atx, .int .i64 anx, .int .i64 aid, .slice aoa aops.length aoc, .slice aea aevs.length aec, .int .i64 atn, .int .i64 atm, .slice aia aop.length aic, .int .i64 ata, .string anm, .int .i64 an, .int .i64 aat] 35)).heap.size = w.heap.size + 1 := by simp
  have k1 : Kept w W1 [] := by rw [hW1]; exact ((Kept.refl w []).alloc _).alloc _
  have b1 : W1.heap[w.heap.size + 1]? = some (.cells #[.int .u8 ak, .int .i64 atx, .int .i64 anx, .int .i64 bid, .slice boa bops.length boc, .slice bea bevs.length bec, .int .i64 btn, .int .i64 btm, .slice bia bop.length bic, .int .i64 bta, .string bnm, .int .i64 bn, .int .i64 bat] 35 (0, 0)) := by rw [hW1, ← hz]; exact heap_alloc_new _ _
  have b2 : W1.heap[w.heap.size]? = some (.cells #[.int .u8 ak, .int .i64 atx, .int .i64 anx, .int .i64 aid, .slice aoa aops.length aoc, .slice aea aevs.length aec, .int .i64 atn, .int .i64 atm, .slice aia aop.length aic, .int .i64 ata, .string anm, .int .i64 an, .int .i64 aat] 35 (0, 0)) := by rw [hW1]; exact ((Kept.refl _ []).alloc _).heap (by simp) (heap_alloc_new w _)
  have HT := Lib.hid (rtsame_any atn atm ata btn btm bta aia bia aop.length aic bop.length bic aop bop W1 (ra.ri.keep k1) (rb.ri.keep k1))
  have CS : RowKit.Hid (∀ V, Kept W1 V [] → ∀ j, V.cell? ⟨w.heap.size, j, none⟩ = (#[.int .u8 ak, .int .i64 atx, .int .i64 anx, .int .i64 aid, .slice aoa aops.length aoc, .slice aea aevs.length aec, .int .i64 atn, .int .i64 atm, .slice aia aop.length aic, .int .i64 ata, .string anm, .int .i64 an, .int .i64 aat] : Array Value)[j]? ∧ V.cell? ⟨w.heap.size + 1, j, none⟩ = (#[.int .u8 ak, .int .i64 atx, .int .i64 anx, .int .i64 bid, .slice boa bops.length boc, .slice bea bevs.length bec, .int .i64 btn, .int .i64 btm, .slice bia bop.length bic, .int .i64 bta, .string bnm, .int .i64 bn, .int .i64 bat] : Array Value)[j]?) := Lib.hid (fun V hV j => ⟨cell_of_row V _ j _ _ _ (hV.heap (by simp) b2), cell_of_row V _ j _ _ _ (hV.heap (by simp) b1)⟩)
  have K1 := Lib.hid k1
  clear ra rb k1 b1 b2 hz
  have x0 : (aid != bid) = true := bne_iff_ne.2 hd
  clear hd
  go_enter Try.func19, Try.ntmps19
  go_wp2
  go_ret
  first | (rw [← hW1]; exact ⟨rfl, K1.out⟩) | (rw [hW1] at K1; exact ⟨rfl, K1.out⟩)

end Go.Proofs.Ytjdbmlifekghfaa
