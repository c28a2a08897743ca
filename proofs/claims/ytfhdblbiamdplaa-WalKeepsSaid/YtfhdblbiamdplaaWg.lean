/-
  The contract of wal.Open.
-/
import Derived.Test.YtfhdblbiamdplaaWf
import Derived.Lib.SliceRun
namespace Go.Proofs.Ytfhdblbiamdplaa
open Go.RowKit

theorem clear_none (w : World) (ty : TypeId) (a : Option Addr) (c : Nat) : (Builtin.clear_ #[36] ty #[.slice a 0 c]).run Try.prog w = .ok (.tuple #[]) w := by
  cases a <;> simp [Builtin.clear_, run_underlying (P := Try.prog) Try.underlying36]

/-- The last bytes of a slice of the call's own are made noughts. -/
theorem own_clear {w : World} {B g n c : Nat} {l : List UInt8} (h : Own w B 5 (.slice (some ⟨g, 0, none⟩) n c) l) (k : Nat) (hk : k < l.length) :
    (∀ ty cc, (Builtin.clear_ #[36] ty #[.slice (some ⟨g, k, none⟩) (l.length - k) cc]).run Try.prog w = .ok (.tuple #[]) (w.setCells g k (List.replicate (l.length - k) (.int .u8 0)))) ∧
    Own (w.setCells g k (List.replicate (l.length - k) (.int .u8 0))) B 5 (.slice (some ⟨g, 0, none⟩) n c) (l.take k ++ List.replicate (l.length - k) 0) ∧
    Kept w (w.setCells g k (List.replicate (l.length - k) (.int .u8 0))) [g] ∧ Fr B [5] w (w.setCells g k (List.replicate (l.length - k) (.int .u8 0))) := by
  have hlen := h.1
  rcases h.2 with ⟨h1, _⟩ | ⟨g', cap, cur, hv, hbg, hg, hnc, hcm, hcs, ht⟩
  · simp at h1
  · simp only [Value.slice.injEq, Option.some.injEq, Addr.mk.injEq] at hv
    obtain ⟨⟨rfl, _⟩, rfl, rfl⟩ := hv
    rw [Nat.mul_one] at hcs ht
    have hg2 : w.heap[g]? = some (.cells cur.toList.toArray 5 (0, 0)) := by simpa using hg
    have hfit : k + (List.replicate (l.length - k) (Value.int .u8 0)).length ≤ cur.toList.length := by simp; omega
    obtain ⟨hg3, kk, ff⟩ := setCells_fr hg2 hfit
    have hll : (l.take k ++ List.replicate (l.length - k) (0 : UInt8)).length = l.length := by simp; omega
    have hzb : (List.replicate (l.length - k) (Value.int .u8 0)) = bc (List.replicate (l.length - k) (0 : UInt8)) := by simp [bc]
    have htk : cur.toList.take k = bc (l.take k) := by
      have := congrArg (List.take k) ht
      rw [List.take_take, Nat.min_eq_left (by omega)] at this
      rw [this]
      simp [bc, List.map_take]
    refine ⟨fun ty cc => ?_, ⟨by rw [bc_length, Nat.mul_one], .inr ⟨g, c, (splice cur.toList k (List.replicate (l.length - k) (Value.int .u8 0))).toArray, by rw [hll], hbg, hg3, by rw [hll]; exact hnc, hcm, ?_, ?_⟩⟩, kk, ff.mono hbg (by simp)⟩
    · obtain ⟨i0, hi, hz0, hz1, hz2⟩ := info_parts Try.infoB
      refine Lib.run_clear_slice (P := Try.prog) w 36 5 ty (.int .u8 0) Try.underlying36 (fun w => ?_) rfl rfl g k (l.length - k) cc (by omega) (fun j hj => ?_) (fun j _ => frozen_of_row _ _ _ _ _ hg)
      · simp [zeroValue, typeInfo, hi, hz0]
      · rw [cell_of_row w g (k + j) _ _ _ hg]
        simp; omega
    · rw [List.size_toArray, length_splice _ _ _ hfit, Nat.mul_one, Array.length_toList, hcs]
    · rw [hll, Nat.mul_one, splice, htk, bc_append, ← hzb, ← List.append_assoc, List.take_append_of_le_length (by simp [bc_length]; omega), List.take_of_length_le (by simp [bc_length]; omega)]

/-- All bytes as Open leaves them. -/
def clr (b : List UInt8) : List UInt8 := b.take (szs (scan b)) ++ List.replicate (b.length - szs (scan b)) 0
theorem clr_length (b : List UInt8) : (clr b).length = b.length := by
  have := szs_scan b.length b (Nat.le_refl _)
  simp [clr]; omega

/-- A log at block q. -/
def Lg (w : World) (q p s : Nat) : Prop := w.heap[q]? = some (.cells #[.pointer (some ⟨p, 0, none⟩), .int .i64 s] 100 (0, 0))

theorem open_nil (w : World) : Calls Try.prog 17 #[.pointer none] w fun e w' => e = .returned (.tuple #[.pointer none, .slice none 0 0, .int .i64 4]) ∧ w = w' := by
  go_enter Try.func17, Try.ntmps17
  go_wp2
  go_ret3
  exact ⟨rfl, rfl⟩

/-- What Open leaves. -/
def Opened (w : World) (B p gn gs n : Nat) (now safe : List UInt8) (ws : List Wt) (q : Nat) (vr : Value) (w' : World) : Prop :=
  ∃ v' safe' ws', Dv w' B p gn gs v' n (clr now) safe' ws' ∧ clr now = laid safe' (pairs ws') ∧ (now = clr now → safe' = safe ∧ ws' = ws) ∧ (now ≠ clr now → safe' = clr now ∧ ws' = []) ∧ Fr B dts w w' ∧ Lg w' q p (szs (scan now)) ∧ w.heap.size ≤ q ∧ RowsR w' w.heap.size 0 vr (scan now)

end Go.Proofs.Ytfhdblbiamdplaa
