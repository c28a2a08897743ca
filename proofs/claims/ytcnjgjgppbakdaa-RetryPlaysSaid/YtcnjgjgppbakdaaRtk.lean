/-
  The document's Same of events that can be read.
-/
import Derived.Test.YtcnjgjgppbakdaaRtj
import Derived.Laws.StructEq
import Derived.Deep.LoopGhost
namespace Go.Proofs.Ytcnjgjgppbakdaa
set_option linter.unusedVariables false
open Go.RowKit

variable {w : World}

/-- An event's eight cells. -/
theorem RdK.eight {a : Option Addr} {n c : Nat} {m : List Ev} (x : RdK encEv w (.slice a n c) m) {k : Nat} {r : Ev} (hr : m[k]? = some r) : ∃ b o, a = some ⟨b, o, none⟩ ∧
    w.cell? ⟨b, o + k * 8, none⟩ = some (.int .i64 r.id) ∧ w.cell? ⟨b, o + k * 8 + 1, none⟩ = some (.int .i64 r.tx) ∧ w.cell? ⟨b, o + k * 8 + 2, none⟩ = some (.string r.ow) ∧ w.cell? ⟨b, o + k * 8 + 3, none⟩ = some (.int .i64 r.tr) ∧
    w.cell? ⟨b, o + k * 8 + 4, none⟩ = some (.int .i64 r.tb) ∧ w.cell? ⟨b, o + k * 8 + 5, none⟩ = some (.int .u8 r.kd) ∧ w.cell? ⟨b, o + k * 8 + 6, none⟩ = some (.int .i64 r.key) ∧ w.cell? ⟨b, o + k * 8 + 7, none⟩ = some (.string r.t) := by
  obtain ⟨b, o, rfl, hc⟩ := x.at hr
  exact ⟨b, o, rfl, hc 0 (by decide), hc 1 (by decide), hc 2 (by decide), hc 3 (by decide), hc 4 (by decide), hc 5 (by decide), hc 6 (by decide), hc 7 (by decide)⟩

/-- An event is itself. -/
theorem ev_ne (b0 b1 b3 b4 b5 b6 : Int) (b2 b7 : ByteArray) (w : World) : (binOp .neq 35 (.agg #[.int .i64 b0, .int .i64 b1, .string b2, .int .i64 b3, .int .i64 b4, .int .u8 b5, .int .i64 b6, .string b7]) (.agg #[.int .i64 b0, .int .i64 b1, .string b2, .int .i64 b3, .int .i64 b4, .int .u8 b5, .int .i64 b6, .string b7])).run Try.prog w = .ok (.bool false) w := by
  go_simp

set_option maxHeartbeats 1000000 in
theorem same_any {va vb : Value} {m : List Ev} (ha : RdK encEv w va m) (hb : RdK encEv w vb m) (hm : m.length < 1000000) :
    Calls Try.prog 14 #[va, vb] w fun e w' => e = .returned (.bool true) ∧ Kept w w' [] := by
  obtain ⟨a, ca, rfl⟩ := ha.shape
  obtain ⟨b, cb, rfl⟩ := hb.shape
  have HA := Lib.hid ha; have HB := Lib.hid hb
  obtain ⟨n, hn⟩ : ∃ n, n = m.length := ⟨_, rfl⟩
  have HN := Lib.hid hn
  rw [← hn] at hm ⊢
  clear ha hb hn
  have eqs := ev_ne
  go_enter Try.func14, Try.ntmps14
  go_wp2
  go_loopg [5] n (fun kx s5 wr => ∃ i : Nat, s5 = .int .i64 i ∧ i ≤ n ∧ n - i ≤ kx ∧ RowKit.Hid (Kept w wr []))
  case atStart => exact ⟨0, rfl, by omega, by omega, Kept.refl _ _⟩
  case round =>
    obtain ⟨i, rfl, hi, hkx, HK⟩ := hrel
    by_cases hlt : i < n
    · have x1 : (i : Int) < (n : Int) := by omega
      obtain ⟨r, hr⟩ : ∃ r, m[i]? = some r := ⟨_, List.getElem?_eq_getElem (by rw [← HN.out]; exact hlt)⟩
      have ea := (HA.out.kept HK.out (by simp))
      have eb := (HB.out.kept HK.out (by simp))
      rw [← HN.out] at ea eb
      obtain ⟨ba, oa, rfl, fa⟩ := ea.eight hr
      obtain ⟨bb, ob, rfl, fb⟩ := eb.eight hr
      obtain ⟨b0, b1, b2, b3, b4, b5, b6, b7⟩ := r
      have FA1 := Lib.hid fa; have FB1 := Lib.hid fb
      obtain ⟨p0, p1, p2, p3, p4, p5, p6, p7⟩ := fa
      obtain ⟨q0, q1, q2, q3, q4, q5, q6, q7⟩ := fb
      simp only at p0 p1 p2 p3 p4 p5 p6 p7 q0 q1 q2 q3 q4 q5 q6 q7
      clear hr ea eb
      go_wp2_with fail
      go_quiet (fail)
      have KN := Lib.hid (HK.out.drewN nq)
      clear p0 p1 p2 p3 p4 p5 p6 p7 q0 q1 q2 q3 q4 q5 q6 q7
      generalize wr.drewN nq = wn at KN ⊢
      go_wp2
      go_roundg (n - (i + 1))
      case measure => omega
      case rel => exact ⟨i + 1, by go_num, by omega, by omega, KN⟩
    · have x1 : ¬ (i : Int) < (n : Int) := by omega
      go_wp2
      go_ret
      exact ⟨rfl, HK.out⟩

end Go.Proofs.Ytcnjgjgppbakdaa
