/-
  Proved: whatever the arguments are, carrierlaw14.RetryFull answers true and leaves its arguments as they were. No condition.
-/
import Derived.Test.YtcnjgjgppbakdaaRti
import Derived.Test.YtcnjgjgppbakdaaRows
import Derived.Test.YtcnjgjgppbakdaaChecked
import Derived.ProofKit
import Derived.OpenShut
import Derived.ChangeOld
import Derived.Below
namespace Go.Proofs.Ytcnjgjgppbakdaa.retryFull
open Go.ChangeShapes Go.WideShapes Go.ChangeAt Go.RowKit
set_option linter.unusedVariables false

theorem own : ownKnob Try.prog.godebug = none := by kernel_rfl
theorem laidOut : laidOutB Try.prog = true := by kernel_rfl

theorem insG_last {α : Type} {lt : α → α → Bool} {x : α} : ∀ {l : List α}, (∀ y ∈ l, lt x y = false) → insG lt x l = l ++ [x]
  | [], _ => rfl
  | y :: t, h => by
    rw [insG, if_neg (by rw [h y (by simp)]; decide), insG_last (fun z hz => h z (by simp [hz]))]
    rfl

def eI (k : Int) : Ev := ⟨k, 0, ⟨#[]⟩, 0, 0, 0, 0, ⟨#[]⟩⟩
def xI (n : Int) (k : Nat) : It := ⟨n, ⟨k, 0, nA, 1, 0, 0, 0, ⟨#[]⟩⟩⟩
/-- The first k items, all at n. -/
def fullT (n : Int) (k : Nat) : List It := (List.range k).map (xI n)
theorem fullT_len (n : Int) (k : Nat) : (fullT n k).length = k := by simp [fullT]
theorem fullT_succ (n : Int) (k : Nat) : fullT n (k + 1) = fullT n k ++ [xI n k] := by simp [fullT, List.range_succ]
theorem fullT_mem {n : Int} {k : Nat} {x : It} (h : x ∈ fullT n k) : ∃ j, j < k ∧ x = xI n j := by
  simp only [fullT, List.mem_map, List.mem_range] at h
  obtain ⟨j, hj, rfl⟩ := h
  exact ⟨j, hj, rfl⟩
theorem fullT_add (n : Int) {k : Nat} (hk : k < 16) : adiE (fullT n k) k nA = 0 ∧ adiL (fullT n k) (eI k) nA n = fullT n (k + 1) := by
  have h1 : adiE (fullT n k) k nA = 0 := by
    rw [adiE, if_neg (by decide), if_neg (fun h => ?_), if_neg (by rw [fullT_len]; omega)]
    rw [List.any_eq_true] at h
    obtain ⟨x, hx, hc⟩ := h
    obtain ⟨j, hj, rfl⟩ := fullT_mem hx
    have := (isK_iff.1 hc).1
    simp only [xI] at this
    omega
  refine ⟨h1, ?_⟩
  rw [adiL, if_pos (show adiE (fullT n k) (eI k).id nA = 0 from h1), fullT_succ]
  refine insG_last (fun y hy => ?_)
  obtain ⟨j, hj, rfl⟩ := fullT_mem hy
  cases hc : ltI (addX (eI k) nA n) (xI n j) with
  | false => rfl
  | true =>
    rw [ltI_iff] at hc
    simp only [addX, eI, xI, Int.lt_irrefl, true_and, false_or] at hc
    rcases hc with h | ⟨h, _⟩ <;> omega
theorem fullT_dup (n : Int) (at' : Int) (k : Nat) : adiE (fullT n (k + 1)) k nA = 5 ∧ adiL (fullT n (k + 1)) (eI k) nA at' = fullT n (k + 1) := by
  have h1 : adiE (fullT n (k + 1)) k nA = 5 := by
    rw [adiE, if_neg (by decide), if_pos ?_]
    rw [List.any_eq_true]
    exact ⟨xI n k, by rw [fullT_succ]; simp, isK_iff.2 ⟨rfl, rfl⟩⟩
  refine ⟨h1, ?_⟩
  rw [adiL, if_neg (by rw [show adiE (fullT n (k + 1)) (eI k).id nA = 5 from h1]; decide)]
theorem fullT_end (n : Int) : adiE (fullT n 16) 99 nA = 8 ∧ adiL (fullT n 16) (eI 99) nA 0 = fullT n 16 ∧ adiE (fullT n 16) 1 ⟨#[]⟩ = 1 ∧ adiL (fullT n 16) (eI 1) ⟨#[]⟩ 0 = fullT n 16 ∧
    dueI (fullT n 16) (n - 1) = [] ∧ lftI (fullT n 16) (n - 1) = fullT n 16 ∧ dueI (fullT n 16) n = fullT n 16 := by
  have h1 : adiE (fullT n 16) 99 nA = 8 := by
    rw [adiE, if_neg (by decide), if_neg (fun h => ?_), if_pos (by rw [fullT_len]; omega)]
    rw [List.any_eq_true] at h
    obtain ⟨x, hx, hc⟩ := h
    obtain ⟨j, hj, rfl⟩ := fullT_mem hx
    have := (isK_iff.1 hc).1
    simp only [xI] at this
    omega
  have h2 : adiE (fullT n 16) 1 ⟨#[]⟩ = 1 := by rw [adiE, if_pos (by decide)]
  refine ⟨h1, by rw [adiL, if_neg (by rw [show adiE (fullT n 16) (eI 99).id nA = 8 from h1]; decide)], h2, by rw [adiL, if_neg (by rw [show adiE (fullT n 16) (eI 1).id ⟨#[]⟩ = 1 from h2]; decide)], ?_, ?_, ?_⟩
  · rw [dueI, List.filter_eq_nil_iff]
    intro x hx
    obtain ⟨j, hj, rfl⟩ := fullT_mem hx
    show ¬ decide (n ≤ n - 1) = true
    rw [decide_eq_true_eq]
    omega
  · rw [lftI, List.filter_eq_self]
    intro x hx
    obtain ⟨j, hj, rfl⟩ := fullT_mem hx
    show (!decide (n ≤ n - 1)) = true
    rw [decide_eq_false (by omega)]
    rfl
  · rw [dueI, List.filter_eq_self]
    intro x hx
    obtain ⟨j, hj, rfl⟩ := fullT_mem hx
    simp [xI]

set_option maxHeartbeats 4000000 in
set_option maxRecDepth 100000 in
theorem walk (a0 : Int) (w0 : (Lit.int .u8 a0).wf = true) (W : World) :
    Calls Try.prog 4 #[.int .u8 a0] W fun e w' => e = .returned (.bool true) ∧ Below W.heap.size W w' := by
  obtain ⟨n, rfl, hn⟩ : ∃ n : Nat, a0 = (n : Int) ∧ n < 256 := by
    have := bounds_u8 w0
    exact ⟨a0.toNat, by omega, by omega⟩
  clear w0
  obtain ⟨e1, e2, e3, e4, e5, e6, e7⟩ := fullT_end (n : Int)
  have E1 := Lib.hid e1; have E2 := Lib.hid e2; have E3 := Lib.hid e3; have E4 := Lib.hid e4; have E5 := Lib.hid e5; have E6 := Lib.hid e6; have E7 := Lib.hid e7
  clear e1 e2 e3 e4 e5 e6 e7
  go_enter Try.func4, Try.ntmps4
  go_wp2_with fail
  refine (seven_any W).mono ?_
  rintro e w1 ⟨rfl, k1⟩
  have K1 := Lib.hid k1; clear k1
  go_wp2_with fail
  refine (tq_new K1.out).mono ?_
  rintro e w2 ⟨h, rfl, c2⟩
  have C2 := Lib.hid c2; clear c2
  go_wp2
  go_loopw [4] (fun s4 wr => ∃ k : Nat, s4 = .int .i64 k ∧ k ≤ 16 ∧ Hid (Tq W wr h (fullT n k))) (fun s4 _ => 16 - (intOf s4).toNat)
  case atStart => exact ⟨0, rfl, Nat.zero_le _, C2⟩
  case round =>
    obtain ⟨k, rfl, hk, C⟩ := hrel
    by_cases hlt : k < 16
    · have x1 : (k : Int) < 16 := by omega
      have FA := Lib.hid (fullT_add (n : Int) hlt); have FD := Lib.hid (fullT_dup (n : Int) 0 k)
      go_wp2_with fail
      refine (tq_add C.out (eI k) (by show (-9223372036854775808 : Int) ≤ 0; decide) nA n).mono ?_
      rintro e w3 ⟨rfl, c3⟩
      rw [FA.out.2] at c3
      rw [show adiE (fullT n k) (eI k).id nA = 0 from FA.out.1]
      have C3 := Lib.hid c3; clear c3
      go_wp2_with fail
      refine (tq_add C3.out (eI k) (by show (-9223372036854775808 : Int) ≤ 0; decide) nA 0).mono ?_
      rintro e w4 ⟨rfl, c4⟩
      rw [FD.out.2] at c4
      rw [show adiE (fullT n (k + 1)) (eI k).id nA = 5 from FD.out.1]
      have C4 := Lib.hid c4; clear c4
      go_wp2
      go_roundw
      case rel => exact ⟨k + 1, by go_num, by omega, C4⟩
      case measure => simp [intOf]; omega
    · have x1 : ¬ (k : Int) < 16 := by omega
      obtain rfl : k = 16 := by omega
      go_wp2_with fail
      refine (tq_add C.out (eI 99) (by decide) nA 0).mono ?_
      rintro e w3 ⟨rfl, c3⟩
      rw [E2.out] at c3
      rw [show adiE (fullT n 16) (eI 99).id nA = 8 from E1.out]
      have C3 := Lib.hid c3; clear c3
      go_wp2_with fail
      refine (tq_add C3.out (eI 1) (by decide) ⟨#[]⟩ 0).mono ?_
      rintro e w4 ⟨rfl, c4⟩
      rw [E4.out] at c4
      rw [show adiE (fullT n 16) (eI 1).id ⟨#[]⟩ = 1 from E3.out]
      have C4 := Lib.hid c4; clear c4
      go_wp2_with fail
      refine (tq_all C4.out).mono ?_
      rintro e w5 ⟨v5, rfl, o5, k5⟩
      obtain ⟨u5, c5, h5⟩ := o5.shape
      rw [fullT_len] at h5
      subst h5
      have C5 := Lib.hid (C4.out.keep k5); clear k5 o5
      go_wp2_with fail
      refine (tq_take C5.out ((n : Int) - 1)).mono ?_
      rintro e w6 ⟨v6, rfl, o6, c6, _⟩
      rw [E5.out] at o6
      rw [E6.out] at c6
      obtain ⟨u6, q6, h6⟩ := o6.shape
      rw [show (evs []).length = 0 from rfl] at h6
      subst h6
      have C6 := Lib.hid c6; clear c6 o6
      go_wp2_with fail
      refine (tq_take C6.out (n : Int)).mono ?_
      rintro e w7 ⟨v7, rfl, o7, c7, _⟩
      rw [E7.out] at o7
      obtain ⟨u7, q7, h7⟩ := o7.shape
      rw [evs_length, fullT_len] at h7
      subst h7
      have C7 := Lib.hid c7; clear c7 o7
      go_wp2
      go_ret
      exact ⟨rfl, C7.out.below⟩

set_option maxRecDepth 100000 in
theorem lifted (os : Os) (started : os.Started) (H : Type) (enc : TypeId × Value → H) :
    ReturnsInHanded {} Try.checked os 4 .any (Rows.retryFullSpec.pre6 enc Try.prog Try.f4 Rows.retryFullRow.domain false) (Rows.retryFullSpec.post enc Try.prog Try.f4 false true false false) := by
  refine returnsInHanded_of_change (C := Try.checked) own started (by kernel_rfl) Try.func4
    (ChangeSpec.witness6 (enc := enc) (C := Try.checked) false ⟨#[], #[.int .u8 0], []⟩ 8 (by kernel_rfl) (by kernel_rfl) (by kernel_rfl) (by kernel_rfl)) ?_
  intro W base args ds gs before hval0 hW hcnd _
  have hval : ∀ (j : Nat) t v, Try.f4.params[j]? = some t → args[j]? = some v → Value.okWide Try.prog W .any base t v := hval0
  have hW' := hW
  obtain ⟨p, q, hA0, hV, rfl, hfz, hnd⟩ := hW
  have hA : DataW.TrodAll enc Try.prog W 0 (fun _ => true) true Try.f4.params.toList args.toList ds p := hA0
  rw [Try.params4] at hA hval
  obtain ⟨v0, vs0, d0, ds0, p0, q0, hargs, rfl, rfl, h0, r0⟩ := trodAll_cons hA
  obtain ⟨rfl, rfl, rfl⟩ := trodAll_nil r0
  obtain rfl : args = #[v0] := by cases args; simp_all
  obtain ⟨rfl, rfl⟩ := trodVars_none hV
  obtain ⟨a0, rfl, rfl, rfl, w0⟩ := open_int Try.underlying5 (hval 0 5 v0 rfl rfl) h0
  clear hA0 hval0
  simp only [List.append_nil] at hW'
  refine (walk a0 w0 W).mono fun e W' ⟨he, bel⟩ => ?_
  subst he
  exact ⟨_, rfl, _, _, _, [], _, [], hW', trodAll_mk1 (shut_bool Try.underlying4 _), (trodAll_cons_mk (shut_int Try.underlying5 w0) trodAll_mk0), rfl, bel.frame _, fun h => by cases h⟩

theorem over : Rows.retryFullRow.holds Try.pinned (OpenSpec.ofChange Rows.retryFullSpec) :=
  OpenClaim.holds_of_wide 4 Try.f4 rfl rfl rfl rfl rfl rfl rfl ⟨rfl, rfl, rfl, rfl, rfl⟩ rfl rfl rfl rfl rfl (by kernel_rfl) Try.func4 (by kernel_rfl)
    (of_decide_eq_true (by kernel_rfl)) (by unfold Func.isWrapper; first | (rw [if_pos (by decide +kernel)]; kernel_rfl) | (rw [if_neg (by decide +kernel)]; exact ⟨rfl, rfl⟩))
    (fun os started H enc _ => lifted os started H enc)

theorem proved : Rows.RetryFullSaid :=
  over
end Go.Proofs.Ytcnjgjgppbakdaa.retryFull

namespace Go.Proofs.Ytcnjgjgppbakdaa
theorem retryFull_holds : Rows.RetryFullSaid := retryFull.proved
#print axioms retryFull_holds
end Go.Proofs.Ytcnjgjgppbakdaa

