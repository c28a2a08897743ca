/-
  The code's consumers: Register, Unregister.
-/
import Derived.Test.YtnoiomaoignndaaCuc
namespace Go.Proofs.Ytnoiomaoignndaa
set_option linter.unusedVariables false
open Go.RowKit

theorem size_toList (n : ByteArray) : n.toList.length = n.size := by rw [ByteArray.toList_eq, Array.length_toList]; rfl
theorem toList_nil {n : ByteArray} (h : n.size = 0) : n.toList = [] := List.eq_nil_of_length_eq_zero (by rw [size_toList]; exact h)
theorem toList_ne {n : ByteArray} (h : ¬ n.size = 0) : ¬ n.toList = [] ∧ n.toList.isEmpty = false := by
  have h1 : ¬ n.toList = [] := fun e => h (by rw [← size_toList, e]; rfl)
  exact ⟨h1, by simpa using h1⟩

variable {w w' : World} {B h : Nat} {V : Value} {l : List Cu}

/-- What a call leaves: the error, the new list. -/
def ChgPost (w : World) (B h : Nat) (V : Value) (T e : TypeId) (r : Value) (m : List Cu) (x : Ending) (w' : World) : Prop :=
  x = .returned r ∧ ∃ V', Cc T e w' B h V' m ∧ Stp (cfoot h V) (cfoot h V') w w'

set_option maxHeartbeats 2000000 in
set_option maxRecDepth 100000 in
theorem creg_any (a : Cc cuT cuE w B h V l) (ok : OkC l) (n : ByteArray) (at' : Int) : Calls Try.prog 12 #[.pointer (some ⟨h, 0, none⟩), .string n, .int .i64 at'] w (ChgPost w B h V cuT cuE (.int .i64 (regE l n at')) (regL l n at')) := by
  have FD := Lib.hid (cfind_any a ok n)
  have A := Lib.hid a; have OK := Lib.hid ok
  obtain ⟨u, c, e⟩ := a.shape
  have EV := Lib.hid e
  have few := ok.few
  clear a ok e
  by_cases h0 : n.size = 0 ∨ 40 < n.size ∨ at' < 1
  · have e1 : regE l n at' = 1 := by rw [regE, if_pos (by omega)]
    have e2 : regL l n at' = l := by rw [regL, if_neg (by rw [e1]; decide)]
    rw [e1, e2]
    clear e1 e2 few
    have fin : ∀ w2, Kept w w2 [] → ChgPost w B h V cuT cuE (.int .i64 1) l (.returned (.int .i64 1)) w2 := fun w2 k2 => ⟨rfl, V, A.out.keep k2, Stp.ofK k2⟩
    have FIN := Lib.hid fin
    clear fin
    by_cases hE : n.size = 0
    · have hE1 := toList_nil hE
      clear h0 hE
      go_enter Try.func12, Try.ntmps12
      go_wp2_with (go_at_call 25; refine FD.out.mono ?_; rintro e w2 ⟨rfl, k2⟩)
      go_ret
      exact FIN.out _ k2
    · obtain ⟨hE1, hE2⟩ := toList_ne hE
      by_cases hL : 40 < n.size
      · have hL1 : (40 : Int) < (n.size : Int) := by omega
        clear h0 hE hL
        go_enter Try.func12, Try.ntmps12
        go_wp2_with (go_at_call 25; refine FD.out.mono ?_; rintro e w2 ⟨rfl, k2⟩)
        all_goals
          go_ret
          exact FIN.out _ k2
      · have hL1 : (n.size : Int) ≤ 40 := by omega
        have hA : at' < 1 := by omega
        clear h0 hE hL
        go_enter Try.func12, Try.ntmps12
        go_wp2_with (go_at_call 25; refine FD.out.mono ?_; rintro e w2 ⟨rfl, k2⟩)
        all_goals
          go_ret
          exact FIN.out _ k2
  · have hr : regE l n at' = if (plc l n).isSome then 5 else if 4 ≤ l.length then 8 else 0 := by rw [regE, if_neg (by omega)]
    obtain ⟨hE1, hE2⟩ := toList_ne (n := n) (by omega)
    have hL1 : (n.size : Int) ≤ 40 := by omega
    have hL2 : ¬ (40 : Int) < (n.size : Int) := by omega
    have hA : ¬ at' < 1 := by omega
    have hA1 : (1 : Int) ≤ at' := by omega
    cases hp : plc l n with
    | some i =>
      have e1 : regE l n at' = 5 := by rw [hr, hp]; rfl
      have e2 : regL l n at' = l := by rw [regL, if_neg (by rw [e1]; decide)]
      rw [e1, e2]
      rw [hp] at FD
      simp only [Option.isSome_some] at FD
      clear e1 e2 hr h0 hp few
      go_enter Try.func12, Try.ntmps12
      go_wp2_with (go_at_call 25; refine FD.out.mono ?_; rintro e w2 ⟨rfl, k2⟩)
      go_ret
      exact ⟨rfl, V, A.out.keep k2, Stp.ofK k2⟩
    | none =>
      have hp1 := Lib.hid hp
      rw [hp] at FD
      simp only [Option.isSome_none] at FD
      have hpn : ¬ ((none : Option Nat).isSome = true) := by decide
      by_cases hf : 4 ≤ l.length
      · have e1 : regE l n at' = 8 := by rw [hr, hp, if_neg hpn, if_pos hf]
        have e2 : regL l n at' = l := by rw [regL, if_neg (by rw [e1]; decide)]
        rw [e1, e2]
        have hf1 : (4 : Int) ≤ (l.length : Int) := by omega
        clear e1 e2 hr h0 hp few hf hpn
        go_enter Try.func12, Try.ntmps12
        go_wp2_with (go_at_call 25; refine FD.out.mono ?_; rintro e w2 ⟨rfl, k2⟩; have c0 := (A.out.keep k2).cell.1; rw [EV.out] at c0)
        go_ret
        exact ⟨rfl, V, A.out.keep k2, Stp.ofK k2⟩
      · have e1 : regE l n at' = 0 := by rw [hr, hp, if_neg hpn, if_neg hf]
        have e2 : regL l n at' = insC ⟨n, at', 0⟩ l := by rw [regL, if_pos e1]
        rw [e1, e2]
        have hf1 : (l.length : Int) < 4 := by omega
        have hf2 := Lib.hid (show l.length ≤ 1000 by omega)
        have INS := Lib.hid (ins_ahd (x := ⟨n, at', 0⟩) OK.out.nms hp)
        have AL := Lib.hid (ahd_le l n)
        clear e1 e2 hr h0 hp few hf hpn
        go_enter Try.func12, Try.ntmps12
        go_wp2_with fail
        refine FD.out.mono ?_
        rintro e w2 ⟨rfl, k2⟩
        have a2 := A.out.keep k2
        have c0 := a2.cell.1
        rw [EV.out] at c0
        obtain ⟨w3, hw3⟩ : ∃ w3, w3 = w2.alloc (.cells #[.string n, .int .i64 at', .int .i64 0] cuE) := ⟨_, rfl⟩
        have k3 : Kept w2 w3 [] := by rw [hw3]; exact (Kept.refl w2 []).alloc _
        have g3 : w3.heap[w2.heap.size]? = some (.cells (Cu.cs ⟨n, at', 0⟩) cuE (0, 0)) := by rw [hw3]; exact heap_alloc_new w2 _
        have a3 := a2.keep k3
        have IN := Lib.hid (cinsert_any (i := ahd l n) (x := ⟨n, at', 0⟩) a3.own a3.size g3 (fun e => by have := (a2.own.lt _ e).2; omega) AL.out hf2.out)
        rw [EV.out] at IN
        have A3 := Lib.hid a3; have K3 := Lib.hid k3; have HW3 := Lib.hid hw3; have K2 := Lib.hid k2
        clear a2 k3 g3 a3 hw3 k2
        go_wp2_with fail
        rw [← HW3.out]
        refine IN.out.mono ?_
        rintro e w4 ⟨v', rfl, ho, hfo, hv⟩
        obtain ⟨L', hL'⟩ : ∃ L', L' = (List.take (ahd l n) l ++ (⟨n, at', 0⟩ : Cu) :: List.drop (ahd l n) l).length := ⟨_, rfl⟩
        obtain ⟨u', c', hv'⟩ := ho.shape
        rw [← hL'] at hv'
        subst hv'
        clear hL'
        rw [← EV.out] at hfo hv
        obtain ⟨⟨c4, f4⟩, a5, s5⟩ := A3.out.lay hfo ho hv
        rw [EV.out] at c4
        rw [INS.out] at a5
        have A5 := Lib.hid a5; have S5 := Lib.hid s5
        clear ho hfo hv a5 s5 c0
        go_wp2
        go_ret
        exact ⟨rfl, _, A5.out, (Stp.ofK K2.out).trans (S5.out.afterK K3.out)⟩

set_option maxHeartbeats 1000000 in
theorem creg_nil (n : ByteArray) (at' : Int) (w : World) : Calls Try.prog 12 #[.pointer none, .string n, .int .i64 at'] w fun e w' => e = .returned (.int .i64 4) ∧ w' = w := by
  go_enter Try.func12, Try.ntmps12
  go_wp2
  go_ret
  exact ⟨rfl, rfl⟩

set_option maxHeartbeats 1000000 in
theorem cunr_nil (n : ByteArray) (w : World) : Calls Try.prog 18 #[.pointer none, .string n] w fun e w' => e = .returned (.int .i64 4) ∧ w' = w := by
  go_enter Try.func18, Try.ntmps18
  go_wp2_with (go_at_call 25; refine (cfind_nil _ _).mono ?_; rintro e w2 ⟨rfl, rfl⟩)
  go_ret
  exact ⟨rfl, rfl⟩

set_option maxHeartbeats 2000000 in
set_option maxRecDepth 100000 in
theorem cunr_any (a : Cc cuT cuE w B h V l) (ok : OkC l) (n : ByteArray) : Calls Try.prog 18 #[.pointer (some ⟨h, 0, none⟩), .string n] w (ChgPost w B h V cuT cuE (.int .i64 (unrE l n)) (unrL l n)) := by
  have FD := Lib.hid (cfind_any a ok n)
  have A := Lib.hid a; have OK := Lib.hid ok
  cases hp : plc l n with
  | none =>
    have e1 : unrE l n = 4 := by rw [unrE, hp]; rfl
    have e2 : unrL l n = l := by rw [unrL, hp]
    rw [e1, e2]
    rw [hp] at FD
    simp only [Option.isSome_none] at FD
    clear a ok hp e1 e2
    go_enter Try.func18, Try.ntmps18
    go_wp2_with (go_at_call 25; refine FD.out.mono ?_; rintro e w2 ⟨rfl, k2⟩)
    go_ret
    exact ⟨rfl, V, A.out.keep k2, Stp.ofK k2⟩
  | some i =>
    have e1 : unrE l n = 0 := by rw [unrE, hp]; rfl
    have e2 : unrL l n = l.eraseIdx i := by rw [unrL, hp]
    rw [e1, e2]
    obtain ⟨x, hx, hxn⟩ := plc_some hp
    have hil : i < l.length := (List.getElem?_eq_some_iff.1 hx).1
    have few := ok.few
    obtain ⟨m, hm⟩ : ∃ m, l.length = m + 1 := ⟨l.length - 1, by omega⟩
    rw [hp, plc_ahd ok.nms hp] at FD
    simp only [Option.isSome_some] at FD
    obtain ⟨u, c, e⟩ := a.shape
    rw [hm] at e
    obtain ⟨g, hu, -⟩ := OwnK.at (by have := a.own; rw [e] at this; exact this) hx
    subst hu
    have EV := Lib.hid e; have HM := Lib.hid hm
    have him : i ≤ m := by omega
    have hm4 : m ≤ 1000 := by omega
    have hs1 : (i : Int) + 1 ≤ 9223372036854775807 := by omega
    clear a ok hp e1 e2 hx hxn few e hil hm
    go_enter Try.func18, Try.ntmps18
    go_wp2_with fail
    refine FD.out.mono ?_
    rintro e w2 ⟨rfl, k2⟩
    have a2 := A.out.keep k2
    have c0 := a2.cell.1
    rw [EV.out] at c0
    have IN := Lib.hid (cdelete_any g m c l i w2 B HM.out (by have := a2.own; rw [EV.out] at this; exact this) him hm4)
    have A2 := Lib.hid a2; have K2 := Lib.hid k2
    clear a2 k2
    go_wp2_with fail
    refine IN.out.mono ?_
    rintro e w4 ⟨rfl, ho, hfo⟩
    obtain ⟨⟨c4, f4⟩, a5, s5⟩ := A2.out.lay (hfo.mono (fun k hk => by rw [EV.out, hk]; rfl)) ho (fun k hk => .inl (by rw [EV.out]; exact hk))
    rw [EV.out] at c4
    rw [HM.out, Nat.add_sub_cancel] at a5 s5 ⊢
    have A5 := Lib.hid a5; have S5 := Lib.hid s5
    clear ho hfo a5 s5 c0
    go_wp2
    go_ret
    exact ⟨rfl, _, A5.out, S5.out.afterK K2.out⟩

end Go.Proofs.Ytnoiomaoignndaa
