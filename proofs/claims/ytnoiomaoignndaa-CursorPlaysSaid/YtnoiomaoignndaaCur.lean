/-
  The document's consumers: Open, Finish.
-/
import Derived.Test.YtnoiomaoignndaaCuq
namespace Go.Proofs.Ytnoiomaoignndaa
set_option linter.unusedVariables false
open Go.RowKit

variable {w w' : World} {B h : Nat} {V : Value} {l : List Cu}

set_option maxHeartbeats 2000000 in
set_option maxRecDepth 100000 in
theorem ropn_any (a : Cc rcT rcE w B h V l) (ok : OkC l) (n : ByteArray) (nx : Int) : Calls Try.prog 15 #[.pointer (some ⟨h, 0, none⟩), .string n, .int .i64 nx] w (ChgPost w B h V rcT rcE (.int .i64 (opnE l n nx)) (opnL l n nx)) := by
  have few := ok.few
  have FD := Lib.hid (rfind_any a n (by omega))
  have A := Lib.hid a
  cases hp : plc l n with
  | none =>
    have e1 : opnE l n nx = 4 := by rw [opnE, getC_none hp]
    have e2 : opnL l n nx = l := by rw [opnL, hp]
    have e3 : fnd l n = -1 := by rw [fnd, hp]
    rw [e1, e2]
    rw [e3] at FD
    clear a ok hp e1 e2 e3
    go_enter Try.func15, Try.ntmps15
    go_wp2_with (go_at_call 21; refine FD.out.mono ?_; rintro e w2 ⟨rfl, hw⟩; have hw2 := hw.symm; clear hw; subst hw2)
    go_ret
    exact ⟨rfl, V, A.out, Stp.refl _ _⟩
  | some i =>
    obtain ⟨x, hx, hxn⟩ := plc_some hp
    have hg := getC_plc hp hx
    have hil : i < l.length := (List.getElem?_eq_some_iff.1 hx).1
    have e3 : fnd l n = i := by rw [fnd, hp]
    rw [e3] at FD
    have hE : opnE l n nx = if 0 < x.op then 7 else if nx ≤ x.la then 1 else 0 := by rw [opnE, hg]
    have hL : opnL l n nx = if 0 < x.op ∨ nx ≤ x.la then l else l.set i ⟨n, x.la, nx⟩ := by rw [opnL, hp, hg]
    have ST := Lib.hid (rset_any a i ⟨n, x.la, nx⟩ hil (by omega))
    obtain ⟨g, c, hv, c0, ⟨d0, d1, d2⟩, -⟩ := a.hit hx
    have x4 : ¬ (i : Int) < 0 := by omega
    have z8 : (i : Int) < (l.length : Int) := by omega
    obtain ⟨b0, b1, b2⟩ := x
    simp only [Cu.cs] at *
    rw [hE, hL]
    clear a ok hp hg hE hL hx hxn hv e3
    by_cases h1 : 0 < b2
    · rw [if_pos h1, if_pos (.inl h1)]
      go_enter Try.func15, Try.ntmps15
      go_wp2_with (go_at_call 21; refine FD.out.mono ?_; rintro e w2 ⟨rfl, hw⟩; have hw2 := hw.symm; clear hw; subst hw2)
      go_ret
      exact ⟨rfl, V, A.out, Stp.refl _ _⟩
    · by_cases h2 : nx ≤ b1
      · rw [if_neg h1, if_pos h2, if_pos (.inr h2)]
        go_enter Try.func15, Try.ntmps15
        go_wp2_with (go_at_call 21; refine FD.out.mono ?_; rintro e w2 ⟨rfl, hw⟩; have hw2 := hw.symm; clear hw; subst hw2)
        go_ret
        exact ⟨rfl, V, A.out, Stp.refl _ _⟩
      · rw [if_neg h1, if_neg h2, if_neg (by omega)]
        go_enter Try.func15, Try.ntmps15
        go_wp2_with fail
        refine FD.out.mono ?_
        rintro e w2 ⟨rfl, hw⟩
        have hw2 := hw.symm
        clear hw
        subst hw2
        go_wp2_with fail
        refine ST.out.mono ?_
        rintro e w3 ⟨rfl, V', a', s'⟩
        have A' := Lib.hid a'; have S' := Lib.hid s'
        clear a' s'
        go_wp2
        go_ret
        exact ⟨rfl, V', A'.out, S'.out⟩

set_option maxHeartbeats 2000000 in
set_option maxRecDepth 100000 in
theorem rfin_any (a : Cc rcT rcE w B h V l) (ok : OkC l) (n : ByteArray) : Calls Try.prog 17 #[.pointer (some ⟨h, 0, none⟩), .string n] w (ChgPost w B h V rcT rcE (.tuple #[.int .i64 (finN l n), .int .i64 (finE l n)]) (finL l n)) := by
  have few := ok.few
  have FD := Lib.hid (rfind_any a n (by omega))
  have A := Lib.hid a
  cases hp : plc l n with
  | none =>
    have e0 : finN l n = 0 := by rw [finN, getC_none hp]
    have e1 : finE l n = 4 := by rw [finE, getC_none hp]
    have e2 : finL l n = l := by rw [finL, hp]
    have e3 : fnd l n = -1 := by rw [fnd, hp]
    rw [e0, e1, e2]
    rw [e3] at FD
    clear a ok hp e0 e1 e2 e3
    go_enter Try.func17, Try.ntmps17
    go_wp2_with (go_at_call 21; refine FD.out.mono ?_; rintro e w2 ⟨rfl, hw⟩; have hw2 := hw.symm; clear hw; subst hw2)
    go_ret2
    exact ⟨rfl, V, A.out, Stp.refl _ _⟩
  | some i =>
    obtain ⟨x, hx, hxn⟩ := plc_some hp
    have hg := getC_plc hp hx
    have hil : i < l.length := (List.getElem?_eq_some_iff.1 hx).1
    have e3 : fnd l n = i := by rw [fnd, hp]
    rw [e3] at FD
    have hN : finN l n = x.op := by rw [finN, hg]
    have hE : finE l n = if x.op = 0 then 7 else 0 := by rw [finE, hg]
    have hL : finL l n = if x.op = 0 then l else l.set i ⟨n, x.op, 0⟩ := by rw [finL, hp, hg]
    have ST := Lib.hid (rset_any a i ⟨n, x.op, 0⟩ hil (by omega))
    obtain ⟨g, c, hv, c0, ⟨d0, d1, d2⟩, -⟩ := a.hit hx
    have x4 : ¬ (i : Int) < 0 := by omega
    have z8 : (i : Int) < (l.length : Int) := by omega
    obtain ⟨b0, b1, b2⟩ := x
    simp only [Cu.cs] at *
    rw [hN, hE, hL]
    clear a ok hp hg hN hE hL hx hxn hv e3
    by_cases h1 : b2 = 0
    · rw [if_pos h1, if_pos h1]
      subst h1
      go_enter Try.func17, Try.ntmps17
      go_wp2_with (go_at_call 21; refine FD.out.mono ?_; rintro e w2 ⟨rfl, hw⟩; have hw2 := hw.symm; clear hw; subst hw2)
      go_ret2
      exact ⟨rfl, V, A.out, Stp.refl _ _⟩
    · rw [if_neg h1, if_neg h1]
      have b1' : (b2 == 0) = false := by rw [beq_eq_false_iff_ne]; exact h1
      go_enter Try.func17, Try.ntmps17
      go_wp2_with fail
      refine FD.out.mono ?_
      rintro e w2 ⟨rfl, hw⟩
      have hw2 := hw.symm
      clear hw
      subst hw2
      go_wp2_with fail
      refine ST.out.mono ?_
      rintro e w3 ⟨rfl, V', a', s'⟩
      have A' := Lib.hid a'; have S' := Lib.hid s'
      clear a' s'
      go_wp2
      go_ret2
      exact ⟨rfl, V', A'.out, S'.out⟩

/-- Both side by side, with the same list. -/
def Bo (w0 w : World) (p q : Nat) (l : List Cu) : Prop := OkC l ∧ ∃ V U, Cc cuT cuE w w0.heap.size p V l ∧ Cc rcT rcE w w0.heap.size q U l ∧ Kept w0 w []

variable {w0 : World} {p q : Nat}

theorem Bo.keep (b : Bo w0 w p q l) (k : Kept w w' []) : Bo w0 w' p q l := by
  obtain ⟨ok, V, U, a, r, k0⟩ := b
  exact ⟨ok, V, U, a.keep k, r.keep k, k0.trans k (by simp)⟩
theorem Bo.kept (b : Bo w0 w p q l) : Kept w0 w [] := by
  obtain ⟨ok, V, U, a, r, k0⟩ := b
  exact k0
theorem Bo.ok (b : Bo w0 w p q l) : OkC l := b.1

/-- A call on the code's, then one on the document's: both tell one thing, and leave one list. -/
theorem Bo.step (b : Bo w0 w p q l) {f g : Nat} {as1 : Value → Array Value} {r : Value} {m : List Cu} (okm : OkC m)
    {P : Program} {x1 x2 : Array Value}
    (hc : ∀ {V : Value}, Cc cuT cuE w w0.heap.size p V l → Calls P f x1 w (ChgPost w w0.heap.size p V cuT cuE r m))
    (hr : ∀ {w1 : World} {U : Value}, Cc rcT rcE w1 w0.heap.size q U l → Calls P g x2 w1 (ChgPost w1 w0.heap.size q U rcT rcE r m)) :
    Calls P f x1 w fun e w1 => e = .returned r ∧ Kept w0 w1 [] ∧ Calls P g x2 w1 fun e' w2 => e' = .returned r ∧ Bo w0 w2 p q m := by
  obtain ⟨ok, V, U, a, d, k0⟩ := b
  refine (hc a).mono ?_
  rintro e w1 ⟨rfl, V', a', s⟩
  have k1 : Kept w0 w1 [] := k0.foC s.1 (fun k hk => (a.lt k hk).1)
  have d1 : Cc rcT rcE w1 w0.heap.size q U l := d.fo s.1 (fun k hk hk2 => d.dis a (by decide) (by decide) (by decide) (by decide) k hk hk2)
  refine ⟨rfl, k1, (hr d1).mono ?_⟩
  rintro e' w2 ⟨rfl, U', d2, s2⟩
  have a2 : Cc cuT cuE w2 w0.heap.size p V' m := a'.fo s2.1 (fun k hk hk2 => a'.dis d1 (by decide) (by decide) (by decide) (by decide) k hk hk2)
  exact ⟨rfl, okm, V', U', a2, d2, k1.foC s2.1 (fun k hk => (d1.lt k hk).1)⟩

end Go.Proofs.Ytnoiomaoignndaa
