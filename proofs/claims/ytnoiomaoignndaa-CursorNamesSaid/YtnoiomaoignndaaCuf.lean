/-
  The code's consumers: Finish, Least.
-/
import Derived.Test.YtnoiomaoignndaaCue
namespace Go.Proofs.Ytnoiomaoignndaa
set_option linter.unusedVariables false
open Go.RowKit

variable {w w' : World} {B h : Nat} {V : Value} {l : List Cu}

set_option maxHeartbeats 2000000 in
set_option maxRecDepth 100000 in
theorem cfin_any (a : Cc cuT cuE w B h V l) (ok : OkC l) (n : ByteArray) : Calls Try.prog 16 #[.pointer (some ⟨h, 0, none⟩), .string n] w (ChgPost w B h V cuT cuE (.tuple #[.int .i64 (finN l n), .int .i64 (finE l n)]) (finL l n)) := by
  have FD := Lib.hid (cfind_any a ok n)
  have A := Lib.hid a; have OK := Lib.hid ok
  cases hp : plc l n with
  | none =>
    have e0 : finN l n = 0 := by rw [finN, getC_none hp]
    have e1 : finE l n = 4 := by rw [finE, getC_none hp]
    have e2 : finL l n = l := by rw [finL, hp]
    rw [e0, e1, e2]
    rw [hp] at FD
    simp only [Option.isSome_none] at FD
    clear a ok hp e0 e1 e2
    go_enter Try.func16, Try.ntmps16
    go_wp2_with (go_at_call 25; refine FD.out.mono ?_; rintro e w2 ⟨rfl, k2⟩)
    go_ret2
    exact ⟨rfl, V, A.out.keep k2, Stp.ofK k2⟩
  | some i =>
    obtain ⟨x, hx, hxn⟩ := plc_some hp
    have hg := getC_plc hp hx
    have few := ok.few
    have hil : i < l.length := (List.getElem?_eq_some_iff.1 hx).1
    have x2 : (i : Int) < (l.length : Int) := by omega
    rw [hp, plc_ahd ok.nms hp] at FD
    simp only [Option.isSome_some] at FD
    have HX := Lib.hid hx; have HXN := Lib.hid hxn
    have hN : finN l n = x.op := by rw [finN, hg]
    have hE : finE l n = if x.op = 0 then 7 else 0 := by rw [finE, hg]
    have hL : finL l n = if x.op = 0 then l else l.set i ⟨n, x.op, 0⟩ := by rw [finL, hp, hg]
    rw [hN, hE, hL]
    clear hp hg hN hE hL hx hxn a ok
    by_cases h1 : x.op = 0
    · rw [if_pos h1, if_pos h1]
      have H1 := Lib.hid h1
      rw [h1]
      clear h1
      go_enter Try.func16, Try.ntmps16
      go_wp2_with (go_at_call 25; refine FD.out.mono ?_; rintro e w2 ⟨rfl, k2⟩; obtain ⟨g, c, hv, c0, ⟨d0, d1, d2⟩, -⟩ := (A.out.keep k2).hit HX.out; rw [H1.out] at d2; clear hv)
      go_ret2
      exact ⟨rfl, V, A.out.keep k2, Stp.ofK k2⟩
    · rw [if_neg h1, if_neg h1]
      have b1 : (x.op == 0) = false := by rw [beq_eq_false_iff_ne]; exact h1
      obtain ⟨y, hy⟩ : ∃ y, y = x.op := ⟨_, rfl⟩
      have HY := Lib.hid hy
      rw [← hy] at b1 ⊢
      clear h1 hy
      go_enter Try.func16, Try.ntmps16
      go_wp2_with fail
      refine FD.out.mono ?_
      rintro e w2 ⟨rfl, k2⟩
      have a2 := A.out.keep k2
      obtain ⟨g, c, hv, c0, ⟨d0, d1, d2⟩, ⟨f0, f1, f2⟩⟩ := a2.hit HX.out
      have o2 := a2.own
      rw [hv] at o2
      have o3 := o2.put i hil ⟨n, y, 0⟩
      rw [← hv] at o3
      obtain ⟨a3, s3⟩ := a2.turn (putAll_fo (g := g) (encCu.cs ⟨n, y, 0⟩).toList w2 (i * encCu.k) (Fo.refl _ w2) (.inl (by rw [hv]; rfl))) o3
      have A3 := Lib.hid a3; have S3 := Lib.hid (s3.afterK k2)
      rw [← HY.out] at d2
      clear a2 o2 o3 a3 s3 hv k2
      go_wp2
      go_ret2
      exact ⟨rfl, V, A3.out, S3.out⟩

theorem leaN_one (x : Cu) (t : List Cu) : leaN ((x :: t).take 1) = x.la := rfl

set_option maxHeartbeats 2000000 in
set_option maxRecDepth 100000 in
theorem clea_any (a : Cc cuT cuE w B h V l) (hl : l.length ≤ 1000) : Calls Try.prog 24 #[.pointer (some ⟨h, 0, none⟩)] w fun e w' => e = .returned (.tuple #[.int .i64 (leaN l), .bool (decide (0 < l.length))]) ∧ Kept w w' [] := by
  have A := Lib.hid a
  cases l with
  | nil =>
    obtain ⟨u, c, e⟩ := a.shape
    have c0 := a.cell.1
    rw [e] at c0
    clear a e
    simp only [List.length_nil] at *
    go_enter Try.func24, Try.ntmps24
    go_wp2
    go_ret2
    exact ⟨rfl, Kept.refl w []⟩
  | cons x0 t =>
    obtain ⟨l, hl0⟩ : ∃ l, l = x0 :: t := ⟨_, rfl⟩
    rw [← hl0] at A hl ⊢
    have hx0 : l[0]? = some x0 := by rw [hl0]; rfl
    have hpos : 0 < l.length := by rw [hl0]; simp
    have hlea : leaN (l.take 1) = x0.la := by rw [hl0]; rfl
    obtain ⟨g, c, hv, c0, ⟨d0, d1, d2⟩, -⟩ := A.out.hit hx0
    rw [Nat.zero_mul] at d0
    rw [Nat.zero_mul, Nat.zero_add] at d1 d2
    have HV := Lib.hid hv; have HL0 := Lib.hid hlea; have HX0 := Lib.hid hx0
    have hdec : decide (0 < l.length) = true := by simpa using hpos
    rw [hdec]
    have hne : ((l.length : Int) == 0) = false := by rw [beq_eq_false_iff_ne]; omega
    have hpi : (0 : Int) < (l.length : Int) := by omega
    have HP := Lib.hid hpos
    obtain ⟨m0, hm0⟩ : ∃ m0, m0 = x0.la := ⟨_, rfl⟩
    have HM0 := Lib.hid hm0
    rw [← hm0] at d1
    clear a hl0 hx0 hlea hv hdec hm0 hpos
    go_enter Try.func24, Try.ntmps24
    go_wp2
    go_loopw [4, 6, 29] (fun s4 _ s29 wr => ∃ (k : Nat) (m : Int), s29 = .int .i64 k ∧ s4 = .int .i64 m ∧ k ≤ l.length ∧ (k = 0 → m = m0) ∧ (0 < k → m = leaN (l.take k)) ∧ Kept w wr []) (fun _ _ s29 _ => l.length - (intOf s29).toNat)
    case atStart => exact ⟨0, m0, rfl, rfl, Nat.zero_le _, fun _ => rfl, fun h => absurd h (Nat.lt_irrefl _), Kept.refl w []⟩
    case round =>
      obtain ⟨k, m, rfl, rfl, hk, hm1, hm2, hkw⟩ := hrel
      have M1 := Lib.hid hm1; have M2 := Lib.hid hm2; have K := Lib.hid hkw
      clear hm1 hm2 hkw
      by_cases hlt : k < l.length
      · obtain ⟨x, hx⟩ : ∃ x, l[k]? = some x := ⟨_, List.getElem?_eq_getElem hlt⟩
        obtain ⟨g', c', hv', c0', ⟨q0, q1, q2⟩, -⟩ := (A.out.keep K.out).hit hx
        rw [HV.out] at hv'
        simp only [Value.slice.injEq, Option.some.injEq, Addr.mk.injEq] at hv'
        obtain ⟨⟨rfl, _⟩, _, rfl⟩ := hv'
        have x1 : (k : Int) < (l.length : Int) := by omega
        have ST := Lib.hid (leaN_step hx)
        have HX := Lib.hid hx
        obtain ⟨b0, b1, b2⟩ := x
        simp only at q0 q1 q2
        clear hx
        go_wp2
        go_roundw
        case rel =>
          refine ⟨k + 1, min m b1, by go_num, rfl, by omega, fun h => by omega, fun _ => ?_, K.out.alloc _⟩
          rw [ST.out]
          by_cases h0 : k = 0
          · rw [if_pos (.inl h0)]
            have e1 := M1.out h0
            have e2 := HX.out
            rw [h0, HX0.out] at e2
            have e3 := HM0.out
            simp only [Option.some.injEq] at e2
            rw [e2] at e3
            show min m b1 = b1
            rw [e1, e3]
            exact Int.min_self _
          · rw [M2.out (by omega)]
            show min (leaN (l.take k)) b1 = _
            split
            · rename_i h1
              have h2 : b1 < leaN (l.take k) := by rcases h1 with h1 | h1; exact absurd h1 h0; exact h1
              show _ = b1
              omega
            · rename_i h1
              have h2 : ¬ b1 < leaN (l.take k) := fun h2 => h1 (.inr h2)
              omega
        case measure => simp [intOf]; omega
      · have x1 : ¬ (k : Int) < (l.length : Int) := by omega
        have e1 : m = leaN l := by
          have := M2.out (by have := HP.out; omega)
          rw [List.take_of_length_le (by omega)] at this
          exact this
        have E1 := Lib.hid e1
        clear e1
        go_wp2
        go_ret2
        rw [← E1.out]
        exact ⟨rfl, K.out⟩

end Go.Proofs.Ytnoiomaoignndaa
