/-
  The document's consumers: Register, Unregister, Open, Finish.
-/
import Derived.Test.YtnoiomaoignndaaCup
namespace Go.Proofs.Ytnoiomaoignndaa
set_option linter.unusedVariables false
open Go.RowKit

variable {w w' : World} {B h : Nat} {V : Value} {l : List Cu}

set_option maxHeartbeats 2000000 in
set_option maxRecDepth 100000 in
theorem rreg_any (a : Cc rcT rcE w B h V l) (ok : OkC l) (n : ByteArray) (at' : Int) : Calls Try.prog 13 #[.pointer (some ⟨h, 0, none⟩), .string n, .int .i64 at'] w (ChgPost w B h V rcT rcE (.int .i64 (regE l n at')) (regL l n at')) := by
  have few := ok.few
  have FD := Lib.hid (rfind_any a n (by omega))
  have A := Lib.hid a
  by_cases h0 : n.size < 1 ∨ 40 < n.size ∨ at' < 1
  · have e1 : regE l n at' = 1 := by rw [regE, if_pos h0]
    have e2 : regL l n at' = l := by rw [regL, if_neg (by rw [e1]; decide)]
    rw [e1, e2]
    clear a ok e1 e2 few
    by_cases hE : n.size < 1
    · have x1 : (n.size : Int) < 1 := by omega
      clear h0 hE
      go_enter Try.func13, Try.ntmps13
      go_wp2
      go_ret
      exact ⟨rfl, V, A.out, Stp.refl _ _⟩
    · have x1 : ¬ (n.size : Int) < 1 := by omega
      by_cases hL : 40 < n.size
      · have x2 : (40 : Int) < (n.size : Int) := by omega
        clear h0 hE hL
        go_enter Try.func13, Try.ntmps13
        go_wp2
        go_ret
        exact ⟨rfl, V, A.out, Stp.refl _ _⟩
      · have x2 : ¬ (40 : Int) < (n.size : Int) := by omega
        have x3 : at' < 1 := by omega
        clear h0 hE hL
        go_enter Try.func13, Try.ntmps13
        go_wp2
        go_ret
        exact ⟨rfl, V, A.out, Stp.refl _ _⟩
  · have hr : regE l n at' = if (plc l n).isSome then 5 else if 4 ≤ l.length then 8 else 0 := by rw [regE, if_neg h0]
    have x1 : ¬ (n.size : Int) < 1 := by omega
    have x2 : ¬ (40 : Int) < (n.size : Int) := by omega
    have x3 : ¬ at' < 1 := by omega
    cases hp : plc l n with
    | some i =>
      have e1 : regE l n at' = 5 := by rw [hr, hp]; rfl
      have e2 : regL l n at' = l := by rw [regL, if_neg (by rw [e1]; decide)]
      have e3 : fnd l n = i := by rw [fnd, hp]
      rw [e1, e2]
      rw [e3] at FD
      have x4 : (0 : Int) ≤ (i : Int) := by omega
      clear a ok e1 e2 e3 hr h0 hp few
      go_enter Try.func13, Try.ntmps13
      go_wp2_with (go_at_call 21; refine FD.out.mono ?_; rintro e w2 ⟨rfl, hw⟩; have hw2 := hw.symm; clear hw; subst hw2)
      go_ret
      exact ⟨rfl, V, A.out, Stp.refl _ _⟩
    | none =>
      have hpn : ¬ ((none : Option Nat).isSome = true) := by decide
      by_cases hf : 4 ≤ l.length
      · have e1 : regE l n at' = 8 := by rw [hr, hp, if_neg hpn, if_pos hf]
        have e2 : regL l n at' = l := by rw [regL, if_neg (by rw [e1]; decide)]
        have e3 : fnd l n = -1 := by rw [fnd, hp]
        rw [e1, e2]
        rw [e3] at FD
        obtain ⟨u, c, e⟩ := a.shape
        have c0 := a.cell.1
        rw [e] at c0
        have x4 : (4 : Int) ≤ (l.length : Int) := by omega
        clear a ok e1 e2 e3 hr h0 hp few hpn hf e
        go_enter Try.func13, Try.ntmps13
        go_wp2_with (go_at_call 21; refine FD.out.mono ?_; rintro e w2 ⟨rfl, hw⟩; have hw2 := hw.symm; clear hw; subst hw2)
        go_ret
        exact ⟨rfl, V, A.out, Stp.refl _ _⟩
      · have e1 : regE l n at' = 0 := by rw [hr, hp, if_neg hpn, if_neg hf]
        have e2 : regL l n at' = insC ⟨n, at', 0⟩ l := by rw [regL, if_pos e1]
        rw [e1, e2]
        exact rreg_ins a ok n at' (by omega) (by omega) x3 hp hf

set_option maxHeartbeats 4000000 in
set_option maxRecDepth 100000 in
theorem runr_any (a : Cc rcT rcE w B h V l) (ok : OkC l) (n : ByteArray) : Calls Try.prog 19 #[.pointer (some ⟨h, 0, none⟩), .string n] w (ChgPost w B h V rcT rcE (.int .i64 (unrE l n)) (unrL l n)) := by
  obtain ⟨i0, hi0, hz0, hz1, hz2⟩ := info_parts Try.infoRc
  have few := ok.few
  have FD := Lib.hid (rfind_any a n (by omega))
  have A := Lib.hid a
  cases hp : plc l n with
  | none =>
    have e1 : unrE l n = 4 := by rw [unrE, hp]; rfl
    have e2 : unrL l n = l := by rw [unrL, hp]
    have e3 : fnd l n = -1 := by rw [fnd, hp]
    rw [e1, e2]
    rw [e3] at FD
    clear a ok hp e1 e2 e3
    go_enter Try.func19, Try.ntmps19
    go_wp2_with (go_at_call 21; refine FD.out.mono ?_; rintro e w2 ⟨rfl, hw⟩; have hw2 := hw.symm; clear hw; subst hw2)
    go_ret
    exact ⟨rfl, V, A.out, Stp.refl _ _⟩
  | some i =>
    have e1 : unrE l n = 0 := by rw [unrE, hp]; rfl
    have e2 : unrL l n = l.eraseIdx i := by rw [unrL, hp]
    have e3 : fnd l n = i := by rw [fnd, hp]
    rw [e1, e2]
    rw [e3] at FD
    obtain ⟨x, hx, hxn⟩ := plc_some hp
    have hil : i < l.length := (List.getElem?_eq_some_iff.1 hx).1
    obtain ⟨g, c, hv, c0, -, -⟩ := a.hit hx
    have EV := Lib.hid hv
    have C0 := Lib.hid c0
    obtain ⟨z, hz⟩ : ∃ z, z = w.heap.size := ⟨_, rfl⟩
    have HZ := Lib.hid hz
    have RD := Lib.hid (show RdK encCu w (.slice (some ⟨g, 0, none⟩) l.length c) l by have := a.own.rd; rw [hv] at this; exact this)
    have hlc := RD.out.cap.2
    have x4 : ¬ (i : Int) < 0 := by omega
    have z1 : (i : Int) + 1 ≤ (l.length : Int) := by omega
    have z2 : (i : Int) + 1 ≤ (c : Int) := by omega
    have z3 : (0 : Int) ≤ (i : Int) + 1 := by omega
    have z4 : ((i : Int) + 1).toNat = i + 1 := by omega
    have z5 : i + 1 ≤ l.length := hil
    have z6 : i ≤ c := by omega
    have z7 : (i : Int) ≤ (c : Int) := by omega
    have z8 : (i : Int) < (l.length : Int) := by omega
    clear a ok hp e1 e2 e3 hx hxn hv hz
    by_cases hc : c = i + 1
    · have hlp : l.length = i + 1 := by omega
      subst hc
      go_enter Try.func19, Try.ntmps19
      go_wp2_with fail
      refine FD.out.mono ?_
      rintro e w2 ⟨rfl, hw⟩
      have hw2 := hw.symm
      clear hw
      subst hw2
      have hQ1 : (l.take i).length = i := by rw [List.length_take]; omega
      have hQ3 : (l.drop (i + 1)).length = 0 := by have := List.length_drop (l := l) (i := i + 1); omega
      have SRC1 : Hid (Src Try.prog 3 27 (.slice (some ⟨g, 0, none⟩) i (i + 1)) i (kcs encCu (l.take i)) w) := Lib.hid (by
        have := RdK.src (P := Try.prog) (tx := 27) (show RdK encCu w (.slice (some ⟨g, 0, none⟩) i (i + 1)) (l.take i) from RD.out.take (q := i) (by omega)) Try.underlying27
        rw [hQ1] at this; exact this)
      have RD3 : Hid (RdK encCu w (.slice (some ⟨g, 0, none⟩) 0 0) (l.drop (i + 1))) := Lib.hid (by rw [List.drop_eq_nil_of_le (by omega)]; exact RdK.no w _ 0 (fun _ => rfl))
      have HQ1 := Lib.hid hQ1; have HQ3 := Lib.hid hQ3
      clear hQ1 hQ3
      go_wp2_with (at_builtin; refine wpList_append_all _ rfl (.tmp 12) (.tmp 18) 27 27 rfl z rcE i0 _ 3 32 Try.underlying27 hi0 hz0 hz1 hz2 rfl (.slice none 0 0) (0) ([]) rfl (World.ownsRow_nil _ _ _ _) (.slice (some ⟨g, 0, none⟩) i (i + 1)) (i) (kcs encCu (l.take i)) rfl SRC1.out (by unfold maxLen; omega) (by omega) (by rw [HZ.out]; exact Nat.le_refl _) ?nexta)
      case nexta =>
        intro v1 w1 hown _ hgrow _
        have o1 : OwnK encCu w1 z rcE v1 (l.take i) := by unfold OwnK; rw [HQ1.out]; show w1.ownsRow _ _ 3 _ _ _; simpa using hown
        have k1 : Kept w w1 [] := (Kept.refl w []).grown hgrow (fun k hk => by simp [Value.ownBlock] at hk)
        obtain ⟨u1, c1, e1⟩ := o1.shape
        rw [HQ1.out] at e1
        subst e1
        have OO : Hid (w1.ownsRow z rcE 3 (.slice u1 i c1) i (kcs encCu (l.take i))) := Lib.hid (by have := o1; unfold OwnK at this; rw [HQ1.out] at this; exact this)
        have SRC3 : Hid (Src Try.prog 3 27 (.slice (some ⟨g, 0, none⟩) 0 0) (0) (kcs encCu (l.drop (i + 1))) w1) := Lib.hid (by
          have := (RD3.out.keep k1).src (P := Try.prog) (tx := 27) Try.underlying27
          rw [HQ3.out] at this; exact this)
        have cc := k1.cell (by simp) C0.out
        have K1 := Lib.hid k1; have HZ3 := Lib.hid (show z ≤ w1.heap.size by have := k1.size; rw [HZ.out]; exact this)
        clear hown hgrow o1 k1
        go_wp2_with (at_builtin; refine wpList_append_all _ rfl (.tmp 21) (.tmp 28) 27 27 rfl z rcE i0 _ 3 32 Try.underlying27 hi0 hz0 hz1 hz2 rfl (.slice u1 i c1) (i) (kcs encCu (l.take i)) rfl OO.out (.slice (some ⟨g, 0, none⟩) 0 0) (0) (kcs encCu (l.drop (i + 1))) rfl SRC3.out (by unfold maxLen; omega) (by omega) (HZ3.out) ?nextc)
        case nextc =>
          intro v4 w4 hown _ hgrow _
          have el : l.take i ++ l.drop (i + 1) = l.eraseIdx i := (List.eraseIdx_eq_take_drop_succ l i).symm
          have o4 : OwnK encCu w4 z rcE v4 (l.eraseIdx i) := by
            rw [← el]
            unfold OwnK
            rw [kcs_append, List.length_append, HQ1.out, HQ3.out]
            exact hown
          have k4 : Kept w w4 [] := K1.out.grown hgrow (fun k hk => .inr (by have := (World.ownsRow.lt OO.out k hk).1; rw [HZ.out] at this; exact this))
          obtain ⟨L', hL'⟩ : ∃ L', L' = (l.eraseIdx i).length := ⟨_, rfl⟩
          obtain ⟨u4, c4, e4⟩ := o4.shape
          rw [← hL'] at e4
          subst e4
          obtain ⟨⟨d4, f4⟩, a5, s5⟩ := A.out.layK k4 (by rw [← HZ.out]; exact o4)
          rw [EV.out] at d4
          have A5 := Lib.hid a5; have S5 := Lib.hid s5
          clear hown hgrow o4 k4 hL' a5 s5 el cc
          go_wp2
          go_ret
          exact ⟨rfl, _, A5.out, S5.out⟩

    · go_enter Try.func19, Try.ntmps19
      go_wp2_with fail
      refine FD.out.mono ?_
      rintro e w2 ⟨rfl, hw⟩
      have hw2 := hw.symm
      clear hw
      subst hw2
      have hQ1 : (l.take i).length = i := by rw [List.length_take]; omega
      have hQ3 : (l.drop (i + 1)).length = l.length - (i + 1) := by have := List.length_drop (l := l) (i := i + 1); omega
      have SRC1 : Hid (Src Try.prog 3 27 (.slice (some ⟨g, 0, none⟩) i c) i (kcs encCu (l.take i)) w) := Lib.hid (by
        have := RdK.src (P := Try.prog) (tx := 27) (show RdK encCu w (.slice (some ⟨g, 0, none⟩) i c) (l.take i) from RD.out.take (q := i) (by omega)) Try.underlying27
        rw [hQ1] at this; exact this)
      have RD3 : Hid (RdK encCu w (.slice (some ⟨g, (i + 1) * 3, none⟩) (l.length - (i + 1)) (c - (i + 1))) (l.drop (i + 1))) := Lib.hid (by have := RD.out.drop (q := i + 1) (by omega); rw [Nat.zero_add] at this; exact this)
      have HQ1 := Lib.hid hQ1; have HQ3 := Lib.hid hQ3
      clear hQ1 hQ3
      go_wp2_with (at_builtin; refine wpList_append_all _ rfl (.tmp 12) (.tmp 18) 27 27 rfl z rcE i0 _ 3 32 Try.underlying27 hi0 hz0 hz1 hz2 rfl (.slice none 0 0) (0) ([]) rfl (World.ownsRow_nil _ _ _ _) (.slice (some ⟨g, 0, none⟩) i c) (i) (kcs encCu (l.take i)) rfl SRC1.out (by unfold maxLen; omega) (by omega) (by rw [HZ.out]; exact Nat.le_refl _) ?nexta)
      case nexta =>
        intro v1 w1 hown _ hgrow _
        have o1 : OwnK encCu w1 z rcE v1 (l.take i) := by unfold OwnK; rw [HQ1.out]; show w1.ownsRow _ _ 3 _ _ _; simpa using hown
        have k1 : Kept w w1 [] := (Kept.refl w []).grown hgrow (fun k hk => by simp [Value.ownBlock] at hk)
        obtain ⟨u1, c1, e1⟩ := o1.shape
        rw [HQ1.out] at e1
        subst e1
        have OO : Hid (w1.ownsRow z rcE 3 (.slice u1 i c1) i (kcs encCu (l.take i))) := Lib.hid (by have := o1; unfold OwnK at this; rw [HQ1.out] at this; exact this)
        have SRC3 : Hid (Src Try.prog 3 27 (.slice (some ⟨g, (i + 1) * 3, none⟩) (l.length - (i + 1)) (c - (i + 1))) (l.length - (i + 1)) (kcs encCu (l.drop (i + 1))) w1) := Lib.hid (by
          have := (RD3.out.keep k1).src (P := Try.prog) (tx := 27) Try.underlying27
          rw [HQ3.out] at this; exact this)
        have cc := k1.cell (by simp) C0.out
        have K1 := Lib.hid k1; have HZ3 := Lib.hid (show z ≤ w1.heap.size by have := k1.size; rw [HZ.out]; exact this)
        clear hown hgrow o1 k1
        go_wp2_with (at_builtin; refine wpList_append_all _ rfl (.tmp 21) (.tmp 28) 27 27 rfl z rcE i0 _ 3 32 Try.underlying27 hi0 hz0 hz1 hz2 rfl (.slice u1 i c1) (i) (kcs encCu (l.take i)) rfl OO.out (.slice (some ⟨g, (i + 1) * 3, none⟩) (l.length - (i + 1)) (c - (i + 1))) (l.length - (i + 1)) (kcs encCu (l.drop (i + 1))) rfl SRC3.out (by unfold maxLen; omega) (by omega) (HZ3.out) ?nextc)
        case nextc =>
          intro v4 w4 hown _ hgrow _
          have el : l.take i ++ l.drop (i + 1) = l.eraseIdx i := (List.eraseIdx_eq_take_drop_succ l i).symm
          have o4 : OwnK encCu w4 z rcE v4 (l.eraseIdx i) := by
            rw [← el]
            unfold OwnK
            rw [kcs_append, List.length_append, HQ1.out, HQ3.out]
            exact hown
          have k4 : Kept w w4 [] := K1.out.grown hgrow (fun k hk => .inr (by have := (World.ownsRow.lt OO.out k hk).1; rw [HZ.out] at this; exact this))
          obtain ⟨L', hL'⟩ : ∃ L', L' = (l.eraseIdx i).length := ⟨_, rfl⟩
          obtain ⟨u4, c4, e4⟩ := o4.shape
          rw [← hL'] at e4
          subst e4
          obtain ⟨⟨d4, f4⟩, a5, s5⟩ := A.out.layK k4 (by rw [← HZ.out]; exact o4)
          rw [EV.out] at d4
          have A5 := Lib.hid a5; have S5 := Lib.hid s5
          clear hown hgrow o4 k4 hL' a5 s5 el cc
          go_wp2
          go_ret
          exact ⟨rfl, _, A5.out, S5.out⟩


end Go.Proofs.Ytnoiomaoignndaa
