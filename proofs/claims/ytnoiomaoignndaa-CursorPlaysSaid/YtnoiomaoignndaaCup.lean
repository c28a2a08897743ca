/-
  The document's consumers: Register, Unregister.
-/
import Derived.Test.YtnoiomaoignndaaCuo
namespace Go.Proofs.Ytnoiomaoignndaa
set_option linter.unusedVariables false
open Go.RowKit

variable {w w' : World} {B h : Nat} {V : Value} {l : List Cu}

theorem Cc.layK {T e : TypeId} (a : Cc T e w B h V l) {w1 : World} (k : Kept w w1 []) {v : Value} {m : List Cu} (o : OwnK encCu w1 w.heap.size e v m) :
    (w1.cell? ⟨h, 0, none⟩ = some V ∧ w1.frozen? ⟨h, 0, none⟩ = false) ∧ Cc T e (w1.setCell ⟨h, 0, none⟩ v) B h v m ∧ Stp (cfoot h V) (cfoot h v) w (w1.setCell ⟨h, 0, none⟩ v) :=
  a.lay (Fo.ofKept k _) (o.mono a.size) (fun k hk => .inr (o.lt k hk).1)

set_option maxHeartbeats 4000000 in
set_option maxRecDepth 100000 in
theorem rreg_ins (a : Cc rcT rcE w B h V l) (ok : OkC l) (n : ByteArray) (at' : Int) (h1 : ¬ n.size < 1) (h2 : ¬ 40 < n.size) (h3 : ¬ at' < 1) (hp : plc l n = none) (h4 : ¬ 4 ≤ l.length) :
    Calls Try.prog 13 #[.pointer (some ⟨h, 0, none⟩), .string n, .int .i64 at'] w (ChgPost w B h V rcT rcE (.int .i64 0) (insC ⟨n, at', 0⟩ l)) := by
  obtain ⟨i0, hi0, hz0, hz1, hz2⟩ := info_parts Try.infoRc
  obtain ⟨z, hz⟩ : ∃ z, z = w.heap.size := ⟨_, rfl⟩
  have FD := Lib.hid (rfind_any a n (by omega))
  have hfd : fnd l n = -1 := by rw [fnd, hp]
  rw [hfd] at FD
  obtain ⟨u, c, e⟩ := a.shape
  have c0 := a.cell.1
  rw [e] at c0
  have A := Lib.hid a; have OK := Lib.hid ok; have EV := Lib.hid e; have HZ := Lib.hid hz; have HP := Lib.hid hp
  have x1 : ¬ (n.size : Int) < 1 := by omega
  have x2 : ¬ (40 : Int) < (n.size : Int) := by omega
  have x4 : ¬ (4 : Int) ≤ (l.length : Int) := by omega
  clear a ok e hz hp hfd h1 h2
  go_enter Try.func13, Try.ntmps13
  go_wp2_with (go_at_call 21; refine FD.out.mono ?_; rintro e w2 ⟨rfl, hw⟩; have hw2 := hw.symm; clear hw; subst hw2)
  go_loop [7] (fun t => ∃ q : Nat, t = .int .i64 q ∧ q ≤ l.length ∧ Hid (∀ j y, q ≤ j → l[j]? = some y → ltN n y.nm = true)) (fun t => (intOf t).toNat)
  case atStart => exact ⟨l.length, rfl, Nat.le_refl _, Lib.hid (fun j y hj hy => by have := (List.getElem?_eq_some_iff.1 hy).1; omega)⟩
  case round =>
    obtain ⟨q, rfl, hq, HX⟩ := hrel
    rcases Nat.eq_zero_or_pos q with rfl | hqp
    · have INS := Lib.hid (insC_at (x := ⟨n, at', 0⟩) OK.out.nms hq HX.out (fun y h0 => absurd h0 (Nat.lt_irrefl _)))
      have y1 : ¬ (0 : Int) < ((0 : Nat) : Int) := by omega
      rcases id A.out.own.2 with ⟨hv, h0⟩ | ⟨g, cap, cur, hv, hgs⟩
      · rw [EV.out] at hv
        simp only [Value.slice.injEq] at hv
        obtain ⟨rfl, hl0, rfl⟩ := hv
        have C0 := Lib.hid c0
        have hQ1 : (l.take (0)).length = 0 := by rw [List.length_take]; omega
        have hQ3 : (l.drop (0)).length = 0 := by have := List.length_drop (l := l) (i := 0); omega
        have SRC1 : Hid (Src Try.prog 3 27 (.slice none 0 0) (0) (kcs encCu (l.take (0))) w) := Lib.hid (by
          have := RdK.src (P := Try.prog) (tx := 27) (show RdK encCu w (.slice none 0 0) (l.take (0)) from RdK.nil w) Try.underlying27
          rw [hQ1] at this; exact this)
        have RD3 : Hid (RdK encCu w (.slice none 0 0) (l.drop (0))) := Lib.hid (by have e0 : l = [] := List.eq_nil_of_length_eq_zero hl0; rw [e0]; exact RdK.nil w)
        have HQ1 := Lib.hid hQ1; have HQ3 := Lib.hid hQ3
        clear hQ1 hQ3
        go_wp2_with (at_builtin; refine wpList_append_all _ rfl (.tmp 53) (.tmp 59) 27 27 rfl z rcE i0 _ 3 32 Try.underlying27 hi0 hz0 hz1 hz2 rfl (.slice none 0 0) (0) ([]) rfl (World.ownsRow_nil _ _ _ _) (.slice none 0 0) (0) (kcs encCu (l.take (0))) rfl SRC1.out (by unfold maxLen; omega) (by omega) (by rw [HZ.out]; exact Nat.le_refl _) ?nexta)
        case nexta =>
          intro v1 w1 hown _ hgrow _
          have o1 : OwnK encCu w1 z rcE v1 (l.take (0)) := by unfold OwnK; rw [HQ1.out]; show w1.ownsRow _ _ 3 _ _ _; simpa using hown
          have k1 : Kept w w1 [] := (Kept.refl w []).grown hgrow (fun k hk => by simp [Value.ownBlock] at hk)
          obtain ⟨u1, c1, e1⟩ := o1.shape
          rw [HQ1.out] at e1
          subst e1
          have k2 : Kept w1 (w1.alloc (.cells #[.string n, .int .i64 at', .int .i64 0] rcE)) [] := (Kept.refl w1 []).alloc _
          have g2 : (w1.alloc (.cells #[.string n, .int .i64 at', .int .i64 0] rcE)).heap[w1.heap.size]? = some (.cells (encCu.cs ⟨n, at', 0⟩) rcE (0, 0)) := heap_alloc_new w1 _
          have K2 := Lib.hid (k1.trans k2 (by simp))
          have SRC2 : Hid (Src Try.prog 3 27 (.slice (some ⟨w1.heap.size, 0, none⟩) 1 1) 1 (encCu.cs ⟨n, at', 0⟩).toList (w1.alloc (.cells #[.string n, .int .i64 at', .int .i64 0] rcE))) := Lib.hid (by
            have := (rdK_one (E := encCu) (x := ⟨n, at', 0⟩) g2).src (P := Try.prog) (tx := 27) Try.underlying27
            rw [kcs_single] at this
            exact this)
          have HZ2 := Lib.hid (show z ≤ (w1.alloc (.cells #[.string n, .int .i64 at', .int .i64 0] rcE)).heap.size by have := (k1.trans k2 (by simp)).size; rw [HZ.out]; exact this)
          have OO : Hid ((w1.alloc (.cells #[.string n, .int .i64 at', .int .i64 0] rcE)).ownsRow z rcE 3 (.slice u1 (0) c1) (0) (kcs encCu (l.take (0)))) := Lib.hid (by have := o1.keep k2; unfold OwnK at this; rw [HQ1.out] at this; exact this)
          clear hown hgrow o1 k1 k2 g2
          go_wp2_with (at_builtin; refine wpList_append_all _ rfl (.tmp 61) (.tmp 65) 27 27 rfl z rcE i0 _ 3 32 Try.underlying27 hi0 hz0 hz1 hz2 rfl (.slice u1 (0) c1) (0) (kcs encCu (l.take (0))) rfl OO.out (.slice (some ⟨w1.heap.size, 0, none⟩) 1 1) (1) ((encCu.cs ⟨n, at', 0⟩).toList) rfl SRC2.out (by unfold maxLen; omega) (by omega) (HZ2.out) ?nextb)
          case nextb =>
            intro v3 w3 hown _ hgrow _
            have o3 : OwnK encCu w3 z rcE v3 (l.take (0) ++ [⟨n, at', 0⟩]) := ownK_snoc (by rw [HQ1.out]; exact hown)
            have k3 : Kept w w3 [] := K2.out.grown hgrow (fun k hk => .inr (by have := (World.ownsRow.lt OO.out k hk).1; rw [HZ.out] at this; exact this))
            have hl3 : (l.take (0) ++ [(⟨n, at', 0⟩ : Cu)]).length = 0 + 1 := by rw [List.length_append, HQ1.out]; rfl
            obtain ⟨u3, c3, e3⟩ := o3.shape
            rw [hl3] at e3
            subst e3
            have OO3 : Hid (w3.ownsRow z rcE 3 (.slice u3 (0 + 1) c3) (0 + 1) (kcs encCu (l.take (0) ++ [⟨n, at', 0⟩]))) := Lib.hid (by have := o3; unfold OwnK at this; rw [hl3] at this; exact this)
            have SRC3 : Hid (Src Try.prog 3 27 (.slice none 0 0) (0) (kcs encCu (l.drop (0))) w3) := Lib.hid (by
              have := (RD3.out.keep k3).src (P := Try.prog) (tx := 27) Try.underlying27
              rw [HQ3.out] at this; exact this)
            have cc := k3.cell (by simp) C0.out
            have K3 := Lib.hid k3; have HL3 := Lib.hid hl3; have HZ3 := Lib.hid (show z ≤ w3.heap.size by have := k3.size; rw [HZ.out]; exact this)
            clear hown hgrow o3 k3 hl3
            go_wp2_with (at_builtin; refine wpList_append_all _ rfl (.tmp 68) (.tmp 74) 27 27 rfl z rcE i0 _ 3 32 Try.underlying27 hi0 hz0 hz1 hz2 rfl (.slice u3 (1) c3) (1) (kcs encCu (l.take (0) ++ [⟨n, at', 0⟩])) rfl OO3.out (.slice none 0 0) (0) (kcs encCu (l.drop (0))) rfl SRC3.out (by unfold maxLen; omega) (by omega) (HZ3.out) ?nextc)
            case nextc =>
              intro v4 w4 hown _ hgrow _
              have el : l.take (0) ++ (⟨n, at', 0⟩ : Cu) :: l.drop (0) = insC ⟨n, at', 0⟩ l := INS.out
              have o4 : OwnK encCu w4 z rcE v4 (insC ⟨n, at', 0⟩ l) := by
                rw [← el]
                unfold OwnK
                have e5 : l.take (0) ++ (⟨n, at', 0⟩ : Cu) :: l.drop (0) = (l.take (0) ++ [⟨n, at', 0⟩]) ++ l.drop (0) := by simp
                rw [e5, kcs_append, List.length_append, HL3.out, HQ3.out]
                exact hown
              have k4 : Kept w w4 [] := K3.out.grown hgrow (fun k hk => .inr (by have := (World.ownsRow.lt OO3.out k hk).1; rw [HZ.out] at this; exact this))
              obtain ⟨L', hL'⟩ : ∃ L', L' = (insC (⟨n, at', 0⟩ : Cu) l).length := ⟨_, rfl⟩
              obtain ⟨u4, c4, e4⟩ := o4.shape
              rw [← hL'] at e4
              subst e4
              obtain ⟨⟨d4, f4⟩, a5, s5⟩ := A.out.layK k4 (by rw [← HZ.out]; exact o4)
              rw [EV.out] at d4
              have A5 := Lib.hid a5; have S5 := Lib.hid s5
              clear hown hgrow o4 k4 hL' a5 s5 el cc
              go_wp2
              go_ret
              exact ⟨rfl, _, A5.out, S5.out⟩

      · rw [EV.out] at hv
        simp only [Value.slice.injEq] at hv
        obtain ⟨rfl, -, rfl⟩ := hv
        have RD := Lib.hid (show RdK encCu w (.slice (some ⟨g, 0, none⟩) l.length c) l by have := A.out.own.rd; rw [EV.out] at this; exact this)
        clear hgs
        have C0 := Lib.hid c0
        have hQ1 : (l.take (0)).length = 0 := by rw [List.length_take]; omega
        have hQ3 : (l.drop (0)).length = l.length := by have := List.length_drop (l := l) (i := 0); omega
        have SRC1 : Hid (Src Try.prog 3 27 (.slice (some ⟨g, 0, none⟩) 0 c) (0) (kcs encCu (l.take (0))) w) := Lib.hid (by
          have := RdK.src (P := Try.prog) (tx := 27) (show RdK encCu w (.slice (some ⟨g, 0, none⟩) 0 c) (l.take (0)) from RD.out.take (q := 0) (by omega)) Try.underlying27
          rw [hQ1] at this; exact this)
        have RD3 : Hid (RdK encCu w (.slice (some ⟨g, 0, none⟩) l.length c) (l.drop (0))) := Lib.hid (RD.out)
        have HQ1 := Lib.hid hQ1; have HQ3 := Lib.hid hQ3
        clear hQ1 hQ3
        go_wp2_with (at_builtin; refine wpList_append_all _ rfl (.tmp 53) (.tmp 59) 27 27 rfl z rcE i0 _ 3 32 Try.underlying27 hi0 hz0 hz1 hz2 rfl (.slice none 0 0) (0) ([]) rfl (World.ownsRow_nil _ _ _ _) (.slice (some ⟨g, 0, none⟩) 0 c) (0) (kcs encCu (l.take (0))) rfl SRC1.out (by unfold maxLen; omega) (by omega) (by rw [HZ.out]; exact Nat.le_refl _) ?nexta)
        case nexta =>
          intro v1 w1 hown _ hgrow _
          have o1 : OwnK encCu w1 z rcE v1 (l.take (0)) := by unfold OwnK; rw [HQ1.out]; show w1.ownsRow _ _ 3 _ _ _; simpa using hown
          have k1 : Kept w w1 [] := (Kept.refl w []).grown hgrow (fun k hk => by simp [Value.ownBlock] at hk)
          obtain ⟨u1, c1, e1⟩ := o1.shape
          rw [HQ1.out] at e1
          subst e1
          have k2 : Kept w1 (w1.alloc (.cells #[.string n, .int .i64 at', .int .i64 0] rcE)) [] := (Kept.refl w1 []).alloc _
          have g2 : (w1.alloc (.cells #[.string n, .int .i64 at', .int .i64 0] rcE)).heap[w1.heap.size]? = some (.cells (encCu.cs ⟨n, at', 0⟩) rcE (0, 0)) := heap_alloc_new w1 _
          have K2 := Lib.hid (k1.trans k2 (by simp))
          have SRC2 : Hid (Src Try.prog 3 27 (.slice (some ⟨w1.heap.size, 0, none⟩) 1 1) 1 (encCu.cs ⟨n, at', 0⟩).toList (w1.alloc (.cells #[.string n, .int .i64 at', .int .i64 0] rcE))) := Lib.hid (by
            have := (rdK_one (E := encCu) (x := ⟨n, at', 0⟩) g2).src (P := Try.prog) (tx := 27) Try.underlying27
            rw [kcs_single] at this
            exact this)
          have HZ2 := Lib.hid (show z ≤ (w1.alloc (.cells #[.string n, .int .i64 at', .int .i64 0] rcE)).heap.size by have := (k1.trans k2 (by simp)).size; rw [HZ.out]; exact this)
          have OO : Hid ((w1.alloc (.cells #[.string n, .int .i64 at', .int .i64 0] rcE)).ownsRow z rcE 3 (.slice u1 (0) c1) (0) (kcs encCu (l.take (0)))) := Lib.hid (by have := o1.keep k2; unfold OwnK at this; rw [HQ1.out] at this; exact this)
          clear hown hgrow o1 k1 k2 g2
          go_wp2_with (at_builtin; refine wpList_append_all _ rfl (.tmp 61) (.tmp 65) 27 27 rfl z rcE i0 _ 3 32 Try.underlying27 hi0 hz0 hz1 hz2 rfl (.slice u1 (0) c1) (0) (kcs encCu (l.take (0))) rfl OO.out (.slice (some ⟨w1.heap.size, 0, none⟩) 1 1) (1) ((encCu.cs ⟨n, at', 0⟩).toList) rfl SRC2.out (by unfold maxLen; omega) (by omega) (HZ2.out) ?nextb)
          case nextb =>
            intro v3 w3 hown _ hgrow _
            have o3 : OwnK encCu w3 z rcE v3 (l.take (0) ++ [⟨n, at', 0⟩]) := ownK_snoc (by rw [HQ1.out]; exact hown)
            have k3 : Kept w w3 [] := K2.out.grown hgrow (fun k hk => .inr (by have := (World.ownsRow.lt OO.out k hk).1; rw [HZ.out] at this; exact this))
            have hl3 : (l.take (0) ++ [(⟨n, at', 0⟩ : Cu)]).length = 0 + 1 := by rw [List.length_append, HQ1.out]; rfl
            obtain ⟨u3, c3, e3⟩ := o3.shape
            rw [hl3] at e3
            subst e3
            have OO3 : Hid (w3.ownsRow z rcE 3 (.slice u3 (0 + 1) c3) (0 + 1) (kcs encCu (l.take (0) ++ [⟨n, at', 0⟩]))) := Lib.hid (by have := o3; unfold OwnK at this; rw [hl3] at this; exact this)
            have SRC3 : Hid (Src Try.prog 3 27 (.slice (some ⟨g, 0, none⟩) l.length c) (l.length) (kcs encCu (l.drop (0))) w3) := Lib.hid (by
              have := (RD3.out.keep k3).src (P := Try.prog) (tx := 27) Try.underlying27
              rw [HQ3.out] at this; exact this)
            have cc := k3.cell (by simp) C0.out
            have K3 := Lib.hid k3; have HL3 := Lib.hid hl3; have HZ3 := Lib.hid (show z ≤ w3.heap.size by have := k3.size; rw [HZ.out]; exact this)
            clear hown hgrow o3 k3 hl3
            go_wp2_with (at_builtin; refine wpList_append_all _ rfl (.tmp 68) (.tmp 74) 27 27 rfl z rcE i0 _ 3 32 Try.underlying27 hi0 hz0 hz1 hz2 rfl (.slice u3 (1) c3) (1) (kcs encCu (l.take (0) ++ [⟨n, at', 0⟩])) rfl OO3.out (.slice (some ⟨g, 0, none⟩) l.length c) (l.length) (kcs encCu (l.drop (0))) rfl SRC3.out (by unfold maxLen; omega) (by omega) (HZ3.out) ?nextc)
            case nextc =>
              intro v4 w4 hown _ hgrow _
              have el : l.take (0) ++ (⟨n, at', 0⟩ : Cu) :: l.drop (0) = insC ⟨n, at', 0⟩ l := INS.out
              have o4 : OwnK encCu w4 z rcE v4 (insC ⟨n, at', 0⟩ l) := by
                rw [← el]
                unfold OwnK
                have e5 : l.take (0) ++ (⟨n, at', 0⟩ : Cu) :: l.drop (0) = (l.take (0) ++ [⟨n, at', 0⟩]) ++ l.drop (0) := by simp
                rw [e5, kcs_append, List.length_append, HL3.out, HQ3.out]
                exact hown
              have k4 : Kept w w4 [] := K3.out.grown hgrow (fun k hk => .inr (by have := (World.ownsRow.lt OO3.out k hk).1; rw [HZ.out] at this; exact this))
              obtain ⟨L', hL'⟩ : ∃ L', L' = (insC (⟨n, at', 0⟩ : Cu) l).length := ⟨_, rfl⟩
              obtain ⟨u4, c4, e4⟩ := o4.shape
              rw [← hL'] at e4
              subst e4
              obtain ⟨⟨d4, f4⟩, a5, s5⟩ := A.out.layK k4 (by rw [← HZ.out]; exact o4)
              rw [EV.out] at d4
              have A5 := Lib.hid a5; have S5 := Lib.hid s5
              clear hown hgrow o4 k4 hL' a5 s5 el cc
              go_wp2
              go_ret
              exact ⟨rfl, _, A5.out, S5.out⟩

    · obtain ⟨p, rfl⟩ : ∃ p, q = p + 1 := ⟨q - 1, by omega⟩
      obtain ⟨x, hx⟩ : ∃ x, l[p]? = some x := ⟨_, List.getElem?_eq_getElem (by omega)⟩
      obtain ⟨g, c', hv, d, ⟨q0, q1, q2⟩, -⟩ := A.out.hit hx
      rw [EV.out] at hv
      simp only [Value.slice.injEq] at hv
      obtain ⟨rfl, -, rfl⟩ := hv
      clear d
      have y1 : (p : Int) < (l.length : Int) := by omega
      have y2 : (0 : Int) < (p : Int) + 1 := by omega
      have hne : (x.nm.toList == n.toList) = false := by
        have := plc_none HP.out x (List.mem_of_getElem? hx)
        rw [beq_eq_false_iff_ne]
        exact fun e => this (toList_inj e)
      have HXP := Lib.hid hx
      cases hlt : Op.bytesLess x.nm.toList n.toList with
      | false =>
        have HLT := Lib.hid hlt; have HNE := Lib.hid hne
        clear hx
        go_wp2
        go_round
        case rel =>
          refine ⟨p, by go_num, by omega, Lib.hid (fun j y hj hy => ?_)⟩
          by_cases e : j = p
          · subst e
            rw [HXP.out] at hy
            cases hy
            cases hk : ltN n x.nm with
            | true => rfl
            | false => have h5 := bl_tri _ _ HLT.out hk; have h6 := HNE.out; rw [h5] at h6; simp at h6
          · exact HX.out j y (by omega) hy
        case measure => simp [intOf]
      | true =>
        have INS := Lib.hid (insC_at (x := ⟨n, at', 0⟩) OK.out.nms hq HX.out (fun y h0 hy => by
          rw [Nat.add_sub_cancel, HXP.out] at hy
          cases hy
          exact bl_asymm hlt))
        have RD := Lib.hid (show RdK encCu w (.slice (some ⟨g, 0, none⟩) l.length c) l by have := A.out.own.rd; rw [EV.out] at this; exact this)
        have hlc := RD.out.cap.2
        have z1 : (p : Int) + 1 ≤ (l.length : Int) := by omega
        have z2 : (p : Int) + 1 ≤ (c : Int) := by omega
        have z3 : (0 : Int) ≤ (p : Int) + 1 := by omega
        have z4 : ((p : Int) + 1).toNat = p + 1 := by omega
        have z5 : p + 1 ≤ l.length := hq
        have z6 : p + 1 ≤ c := by omega
        clear hx
        by_cases hc : c = p + 1
        · have hlp : l.length = p + 1 := by omega
          have HLP := Lib.hid hlp
          subst hc
          have C0 := Lib.hid c0
          have hQ1 : (l.take (p + 1)).length = p + 1 := by rw [List.length_take]; omega
          have hQ3 : (l.drop (p + 1)).length = 0 := by have := List.length_drop (l := l) (i := p + 1); omega
          have SRC1 : Hid (Src Try.prog 3 27 (.slice (some ⟨g, 0, none⟩) (p + 1) (p + 1)) (p + 1) (kcs encCu (l.take (p + 1))) w) := Lib.hid (by
            have := RdK.src (P := Try.prog) (tx := 27) (show RdK encCu w (.slice (some ⟨g, 0, none⟩) (p + 1) (p + 1)) (l.take (p + 1)) from RD.out.take (q := p + 1) hq) Try.underlying27
            rw [hQ1] at this; exact this)
          have RD3 : Hid (RdK encCu w (.slice (some ⟨g, 0, none⟩) 0 0) (l.drop (p + 1))) := Lib.hid (by rw [List.drop_eq_nil_of_le (by omega)]; exact RdK.no w _ 0 (fun _ => rfl))
          have HQ1 := Lib.hid hQ1; have HQ3 := Lib.hid hQ3
          clear hQ1 hQ3
          go_wp2_with (at_builtin; refine wpList_append_all _ rfl (.tmp 53) (.tmp 59) 27 27 rfl z rcE i0 _ 3 32 Try.underlying27 hi0 hz0 hz1 hz2 rfl (.slice none 0 0) (0) ([]) rfl (World.ownsRow_nil _ _ _ _) (.slice (some ⟨g, 0, none⟩) (p + 1) (p + 1)) (p + 1) (kcs encCu (l.take (p + 1))) rfl SRC1.out (by unfold maxLen; omega) (by omega) (by rw [HZ.out]; exact Nat.le_refl _) ?nexta)
          case nexta =>
            intro v1 w1 hown _ hgrow _
            have o1 : OwnK encCu w1 z rcE v1 (l.take (p + 1)) := by unfold OwnK; rw [HQ1.out]; show w1.ownsRow _ _ 3 _ _ _; simpa using hown
            have k1 : Kept w w1 [] := (Kept.refl w []).grown hgrow (fun k hk => by simp [Value.ownBlock] at hk)
            obtain ⟨u1, c1, e1⟩ := o1.shape
            rw [HQ1.out] at e1
            subst e1
            have k2 : Kept w1 (w1.alloc (.cells #[.string n, .int .i64 at', .int .i64 0] rcE)) [] := (Kept.refl w1 []).alloc _
            have g2 : (w1.alloc (.cells #[.string n, .int .i64 at', .int .i64 0] rcE)).heap[w1.heap.size]? = some (.cells (encCu.cs ⟨n, at', 0⟩) rcE (0, 0)) := heap_alloc_new w1 _
            have K2 := Lib.hid (k1.trans k2 (by simp))
            have SRC2 : Hid (Src Try.prog 3 27 (.slice (some ⟨w1.heap.size, 0, none⟩) 1 1) 1 (encCu.cs ⟨n, at', 0⟩).toList (w1.alloc (.cells #[.string n, .int .i64 at', .int .i64 0] rcE))) := Lib.hid (by
              have := (rdK_one (E := encCu) (x := ⟨n, at', 0⟩) g2).src (P := Try.prog) (tx := 27) Try.underlying27
              rw [kcs_single] at this
              exact this)
            have HZ2 := Lib.hid (show z ≤ (w1.alloc (.cells #[.string n, .int .i64 at', .int .i64 0] rcE)).heap.size by have := (k1.trans k2 (by simp)).size; rw [HZ.out]; exact this)
            have OO : Hid ((w1.alloc (.cells #[.string n, .int .i64 at', .int .i64 0] rcE)).ownsRow z rcE 3 (.slice u1 (p + 1) c1) (p + 1) (kcs encCu (l.take (p + 1)))) := Lib.hid (by have := o1.keep k2; unfold OwnK at this; rw [HQ1.out] at this; exact this)
            clear hown hgrow o1 k1 k2 g2
            go_wp2_with (at_builtin; refine wpList_append_all _ rfl (.tmp 61) (.tmp 65) 27 27 rfl z rcE i0 _ 3 32 Try.underlying27 hi0 hz0 hz1 hz2 rfl (.slice u1 (p + 1) c1) (p + 1) (kcs encCu (l.take (p + 1))) rfl OO.out (.slice (some ⟨w1.heap.size, 0, none⟩) 1 1) (1) ((encCu.cs ⟨n, at', 0⟩).toList) rfl SRC2.out (by unfold maxLen; omega) (by omega) (HZ2.out) ?nextb)
            case nextb =>
              intro v3 w3 hown _ hgrow _
              have o3 : OwnK encCu w3 z rcE v3 (l.take (p + 1) ++ [⟨n, at', 0⟩]) := ownK_snoc (by rw [HQ1.out]; exact hown)
              have k3 : Kept w w3 [] := K2.out.grown hgrow (fun k hk => .inr (by have := (World.ownsRow.lt OO.out k hk).1; rw [HZ.out] at this; exact this))
              have hl3 : (l.take (p + 1) ++ [(⟨n, at', 0⟩ : Cu)]).length = p + 1 + 1 := by rw [List.length_append, HQ1.out]; rfl
              obtain ⟨u3, c3, e3⟩ := o3.shape
              rw [hl3] at e3
              subst e3
              have OO3 : Hid (w3.ownsRow z rcE 3 (.slice u3 (p + 1 + 1) c3) (p + 1 + 1) (kcs encCu (l.take (p + 1) ++ [⟨n, at', 0⟩]))) := Lib.hid (by have := o3; unfold OwnK at this; rw [hl3] at this; exact this)
              have SRC3 : Hid (Src Try.prog 3 27 (.slice (some ⟨g, 0, none⟩) 0 0) (0) (kcs encCu (l.drop (p + 1))) w3) := Lib.hid (by
                have := (RD3.out.keep k3).src (P := Try.prog) (tx := 27) Try.underlying27
                rw [HQ3.out] at this; exact this)
              have cc := k3.cell (by simp) C0.out
              have K3 := Lib.hid k3; have HL3 := Lib.hid hl3; have HZ3 := Lib.hid (show z ≤ w3.heap.size by have := k3.size; rw [HZ.out]; exact this)
              clear hown hgrow o3 k3 hl3
              go_wp2_with (at_builtin; refine wpList_append_all _ rfl (.tmp 68) (.tmp 74) 27 27 rfl z rcE i0 _ 3 32 Try.underlying27 hi0 hz0 hz1 hz2 rfl (.slice u3 (p + 1 + 1) c3) (p + 1 + 1) (kcs encCu (l.take (p + 1) ++ [⟨n, at', 0⟩])) rfl OO3.out (.slice (some ⟨g, 0, none⟩) 0 0) (0) (kcs encCu (l.drop (p + 1))) rfl SRC3.out (by unfold maxLen; omega) (by omega) (HZ3.out) ?nextc)
              case nextc =>
                intro v4 w4 hown _ hgrow _
                have el : l.take (p + 1) ++ (⟨n, at', 0⟩ : Cu) :: l.drop (p + 1) = insC ⟨n, at', 0⟩ l := INS.out
                have o4 : OwnK encCu w4 z rcE v4 (insC ⟨n, at', 0⟩ l) := by
                  rw [← el]
                  unfold OwnK
                  have e5 : l.take (p + 1) ++ (⟨n, at', 0⟩ : Cu) :: l.drop (p + 1) = (l.take (p + 1) ++ [⟨n, at', 0⟩]) ++ l.drop (p + 1) := by simp
                  rw [e5, kcs_append, List.length_append, HL3.out, HQ3.out]
                  exact hown
                have k4 : Kept w w4 [] := K3.out.grown hgrow (fun k hk => .inr (by have := (World.ownsRow.lt OO3.out k hk).1; rw [HZ.out] at this; exact this))
                obtain ⟨L', hL'⟩ : ∃ L', L' = (insC (⟨n, at', 0⟩ : Cu) l).length := ⟨_, rfl⟩
                obtain ⟨u4, c4, e4⟩ := o4.shape
                rw [← hL'] at e4
                subst e4
                obtain ⟨⟨d4, f4⟩, a5, s5⟩ := A.out.layK k4 (by rw [← HZ.out]; exact o4)
                rw [EV.out] at d4
                have A5 := Lib.hid a5; have S5 := Lib.hid s5
                clear hown hgrow o4 k4 hL' a5 s5 el cc
                go_wp2
                go_ret
                exact ⟨rfl, _, A5.out, S5.out⟩

        · have hc2 : ¬ (c = p + 1) := hc
          have C0 := Lib.hid c0
          have hQ1 : (l.take (p + 1)).length = p + 1 := by rw [List.length_take]; omega
          have hQ3 : (l.drop (p + 1)).length = l.length - (p + 1) := by have := List.length_drop (l := l) (i := p + 1); omega
          have SRC1 : Hid (Src Try.prog 3 27 (.slice (some ⟨g, 0, none⟩) (p + 1) c) (p + 1) (kcs encCu (l.take (p + 1))) w) := Lib.hid (by
            have := RdK.src (P := Try.prog) (tx := 27) (show RdK encCu w (.slice (some ⟨g, 0, none⟩) (p + 1) c) (l.take (p + 1)) from RD.out.take (q := p + 1) hq) Try.underlying27
            rw [hQ1] at this; exact this)
          have RD3 : Hid (RdK encCu w (.slice (some ⟨g, (p + 1) * 3, none⟩) (l.length - (p + 1)) (c - (p + 1))) (l.drop (p + 1))) := Lib.hid (by have := RD.out.drop (q := p + 1) hq; rw [Nat.zero_add] at this; exact this)
          have HQ1 := Lib.hid hQ1; have HQ3 := Lib.hid hQ3
          clear hQ1 hQ3
          go_wp2_with (at_builtin; refine wpList_append_all _ rfl (.tmp 53) (.tmp 59) 27 27 rfl z rcE i0 _ 3 32 Try.underlying27 hi0 hz0 hz1 hz2 rfl (.slice none 0 0) (0) ([]) rfl (World.ownsRow_nil _ _ _ _) (.slice (some ⟨g, 0, none⟩) (p + 1) c) (p + 1) (kcs encCu (l.take (p + 1))) rfl SRC1.out (by unfold maxLen; omega) (by omega) (by rw [HZ.out]; exact Nat.le_refl _) ?nexta)
          case nexta =>
            intro v1 w1 hown _ hgrow _
            have o1 : OwnK encCu w1 z rcE v1 (l.take (p + 1)) := by unfold OwnK; rw [HQ1.out]; show w1.ownsRow _ _ 3 _ _ _; simpa using hown
            have k1 : Kept w w1 [] := (Kept.refl w []).grown hgrow (fun k hk => by simp [Value.ownBlock] at hk)
            obtain ⟨u1, c1, e1⟩ := o1.shape
            rw [HQ1.out] at e1
            subst e1
            have k2 : Kept w1 (w1.alloc (.cells #[.string n, .int .i64 at', .int .i64 0] rcE)) [] := (Kept.refl w1 []).alloc _
            have g2 : (w1.alloc (.cells #[.string n, .int .i64 at', .int .i64 0] rcE)).heap[w1.heap.size]? = some (.cells (encCu.cs ⟨n, at', 0⟩) rcE (0, 0)) := heap_alloc_new w1 _
            have K2 := Lib.hid (k1.trans k2 (by simp))
            have SRC2 : Hid (Src Try.prog 3 27 (.slice (some ⟨w1.heap.size, 0, none⟩) 1 1) 1 (encCu.cs ⟨n, at', 0⟩).toList (w1.alloc (.cells #[.string n, .int .i64 at', .int .i64 0] rcE))) := Lib.hid (by
              have := (rdK_one (E := encCu) (x := ⟨n, at', 0⟩) g2).src (P := Try.prog) (tx := 27) Try.underlying27
              rw [kcs_single] at this
              exact this)
            have HZ2 := Lib.hid (show z ≤ (w1.alloc (.cells #[.string n, .int .i64 at', .int .i64 0] rcE)).heap.size by have := (k1.trans k2 (by simp)).size; rw [HZ.out]; exact this)
            have OO : Hid ((w1.alloc (.cells #[.string n, .int .i64 at', .int .i64 0] rcE)).ownsRow z rcE 3 (.slice u1 (p + 1) c1) (p + 1) (kcs encCu (l.take (p + 1)))) := Lib.hid (by have := o1.keep k2; unfold OwnK at this; rw [HQ1.out] at this; exact this)
            clear hown hgrow o1 k1 k2 g2
            go_wp2_with (at_builtin; refine wpList_append_all _ rfl (.tmp 61) (.tmp 65) 27 27 rfl z rcE i0 _ 3 32 Try.underlying27 hi0 hz0 hz1 hz2 rfl (.slice u1 (p + 1) c1) (p + 1) (kcs encCu (l.take (p + 1))) rfl OO.out (.slice (some ⟨w1.heap.size, 0, none⟩) 1 1) (1) ((encCu.cs ⟨n, at', 0⟩).toList) rfl SRC2.out (by unfold maxLen; omega) (by omega) (HZ2.out) ?nextb)
            case nextb =>
              intro v3 w3 hown _ hgrow _
              have o3 : OwnK encCu w3 z rcE v3 (l.take (p + 1) ++ [⟨n, at', 0⟩]) := ownK_snoc (by rw [HQ1.out]; exact hown)
              have k3 : Kept w w3 [] := K2.out.grown hgrow (fun k hk => .inr (by have := (World.ownsRow.lt OO.out k hk).1; rw [HZ.out] at this; exact this))
              have hl3 : (l.take (p + 1) ++ [(⟨n, at', 0⟩ : Cu)]).length = p + 1 + 1 := by rw [List.length_append, HQ1.out]; rfl
              obtain ⟨u3, c3, e3⟩ := o3.shape
              rw [hl3] at e3
              subst e3
              have OO3 : Hid (w3.ownsRow z rcE 3 (.slice u3 (p + 1 + 1) c3) (p + 1 + 1) (kcs encCu (l.take (p + 1) ++ [⟨n, at', 0⟩]))) := Lib.hid (by have := o3; unfold OwnK at this; rw [hl3] at this; exact this)
              have SRC3 : Hid (Src Try.prog 3 27 (.slice (some ⟨g, (p + 1) * 3, none⟩) (l.length - (p + 1)) (c - (p + 1))) (l.length - (p + 1)) (kcs encCu (l.drop (p + 1))) w3) := Lib.hid (by
                have := (RD3.out.keep k3).src (P := Try.prog) (tx := 27) Try.underlying27
                rw [HQ3.out] at this; exact this)
              have cc := k3.cell (by simp) C0.out
              have K3 := Lib.hid k3; have HL3 := Lib.hid hl3; have HZ3 := Lib.hid (show z ≤ w3.heap.size by have := k3.size; rw [HZ.out]; exact this)
              clear hown hgrow o3 k3 hl3
              go_wp2_with (at_builtin; refine wpList_append_all _ rfl (.tmp 68) (.tmp 74) 27 27 rfl z rcE i0 _ 3 32 Try.underlying27 hi0 hz0 hz1 hz2 rfl (.slice u3 (p + 1 + 1) c3) (p + 1 + 1) (kcs encCu (l.take (p + 1) ++ [⟨n, at', 0⟩])) rfl OO3.out (.slice (some ⟨g, (p + 1) * 3, none⟩) (l.length - (p + 1)) (c - (p + 1))) (l.length - (p + 1)) (kcs encCu (l.drop (p + 1))) rfl SRC3.out (by unfold maxLen; omega) (by omega) (HZ3.out) ?nextc)
              case nextc =>
                intro v4 w4 hown _ hgrow _
                have el : l.take (p + 1) ++ (⟨n, at', 0⟩ : Cu) :: l.drop (p + 1) = insC ⟨n, at', 0⟩ l := INS.out
                have o4 : OwnK encCu w4 z rcE v4 (insC ⟨n, at', 0⟩ l) := by
                  rw [← el]
                  unfold OwnK
                  have e5 : l.take (p + 1) ++ (⟨n, at', 0⟩ : Cu) :: l.drop (p + 1) = (l.take (p + 1) ++ [⟨n, at', 0⟩]) ++ l.drop (p + 1) := by simp
                  rw [e5, kcs_append, List.length_append, HL3.out, HQ3.out]
                  exact hown
                have k4 : Kept w w4 [] := K3.out.grown hgrow (fun k hk => .inr (by have := (World.ownsRow.lt OO3.out k hk).1; rw [HZ.out] at this; exact this))
                obtain ⟨L', hL'⟩ : ∃ L', L' = (insC (⟨n, at', 0⟩ : Cu) l).length := ⟨_, rfl⟩
                obtain ⟨u4, c4, e4⟩ := o4.shape
                rw [← hL'] at e4
                subst e4
                obtain ⟨⟨d4, f4⟩, a5, s5⟩ := A.out.layK k4 (by rw [← HZ.out]; exact o4)
                rw [EV.out] at d4
                have A5 := Lib.hid a5; have S5 := Lib.hid s5
                clear hown hgrow o4 k4 hL' a5 s5 el cc
                go_wp2
                go_ret
                exact ⟨rfl, _, A5.out, S5.out⟩


end Go.Proofs.Ytnoiomaoignndaa
