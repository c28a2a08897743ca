/-
 Cqp, Cqq in one text.
-/
import Derived.Test.YticiofkiffgclaaGreatQu0
import Derived.Test.YticiofkiffgclaaGreatQu4
set_option linter.unusedVariables false
set_option maxHeartbeats 16000000
set_option maxRecDepth 100000
namespace Go.Proofs.YticiofkiffgclaaGreat
open Go.RowKit
variable {T : TypeId} {w w' : World} {B h oo : Nat} {RR : List Value} {V : Value} {l : List Cu}
theorem Lw.layK {T e : TypeId} (a : Lw encCu T e w B h oo RR V l) {w1 : World} (k : Kept w w1 []) {v : Value} {m : List Cu} (o : OwnK encCu w1 w.heap.size e v m) :
 (w1.cell? ⟨h, oo, none⟩ = some V /\ w1.frozen? ⟨h, oo, none⟩ = false) /\ Lw encCu T e (w1.setCell ⟨h, oo, none⟩ v) B h oo (RR.set oo v) v m /\ Stp (xqJ h V) (xqJ h v) w (w1.setCell ⟨h, oo, none⟩ v) :=
 a.lay (Fo.ofKept k _) (o.mono a.size) (fun k hk => .inr (o.lt k hk).1)
theorem rreg_ins (a : Lw encCu T rcE w B h oo RR V l) (ok : OkC l) (n : ByteArray) (at' : Int) (h1 : ¬ n.size < 1) (h2 : ¬ 40 < n.size) (h3 : ¬ at' < 1) (hp : plc l n = none) (h4 : ¬ 4 <= l.length) :
 Calls Tryz.prog 116 #[.pointer (some ⟨h, oo, none⟩), .string n, .int .i64 at'] w (ChgK T w B h oo RR V (.int .i64 0) (insC ⟨n, at', 0⟩ l)) := by
 obtain ⟨i0, hi0, hz0, hz1, hz2⟩ := info_parts Tryz.infoRc
 obtain ⟨z, hz⟩ : ∃ z, z = w.heap.size := ⟨_, rfl⟩
 have FD := iH (yqp a n (by omega))
 have hfd : fnd l n = -1 := by rw [fnd, hp]
 rw [hfd] at FD
 obtain ⟨u, c, e⟩ := a.shape
 have c0 := a.cell.1
 rw [e] at c0
 have A := iH a; have OK := iH ok; have EV := iH e; have HZ := iH hz; have HP := iH hp
 have x1 : ¬ (n.size : Int) < 1 := by omega
 have x2 : ¬ (40 : Int) < (n.size : Int) := by omega
 have x4 : ¬ (4 : Int) <= (l.length : Int) := by omega
 clear a ok e hz hp hfd h1 h2
 go_enter Tryz.func116, Tryz.ntmps116
 go_wp2_with (go_at_call 121; refine FD.out.mono ?_; rintro e w2 ⟨rfl, hw⟩; have hw2 := hw.symm; clear hw; subst hw2)
 go_loop [7] (fun t => ∃ q : Nat, t = .int .i64 q /\ q <= l.length /\ Hid (∀ j y, q <= j -> l[j]? = some y -> ltN n y.nm = true)) (fun t => (intOf t).toNat)
 case atStart => exact ⟨l.length, rfl, Nat.le_refl _, iH (fun j y hj hy => by have := (List.getElem?_eq_some_iff.1 hy).1; omega)⟩
 case round =>
  obtain ⟨q, rfl, hq, HX⟩ := hrel
  rcases Nat.eq_zero_or_pos q with rfl | hqp
  ·have INS := iH (insC_at (x := ⟨n, at', 0⟩) OK.out.nms hq HX.out (fun y h0 => absurd h0 (Nat.lt_irrefl _)))
   have y1 : ¬ (0 : Int) < ((0 : Nat) : Int) := by omega
   rcases id A.out.own.2 with ⟨hv, h0⟩ | ⟨g, cap, cur, hv, hgs⟩
   ·rw [EV.out] at hv
    simp only [Value.slice.injEq] at hv
    obtain ⟨rfl, hl0, rfl⟩ := hv
    have C0 := iH c0
    have hQ1 : (l.take (0)).length = 0 := by rw [List.length_take]; omega
    have hQ3 : (l.drop (0)).length = 0 := by have := List.length_drop (l := l) (i := 0); omega
    have SRC1 : Hid (Src Tryz.prog 3 70 (.slice none 0 0) (0) (kcs encCu (l.take (0))) w) := iH (by
     have := RdK.src (P := Tryz.prog) (tx := 70) (show RdK encCu w (.slice none 0 0) (l.take (0)) from RdK.nil w) Tryz.underlying70
     rw [hQ1] at this; exact this)
    have RD3 : Hid (RdK encCu w (.slice none 0 0) (l.drop (0))) := iH (by have e0 : l = [] := List.eq_nil_of_length_eq_zero hl0; rw [e0]; exact RdK.nil w)
    have HQ1 := iH hQ1; have HQ3 := iH hQ3
    clear hQ1 hQ3
    go_wp2_with (at_builtin; refine xqa _ rfl (.tmp 53) (.tmp 59) 70 70 rfl z rcE i0 _ 3 32 Tryz.underlying70 hi0 hz0 hz1 hz2 rfl (.slice none 0 0) (0) ([]) rfl (World.ownsRow_nil _ _ _ _) (.slice none 0 0) (0) (kcs encCu (l.take (0))) rfl SRC1.out (by unfold maxLen; omega) (by omega) (by rw [HZ.out]; exact Nat.le_refl _) ?nexta)
    case nexta =>
    intro v1 w1 hown _ hgrow _
    have o1 : OwnK encCu w1 z rcE v1 (l.take (0)) := by unfold OwnK; rw [HQ1.out]; show w1.ownsRow _ _ 3 _ _ _; simpa using hown
    have k1 : Kept w w1 [] := (Kept.refl w []).grown hgrow (fun k hk => by simp [Value.ownBlock] at hk)
    obtain ⟨u1, c1, e1⟩ := o1.shape
    rw [HQ1.out] at e1
    subst e1
    have k2 : Kept w1 (w1.alloc (.cells #[.string n, .int .i64 at', .int .i64 0] rcE)) [] := (Kept.refl w1 []).alloc _
    have g2 : (w1.alloc (.cells #[.string n, .int .i64 at', .int .i64 0] rcE)).heap[w1.heap.size]? = some (.cells (encCu.cs ⟨n, at', 0⟩) rcE (0, 0)) := heap_alloc_new w1 _
    have K2 := iH (k1.trans k2 (by simp))
    have SRC2 : Hid (Src Tryz.prog 3 70 (.slice (some ⟨w1.heap.size, 0, none⟩) 1 1) 1 (encCu.cs ⟨n, at', 0⟩).toList (w1.alloc (.cells #[.string n, .int .i64 at', .int .i64 0] rcE))) := iH (by
     have := (rdK_one (E := encCu) (x := ⟨n, at', 0⟩) g2).src (P := Tryz.prog) (tx := 70) Tryz.underlying70
     rw [xqz] at this
     exact this)
    have HZ2 := iH (show z <= (w1.alloc (.cells #[.string n, .int .i64 at', .int .i64 0] rcE)).heap.size by have := (k1.trans k2 (by simp)).size; rw [HZ.out]; exact this)
    have OO : Hid ((w1.alloc (.cells #[.string n, .int .i64 at', .int .i64 0] rcE)).ownsRow z rcE 3 (.slice u1 (0) c1) (0) (kcs encCu (l.take (0)))) := iH (by have := o1.keep k2; unfold OwnK at this; rw [HQ1.out] at this; exact this)
    clear hown hgrow o1 k1 k2 g2
    go_wp2_with (at_builtin; refine xqa _ rfl (.tmp 61) (.tmp 65) 70 70 rfl z rcE i0 _ 3 32 Tryz.underlying70 hi0 hz0 hz1 hz2 rfl (.slice u1 (0) c1) (0) (kcs encCu (l.take (0))) rfl OO.out (.slice (some ⟨w1.heap.size, 0, none⟩) 1 1) (1) ((encCu.cs ⟨n, at', 0⟩).toList) rfl SRC2.out (by unfold maxLen; omega) (by omega) (HZ2.out) ?nextb)
    case nextb =>
    intro v3 w3 hown _ hgrow _
    have o3 : OwnK encCu w3 z rcE v3 (l.take (0) ++ [⟨n, at', 0⟩]) := xqS (by rw [HQ1.out]; exact hown)
    have k3 : Kept w w3 [] := K2.out.grown hgrow (fun k hk => .inr (by have := (World.ownsRow.lt OO.out k hk).1; rw [HZ.out] at this; exact this))
    have hl3 : (l.take (0) ++ [(⟨n, at', 0⟩ : Cu)]).length = 0 + 1 := by rw [List.length_append, HQ1.out]; rfl
    obtain ⟨u3, c3, e3⟩ := o3.shape
    rw [hl3] at e3
    subst e3
    have OO3 : Hid (w3.ownsRow z rcE 3 (.slice u3 (0 + 1) c3) (0 + 1) (kcs encCu (l.take (0) ++ [⟨n, at', 0⟩]))) := iH (by have := o3; unfold OwnK at this; rw [hl3] at this; exact this)
    have SRC3 : Hid (Src Tryz.prog 3 70 (.slice none 0 0) (0) (kcs encCu (l.drop (0))) w3) := iH (by
     have := (RD3.out.keep k3).src (P := Tryz.prog) (tx := 70) Tryz.underlying70
     rw [HQ3.out] at this; exact this)
    have cc := k3.cell (by simp) C0.out
    have K3 := iH k3; have HL3 := iH hl3; have HZ3 := iH (show z <= w3.heap.size by have := k3.size; rw [HZ.out]; exact this)
    clear hown hgrow o3 k3 hl3
    go_wp2_with (at_builtin; refine xqa _ rfl (.tmp 68) (.tmp 74) 70 70 rfl z rcE i0 _ 3 32 Tryz.underlying70 hi0 hz0 hz1 hz2 rfl (.slice u3 (1) c3) (1) (kcs encCu (l.take (0) ++ [⟨n, at', 0⟩])) rfl OO3.out (.slice none 0 0) (0) (kcs encCu (l.drop (0))) rfl SRC3.out (by unfold maxLen; omega) (by omega) (HZ3.out) ?nextc)
    case nextc =>
    intro v4 w4 hown _ hgrow _
    have el : l.take (0) ++ (⟨n, at', 0⟩ : Cu) :: l.drop (0) = insC ⟨n, at', 0⟩ l := INS.out
    have o4 : OwnK encCu w4 z rcE v4 (insC ⟨n, at', 0⟩ l) := by
     rw [<- el]
     unfold OwnK
     have e5 : l.take (0) ++ (⟨n, at', 0⟩ : Cu) :: l.drop (0) = (l.take (0) ++ [⟨n, at', 0⟩]) ++ l.drop (0) := by simp
     rw [e5, xqi, List.length_append, HL3.out, HQ3.out]
     exact hown
    have k4 : Kept w w4 [] := K3.out.grown hgrow (fun k hk => .inr (by have := (World.ownsRow.lt OO3.out k hk).1; rw [HZ.out] at this; exact this))
    obtain ⟨L', hL'⟩ : ∃ L', L' = (insC (⟨n, at', 0⟩ : Cu) l).length := ⟨_, rfl⟩
    obtain ⟨u4, c4, e4⟩ := o4.shape
    rw [<- hL'] at e4
    subst e4
    obtain ⟨⟨d4, f4⟩, a5, s5⟩ := A.out.layK k4 (by rw [<- HZ.out]; exact o4)
    rw [EV.out] at d4
    have A5 := iH a5; have S5 := iH s5
    clear hown hgrow o4 k4 hL' a5 s5 el cc
    go_wp2
    go_ret
    exact ⟨rfl, _, A5.out, S5.out⟩
   rw [EV.out] at hv
   simp only [Value.slice.injEq] at hv
   obtain ⟨rfl, -, rfl⟩ := hv
   have RD := iH (show RdK encCu w (.slice (some ⟨g, 0, none⟩) l.length c) l by have := A.out.own.rd; rw [EV.out] at this; exact this)
   clear hgs
   have C0 := iH c0
   have hQ1 : (l.take (0)).length = 0 := by rw [List.length_take]; omega
   have hQ3 : (l.drop (0)).length = l.length := by have := List.length_drop (l := l) (i := 0); omega
   have SRC1 : Hid (Src Tryz.prog 3 70 (.slice (some ⟨g, 0, none⟩) 0 c) (0) (kcs encCu (l.take (0))) w) := iH (by
    have := RdK.src (P := Tryz.prog) (tx := 70) (show RdK encCu w (.slice (some ⟨g, 0, none⟩) 0 c) (l.take (0)) from RD.out.take (q := 0) (by omega)) Tryz.underlying70
    rw [hQ1] at this; exact this)
   have RD3 : Hid (RdK encCu w (.slice (some ⟨g, 0, none⟩) l.length c) (l.drop (0))) := iH (RD.out)
   have HQ1 := iH hQ1; have HQ3 := iH hQ3
   clear hQ1 hQ3
   go_wp2_with (at_builtin; refine xqa _ rfl (.tmp 53) (.tmp 59) 70 70 rfl z rcE i0 _ 3 32 Tryz.underlying70 hi0 hz0 hz1 hz2 rfl (.slice none 0 0) (0) ([]) rfl (World.ownsRow_nil _ _ _ _) (.slice (some ⟨g, 0, none⟩) 0 c) (0) (kcs encCu (l.take (0))) rfl SRC1.out (by unfold maxLen; omega) (by omega) (by rw [HZ.out]; exact Nat.le_refl _) ?nexta)
   case nexta =>
   intro v1 w1 hown _ hgrow _
   have o1 : OwnK encCu w1 z rcE v1 (l.take (0)) := by unfold OwnK; rw [HQ1.out]; show w1.ownsRow _ _ 3 _ _ _; simpa using hown
   have k1 : Kept w w1 [] := (Kept.refl w []).grown hgrow (fun k hk => by simp [Value.ownBlock] at hk)
   obtain ⟨u1, c1, e1⟩ := o1.shape
   rw [HQ1.out] at e1
   subst e1
   have k2 : Kept w1 (w1.alloc (.cells #[.string n, .int .i64 at', .int .i64 0] rcE)) [] := (Kept.refl w1 []).alloc _
   have g2 : (w1.alloc (.cells #[.string n, .int .i64 at', .int .i64 0] rcE)).heap[w1.heap.size]? = some (.cells (encCu.cs ⟨n, at', 0⟩) rcE (0, 0)) := heap_alloc_new w1 _
   have K2 := iH (k1.trans k2 (by simp))
   have SRC2 : Hid (Src Tryz.prog 3 70 (.slice (some ⟨w1.heap.size, 0, none⟩) 1 1) 1 (encCu.cs ⟨n, at', 0⟩).toList (w1.alloc (.cells #[.string n, .int .i64 at', .int .i64 0] rcE))) := iH (by
    have := (rdK_one (E := encCu) (x := ⟨n, at', 0⟩) g2).src (P := Tryz.prog) (tx := 70) Tryz.underlying70
    rw [xqz] at this
    exact this)
   have HZ2 := iH (show z <= (w1.alloc (.cells #[.string n, .int .i64 at', .int .i64 0] rcE)).heap.size by have := (k1.trans k2 (by simp)).size; rw [HZ.out]; exact this)
   have OO : Hid ((w1.alloc (.cells #[.string n, .int .i64 at', .int .i64 0] rcE)).ownsRow z rcE 3 (.slice u1 (0) c1) (0) (kcs encCu (l.take (0)))) := iH (by have := o1.keep k2; unfold OwnK at this; rw [HQ1.out] at this; exact this)
   clear hown hgrow o1 k1 k2 g2
   go_wp2_with (at_builtin; refine xqa _ rfl (.tmp 61) (.tmp 65) 70 70 rfl z rcE i0 _ 3 32 Tryz.underlying70 hi0 hz0 hz1 hz2 rfl (.slice u1 (0) c1) (0) (kcs encCu (l.take (0))) rfl OO.out (.slice (some ⟨w1.heap.size, 0, none⟩) 1 1) (1) ((encCu.cs ⟨n, at', 0⟩).toList) rfl SRC2.out (by unfold maxLen; omega) (by omega) (HZ2.out) ?nextb)
   case nextb =>
   intro v3 w3 hown _ hgrow _
   have o3 : OwnK encCu w3 z rcE v3 (l.take (0) ++ [⟨n, at', 0⟩]) := xqS (by rw [HQ1.out]; exact hown)
   have k3 : Kept w w3 [] := K2.out.grown hgrow (fun k hk => .inr (by have := (World.ownsRow.lt OO.out k hk).1; rw [HZ.out] at this; exact this))
   have hl3 : (l.take (0) ++ [(⟨n, at', 0⟩ : Cu)]).length = 0 + 1 := by rw [List.length_append, HQ1.out]; rfl
   obtain ⟨u3, c3, e3⟩ := o3.shape
   rw [hl3] at e3
   subst e3
   have OO3 : Hid (w3.ownsRow z rcE 3 (.slice u3 (0 + 1) c3) (0 + 1) (kcs encCu (l.take (0) ++ [⟨n, at', 0⟩]))) := iH (by have := o3; unfold OwnK at this; rw [hl3] at this; exact this)
   have SRC3 : Hid (Src Tryz.prog 3 70 (.slice (some ⟨g, 0, none⟩) l.length c) (l.length) (kcs encCu (l.drop (0))) w3) := iH (by
    have := (RD3.out.keep k3).src (P := Tryz.prog) (tx := 70) Tryz.underlying70
    rw [HQ3.out] at this; exact this)
   have cc := k3.cell (by simp) C0.out
   have K3 := iH k3; have HL3 := iH hl3; have HZ3 := iH (show z <= w3.heap.size by have := k3.size; rw [HZ.out]; exact this)
   clear hown hgrow o3 k3 hl3
   go_wp2_with (at_builtin; refine xqa _ rfl (.tmp 68) (.tmp 74) 70 70 rfl z rcE i0 _ 3 32 Tryz.underlying70 hi0 hz0 hz1 hz2 rfl (.slice u3 (1) c3) (1) (kcs encCu (l.take (0) ++ [⟨n, at', 0⟩])) rfl OO3.out (.slice (some ⟨g, 0, none⟩) l.length c) (l.length) (kcs encCu (l.drop (0))) rfl SRC3.out (by unfold maxLen; omega) (by omega) (HZ3.out) ?nextc)
   case nextc =>
   intro v4 w4 hown _ hgrow _
   have el : l.take (0) ++ (⟨n, at', 0⟩ : Cu) :: l.drop (0) = insC ⟨n, at', 0⟩ l := INS.out
   have o4 : OwnK encCu w4 z rcE v4 (insC ⟨n, at', 0⟩ l) := by
    rw [<- el]
    unfold OwnK
    have e5 : l.take (0) ++ (⟨n, at', 0⟩ : Cu) :: l.drop (0) = (l.take (0) ++ [⟨n, at', 0⟩]) ++ l.drop (0) := by simp
    rw [e5, xqi, List.length_append, HL3.out, HQ3.out]
    exact hown
   have k4 : Kept w w4 [] := K3.out.grown hgrow (fun k hk => .inr (by have := (World.ownsRow.lt OO3.out k hk).1; rw [HZ.out] at this; exact this))
   obtain ⟨L', hL'⟩ : ∃ L', L' = (insC (⟨n, at', 0⟩ : Cu) l).length := ⟨_, rfl⟩
   obtain ⟨u4, c4, e4⟩ := o4.shape
   rw [<- hL'] at e4
   subst e4
   obtain ⟨⟨d4, f4⟩, a5, s5⟩ := A.out.layK k4 (by rw [<- HZ.out]; exact o4)
   rw [EV.out] at d4
   have A5 := iH a5; have S5 := iH s5
   clear hown hgrow o4 k4 hL' a5 s5 el cc
   go_wp2
   go_ret
   exact ⟨rfl, _, A5.out, S5.out⟩
  obtain ⟨p, rfl⟩ : ∃ p, q = p + 1 := ⟨q - 1, by omega⟩
  obtain ⟨x, hx⟩ : ∃ x, l[p]? = some x := ⟨_, List.getElem?_eq_getElem (by omega)⟩
  obtain ⟨g, c', hv, d, ⟨q0, q1, q2⟩, -⟩ := A.out.hit3 hx
  rw [EV.out] at hv
  simp only [Value.slice.injEq] at hv
  obtain ⟨rfl, -, rfl⟩ := hv
  clear d
  have y1 : (p : Int) < (l.length : Int) := by omega
  have y2 : (0 : Int) < (p : Int) + 1 := by omega
  have hne : (x.nm.toList == n.toList) = false := by
   have := plc_none HP.out x (List.mem_of_getElem? hx)
   rw [beq_eq_false_iff_ne]
   exact fun e => this (toList_inj e)
  have HXP := iH hx
  cases hlt : Op.bytesLess x.nm.toList n.toList with
  | false =>
  have HLT := iH hlt; have HNE := iH hne
  clear hx
  go_wp2
  go_round
  case rel =>
   refine ⟨p, by go_num, by omega, iH (fun j y hj hy => ?_)⟩
   by_cases e : j = p
   ·subst e
    rw [HXP.out] at hy
    cases hy
    cases hk : ltN n x.nm with
    | true => rfl
    | false => have h5 := bl_tri _ _ HLT.out hk; have h6 := HNE.out; rw [h5] at h6; simp at h6
   exact HX.out j y (by omega) hy
  case measure => simp [intOf]
  | true =>
  have INS := iH (insC_at (x := ⟨n, at', 0⟩) OK.out.nms hq HX.out (fun y h0 hy => by
   rw [Nat.add_sub_cancel, HXP.out] at hy
   cases hy
   exact bl_asymm hlt))
  have RD := iH (show RdK encCu w (.slice (some ⟨g, 0, none⟩) l.length c) l by have := A.out.own.rd; rw [EV.out] at this; exact this)
  have hlc := RD.out.cap.2
  have z1 : (p : Int) + 1 <= (l.length : Int) := by omega
  have z2 : (p : Int) + 1 <= (c : Int) := by omega
  have z3 : (0 : Int) <= (p : Int) + 1 := by omega
  have z4 : ((p : Int) + 1).toNat = p + 1 := by omega
  have z5 : p + 1 <= l.length := hq
  have z6 : p + 1 <= c := by omega
  clear hx
  by_cases hc : c = p + 1
  ·have hlp : l.length = p + 1 := by omega
   have HLP := iH hlp
   subst hc
   have C0 := iH c0
   have hQ1 : (l.take (p + 1)).length = p + 1 := by rw [List.length_take]; omega
   have hQ3 : (l.drop (p + 1)).length = 0 := by have := List.length_drop (l := l) (i := p + 1); omega
   have SRC1 : Hid (Src Tryz.prog 3 70 (.slice (some ⟨g, 0, none⟩) (p + 1) (p + 1)) (p + 1) (kcs encCu (l.take (p + 1))) w) := iH (by
    have := RdK.src (P := Tryz.prog) (tx := 70) (show RdK encCu w (.slice (some ⟨g, 0, none⟩) (p + 1) (p + 1)) (l.take (p + 1)) from RD.out.take (q := p + 1) hq) Tryz.underlying70
    rw [hQ1] at this; exact this)
   have RD3 : Hid (RdK encCu w (.slice (some ⟨g, 0, none⟩) 0 0) (l.drop (p + 1))) := iH (by rw [List.drop_eq_nil_of_le (by omega)]; exact RdK.no w _ 0 (fun _ => rfl))
   have HQ1 := iH hQ1; have HQ3 := iH hQ3
   clear hQ1 hQ3
   go_wp2_with (at_builtin; refine xqa _ rfl (.tmp 53) (.tmp 59) 70 70 rfl z rcE i0 _ 3 32 Tryz.underlying70 hi0 hz0 hz1 hz2 rfl (.slice none 0 0) (0) ([]) rfl (World.ownsRow_nil _ _ _ _) (.slice (some ⟨g, 0, none⟩) (p + 1) (p + 1)) (p + 1) (kcs encCu (l.take (p + 1))) rfl SRC1.out (by unfold maxLen; omega) (by omega) (by rw [HZ.out]; exact Nat.le_refl _) ?nexta)
   case nexta =>
   intro v1 w1 hown _ hgrow _
   have o1 : OwnK encCu w1 z rcE v1 (l.take (p + 1)) := by unfold OwnK; rw [HQ1.out]; show w1.ownsRow _ _ 3 _ _ _; simpa using hown
   have k1 : Kept w w1 [] := (Kept.refl w []).grown hgrow (fun k hk => by simp [Value.ownBlock] at hk)
   obtain ⟨u1, c1, e1⟩ := o1.shape
   rw [HQ1.out] at e1
   subst e1
   have k2 : Kept w1 (w1.alloc (.cells #[.string n, .int .i64 at', .int .i64 0] rcE)) [] := (Kept.refl w1 []).alloc _
   have g2 : (w1.alloc (.cells #[.string n, .int .i64 at', .int .i64 0] rcE)).heap[w1.heap.size]? = some (.cells (encCu.cs ⟨n, at', 0⟩) rcE (0, 0)) := heap_alloc_new w1 _
   have K2 := iH (k1.trans k2 (by simp))
   have SRC2 : Hid (Src Tryz.prog 3 70 (.slice (some ⟨w1.heap.size, 0, none⟩) 1 1) 1 (encCu.cs ⟨n, at', 0⟩).toList (w1.alloc (.cells #[.string n, .int .i64 at', .int .i64 0] rcE))) := iH (by
    have := (rdK_one (E := encCu) (x := ⟨n, at', 0⟩) g2).src (P := Tryz.prog) (tx := 70) Tryz.underlying70
    rw [xqz] at this
    exact this)
   have HZ2 := iH (show z <= (w1.alloc (.cells #[.string n, .int .i64 at', .int .i64 0] rcE)).heap.size by have := (k1.trans k2 (by simp)).size; rw [HZ.out]; exact this)
   have OO : Hid ((w1.alloc (.cells #[.string n, .int .i64 at', .int .i64 0] rcE)).ownsRow z rcE 3 (.slice u1 (p + 1) c1) (p + 1) (kcs encCu (l.take (p + 1)))) := iH (by have := o1.keep k2; unfold OwnK at this; rw [HQ1.out] at this; exact this)
   clear hown hgrow o1 k1 k2 g2
   go_wp2_with (at_builtin; refine xqa _ rfl (.tmp 61) (.tmp 65) 70 70 rfl z rcE i0 _ 3 32 Tryz.underlying70 hi0 hz0 hz1 hz2 rfl (.slice u1 (p + 1) c1) (p + 1) (kcs encCu (l.take (p + 1))) rfl OO.out (.slice (some ⟨w1.heap.size, 0, none⟩) 1 1) (1) ((encCu.cs ⟨n, at', 0⟩).toList) rfl SRC2.out (by unfold maxLen; omega) (by omega) (HZ2.out) ?nextb)
   case nextb =>
   intro v3 w3 hown _ hgrow _
   have o3 : OwnK encCu w3 z rcE v3 (l.take (p + 1) ++ [⟨n, at', 0⟩]) := xqS (by rw [HQ1.out]; exact hown)
   have k3 : Kept w w3 [] := K2.out.grown hgrow (fun k hk => .inr (by have := (World.ownsRow.lt OO.out k hk).1; rw [HZ.out] at this; exact this))
   have hl3 : (l.take (p + 1) ++ [(⟨n, at', 0⟩ : Cu)]).length = p + 1 + 1 := by rw [List.length_append, HQ1.out]; rfl
   obtain ⟨u3, c3, e3⟩ := o3.shape
   rw [hl3] at e3
   subst e3
   have OO3 : Hid (w3.ownsRow z rcE 3 (.slice u3 (p + 1 + 1) c3) (p + 1 + 1) (kcs encCu (l.take (p + 1) ++ [⟨n, at', 0⟩]))) := iH (by have := o3; unfold OwnK at this; rw [hl3] at this; exact this)
   have SRC3 : Hid (Src Tryz.prog 3 70 (.slice (some ⟨g, 0, none⟩) 0 0) (0) (kcs encCu (l.drop (p + 1))) w3) := iH (by
    have := (RD3.out.keep k3).src (P := Tryz.prog) (tx := 70) Tryz.underlying70
    rw [HQ3.out] at this; exact this)
   have cc := k3.cell (by simp) C0.out
   have K3 := iH k3; have HL3 := iH hl3; have HZ3 := iH (show z <= w3.heap.size by have := k3.size; rw [HZ.out]; exact this)
   clear hown hgrow o3 k3 hl3
   go_wp2_with (at_builtin; refine xqa _ rfl (.tmp 68) (.tmp 74) 70 70 rfl z rcE i0 _ 3 32 Tryz.underlying70 hi0 hz0 hz1 hz2 rfl (.slice u3 (p + 1 + 1) c3) (p + 1 + 1) (kcs encCu (l.take (p + 1) ++ [⟨n, at', 0⟩])) rfl OO3.out (.slice (some ⟨g, 0, none⟩) 0 0) (0) (kcs encCu (l.drop (p + 1))) rfl SRC3.out (by unfold maxLen; omega) (by omega) (HZ3.out) ?nextc)
   case nextc =>
   intro v4 w4 hown _ hgrow _
   have el : l.take (p + 1) ++ (⟨n, at', 0⟩ : Cu) :: l.drop (p + 1) = insC ⟨n, at', 0⟩ l := INS.out
   have o4 : OwnK encCu w4 z rcE v4 (insC ⟨n, at', 0⟩ l) := by
    rw [<- el]
    unfold OwnK
    have e5 : l.take (p + 1) ++ (⟨n, at', 0⟩ : Cu) :: l.drop (p + 1) = (l.take (p + 1) ++ [⟨n, at', 0⟩]) ++ l.drop (p + 1) := by simp
    rw [e5, xqi, List.length_append, HL3.out, HQ3.out]
    exact hown
   have k4 : Kept w w4 [] := K3.out.grown hgrow (fun k hk => .inr (by have := (World.ownsRow.lt OO3.out k hk).1; rw [HZ.out] at this; exact this))
   obtain ⟨L', hL'⟩ : ∃ L', L' = (insC (⟨n, at', 0⟩ : Cu) l).length := ⟨_, rfl⟩
   obtain ⟨u4, c4, e4⟩ := o4.shape
   rw [<- hL'] at e4
   subst e4
   obtain ⟨⟨d4, f4⟩, a5, s5⟩ := A.out.layK k4 (by rw [<- HZ.out]; exact o4)
   rw [EV.out] at d4
   have A5 := iH a5; have S5 := iH s5
   clear hown hgrow o4 k4 hL' a5 s5 el cc
   go_wp2
   go_ret
   exact ⟨rfl, _, A5.out, S5.out⟩
  have hc2 : ¬ (c = p + 1) := hc
  have C0 := iH c0
  have hQ1 : (l.take (p + 1)).length = p + 1 := by rw [List.length_take]; omega
  have hQ3 : (l.drop (p + 1)).length = l.length - (p + 1) := by have := List.length_drop (l := l) (i := p + 1); omega
  have SRC1 : Hid (Src Tryz.prog 3 70 (.slice (some ⟨g, 0, none⟩) (p + 1) c) (p + 1) (kcs encCu (l.take (p + 1))) w) := iH (by
   have := RdK.src (P := Tryz.prog) (tx := 70) (show RdK encCu w (.slice (some ⟨g, 0, none⟩) (p + 1) c) (l.take (p + 1)) from RD.out.take (q := p + 1) hq) Tryz.underlying70
   rw [hQ1] at this; exact this)
  have RD3 : Hid (RdK encCu w (.slice (some ⟨g, (p + 1) * 3, none⟩) (l.length - (p + 1)) (c - (p + 1))) (l.drop (p + 1))) := iH (by have := RD.out.drop (q := p + 1) hq; rw [Nat.zero_add] at this; exact this)
  have HQ1 := iH hQ1; have HQ3 := iH hQ3
  clear hQ1 hQ3
  go_wp2_with (at_builtin; refine xqa _ rfl (.tmp 53) (.tmp 59) 70 70 rfl z rcE i0 _ 3 32 Tryz.underlying70 hi0 hz0 hz1 hz2 rfl (.slice none 0 0) (0) ([]) rfl (World.ownsRow_nil _ _ _ _) (.slice (some ⟨g, 0, none⟩) (p + 1) c) (p + 1) (kcs encCu (l.take (p + 1))) rfl SRC1.out (by unfold maxLen; omega) (by omega) (by rw [HZ.out]; exact Nat.le_refl _) ?nexta)
  case nexta =>
  intro v1 w1 hown _ hgrow _
  have o1 : OwnK encCu w1 z rcE v1 (l.take (p + 1)) := by unfold OwnK; rw [HQ1.out]; show w1.ownsRow _ _ 3 _ _ _; simpa using hown
  have k1 : Kept w w1 [] := (Kept.refl w []).grown hgrow (fun k hk => by simp [Value.ownBlock] at hk)
  obtain ⟨u1, c1, e1⟩ := o1.shape
  rw [HQ1.out] at e1
  subst e1
  have k2 : Kept w1 (w1.alloc (.cells #[.string n, .int .i64 at', .int .i64 0] rcE)) [] := (Kept.refl w1 []).alloc _
  have g2 : (w1.alloc (.cells #[.string n, .int .i64 at', .int .i64 0] rcE)).heap[w1.heap.size]? = some (.cells (encCu.cs ⟨n, at', 0⟩) rcE (0, 0)) := heap_alloc_new w1 _
  have K2 := iH (k1.trans k2 (by simp))
  have SRC2 : Hid (Src Tryz.prog 3 70 (.slice (some ⟨w1.heap.size, 0, none⟩) 1 1) 1 (encCu.cs ⟨n, at', 0⟩).toList (w1.alloc (.cells #[.string n, .int .i64 at', .int .i64 0] rcE))) := iH (by
   have := (rdK_one (E := encCu) (x := ⟨n, at', 0⟩) g2).src (P := Tryz.prog) (tx := 70) Tryz.underlying70
   rw [xqz] at this
   exact this)
  have HZ2 := iH (show z <= (w1.alloc (.cells #[.string n, .int .i64 at', .int .i64 0] rcE)).heap.size by have := (k1.trans k2 (by simp)).size; rw [HZ.out]; exact this)
  have OO : Hid ((w1.alloc (.cells #[.string n, .int .i64 at', .int .i64 0] rcE)).ownsRow z rcE 3 (.slice u1 (p + 1) c1) (p + 1) (kcs encCu (l.take (p + 1)))) := iH (by have := o1.keep k2; unfold OwnK at this; rw [HQ1.out] at this; exact this)
  clear hown hgrow o1 k1 k2 g2
  go_wp2_with (at_builtin; refine xqa _ rfl (.tmp 61) (.tmp 65) 70 70 rfl z rcE i0 _ 3 32 Tryz.underlying70 hi0 hz0 hz1 hz2 rfl (.slice u1 (p + 1) c1) (p + 1) (kcs encCu (l.take (p + 1))) rfl OO.out (.slice (some ⟨w1.heap.size, 0, none⟩) 1 1) (1) ((encCu.cs ⟨n, at', 0⟩).toList) rfl SRC2.out (by unfold maxLen; omega) (by omega) (HZ2.out) ?nextb)
  case nextb =>
  intro v3 w3 hown _ hgrow _
  have o3 : OwnK encCu w3 z rcE v3 (l.take (p + 1) ++ [⟨n, at', 0⟩]) := xqS (by rw [HQ1.out]; exact hown)
  have k3 : Kept w w3 [] := K2.out.grown hgrow (fun k hk => .inr (by have := (World.ownsRow.lt OO.out k hk).1; rw [HZ.out] at this; exact this))
  have hl3 : (l.take (p + 1) ++ [(⟨n, at', 0⟩ : Cu)]).length = p + 1 + 1 := by rw [List.length_append, HQ1.out]; rfl
  obtain ⟨u3, c3, e3⟩ := o3.shape
  rw [hl3] at e3
  subst e3
  have OO3 : Hid (w3.ownsRow z rcE 3 (.slice u3 (p + 1 + 1) c3) (p + 1 + 1) (kcs encCu (l.take (p + 1) ++ [⟨n, at', 0⟩]))) := iH (by have := o3; unfold OwnK at this; rw [hl3] at this; exact this)
  have SRC3 : Hid (Src Tryz.prog 3 70 (.slice (some ⟨g, (p + 1) * 3, none⟩) (l.length - (p + 1)) (c - (p + 1))) (l.length - (p + 1)) (kcs encCu (l.drop (p + 1))) w3) := iH (by
   have := (RD3.out.keep k3).src (P := Tryz.prog) (tx := 70) Tryz.underlying70
   rw [HQ3.out] at this; exact this)
  have cc := k3.cell (by simp) C0.out
  have K3 := iH k3; have HL3 := iH hl3; have HZ3 := iH (show z <= w3.heap.size by have := k3.size; rw [HZ.out]; exact this)
  clear hown hgrow o3 k3 hl3
  go_wp2_with (at_builtin; refine xqa _ rfl (.tmp 68) (.tmp 74) 70 70 rfl z rcE i0 _ 3 32 Tryz.underlying70 hi0 hz0 hz1 hz2 rfl (.slice u3 (p + 1 + 1) c3) (p + 1 + 1) (kcs encCu (l.take (p + 1) ++ [⟨n, at', 0⟩])) rfl OO3.out (.slice (some ⟨g, (p + 1) * 3, none⟩) (l.length - (p + 1)) (c - (p + 1))) (l.length - (p + 1)) (kcs encCu (l.drop (p + 1))) rfl SRC3.out (by unfold maxLen; omega) (by omega) (HZ3.out) ?nextc)
  case nextc =>
  intro v4 w4 hown _ hgrow _
  have el : l.take (p + 1) ++ (⟨n, at', 0⟩ : Cu) :: l.drop (p + 1) = insC ⟨n, at', 0⟩ l := INS.out
  have o4 : OwnK encCu w4 z rcE v4 (insC ⟨n, at', 0⟩ l) := by
   rw [<- el]
   unfold OwnK
   have e5 : l.take (p + 1) ++ (⟨n, at', 0⟩ : Cu) :: l.drop (p + 1) = (l.take (p + 1) ++ [⟨n, at', 0⟩]) ++ l.drop (p + 1) := by simp
   rw [e5, xqi, List.length_append, HL3.out, HQ3.out]
   exact hown
  have k4 : Kept w w4 [] := K3.out.grown hgrow (fun k hk => .inr (by have := (World.ownsRow.lt OO3.out k hk).1; rw [HZ.out] at this; exact this))
  obtain ⟨L', hL'⟩ : ∃ L', L' = (insC (⟨n, at', 0⟩ : Cu) l).length := ⟨_, rfl⟩
  obtain ⟨u4, c4, e4⟩ := o4.shape
  rw [<- hL'] at e4
  subst e4
  obtain ⟨⟨d4, f4⟩, a5, s5⟩ := A.out.layK k4 (by rw [<- HZ.out]; exact o4)
  rw [EV.out] at d4
  have A5 := iH a5; have S5 := iH s5
  clear hown hgrow o4 k4 hL' a5 s5 el cc
  go_wp2
  go_ret
  exact ⟨rfl, _, A5.out, S5.out⟩
variable {T : TypeId} {w w' : World} {B h oo : Nat} {RR : List Value} {V : Value} {l : List Cu}
theorem rreg_any (a : Lw encCu T rcE w B h oo RR V l) (ok : OkC l) (n : ByteArray) (at' : Int) : Calls Tryz.prog 116 #[.pointer (some ⟨h, oo, none⟩), .string n, .int .i64 at'] w (ChgK T w B h oo RR V (.int .i64 (regE l n at')) (regL l n at')) := by
 have few := ok.few
 have FD := iH (yqp a n (by omega))
 have A := iH a
 by_cases h0 : n.size < 1 ∨ 40 < n.size ∨ at' < 1
 ·have e1 : regE l n at' = 1 := by rw [regE, if_pos h0]
  have e2 : regL l n at' = l := by rw [regL, if_neg (by rw [e1]; decide)]
  rw [e1, e2]
  clear a ok e1 e2 few
  by_cases hE : n.size < 1
  ·have x1 : (n.size : Int) < 1 := by omega
   clear h0 hE
   go_enter Tryz.func116, Tryz.ntmps116
   go_wp2
   go_ret
   exact ⟨rfl, V, A.out.self, Stp.refl _ _⟩
  have x1 : ¬ (n.size : Int) < 1 := by omega
  by_cases hL : 40 < n.size
  ·have x2 : (40 : Int) < (n.size : Int) := by omega
   clear h0 hE hL
   go_enter Tryz.func116, Tryz.ntmps116
   go_wp2
   go_ret
   exact ⟨rfl, V, A.out.self, Stp.refl _ _⟩
  have x2 : ¬ (40 : Int) < (n.size : Int) := by omega
  have x3 : at' < 1 := by omega
  clear h0 hE hL
  go_enter Tryz.func116, Tryz.ntmps116
  go_wp2
  go_ret
  exact ⟨rfl, V, A.out.self, Stp.refl _ _⟩
 have hr : regE l n at' = if (plc l n).isSome then 5 else if 4 <= l.length then 8 else 0 := by rw [regE, if_neg h0]
 have x1 : ¬ (n.size : Int) < 1 := by omega
 have x2 : ¬ (40 : Int) < (n.size : Int) := by omega
 have x3 : ¬ at' < 1 := by omega
 cases hp : plc l n with
 | some i =>
 have e1 : regE l n at' = 5 := by rw [hr, hp]; rfl
 have e2 : regL l n at' = l := by rw [regL, if_neg (by rw [e1]; decide)]
 have e3 : fnd l n = i := by rw [fnd, hp]
 rw [e1, e2]
 rw [e3] at FD
 have x4 : (0 : Int) <= (i : Int) := by omega
 clear a ok e1 e2 e3 hr h0 hp few
 go_enter Tryz.func116, Tryz.ntmps116
 go_wp2_with (go_at_call 121; refine FD.out.mono ?_; rintro e w2 ⟨rfl, hw⟩; have hw2 := hw.symm; clear hw; subst hw2)
 go_ret
 exact ⟨rfl, V, A.out.self, Stp.refl _ _⟩
 | none =>
 have hpn : ¬ ((none : Option Nat).isSome = true) := by decide
 by_cases hf : 4 <= l.length
 ·have e1 : regE l n at' = 8 := by rw [hr, hp, if_neg hpn, if_pos hf]
  have e2 : regL l n at' = l := by rw [regL, if_neg (by rw [e1]; decide)]
  have e3 : fnd l n = -1 := by rw [fnd, hp]
  rw [e1, e2]
  rw [e3] at FD
  obtain ⟨u, c, e⟩ := a.shape
  have c0 := a.cell.1
  rw [e] at c0
  have x4 : (4 : Int) <= (l.length : Int) := by omega
  clear a ok e1 e2 e3 hr h0 hp few hpn hf e
  go_enter Tryz.func116, Tryz.ntmps116
  go_wp2_with (go_at_call 121; refine FD.out.mono ?_; rintro e w2 ⟨rfl, hw⟩; have hw2 := hw.symm; clear hw; subst hw2)
  go_ret
  exact ⟨rfl, V, A.out.self, Stp.refl _ _⟩
 have e1 : regE l n at' = 0 := by rw [hr, hp, if_neg hpn, if_neg hf]
 have e2 : regL l n at' = insC ⟨n, at', 0⟩ l := by rw [regL, if_pos e1]
 rw [e1, e2]
 exact rreg_ins a ok n at' (by omega) (by omega) x3 hp hf
theorem runr_any (a : Lw encCu T rcE w B h oo RR V l) (ok : OkC l) (n : ByteArray) : Calls Tryz.prog 117 #[.pointer (some ⟨h, oo, none⟩), .string n] w (ChgK T w B h oo RR V (.int .i64 (unrE l n)) (unrL l n)) := by
 obtain ⟨i0, hi0, hz0, hz1, hz2⟩ := info_parts Tryz.infoRc
 have few := ok.few
 have FD := iH (yqp a n (by omega))
 have A := iH a
 cases hp : plc l n with
 | none =>
 have e1 : unrE l n = 4 := by rw [unrE, hp]; rfl
 have e2 : unrL l n = l := by rw [unrL, hp]
 have e3 : fnd l n = -1 := by rw [fnd, hp]
 rw [e1, e2]
 rw [e3] at FD
 clear a ok hp e1 e2 e3
 go_enter Tryz.func117, Tryz.ntmps117
 go_wp2_with (go_at_call 121; refine FD.out.mono ?_; rintro e w2 ⟨rfl, hw⟩; have hw2 := hw.symm; clear hw; subst hw2)
 go_ret
 exact ⟨rfl, V, A.out.self, Stp.refl _ _⟩
 | some i =>
 have e1 : unrE l n = 0 := by rw [unrE, hp]; rfl
 have e2 : unrL l n = l.eraseIdx i := by rw [unrL, hp]
 have e3 : fnd l n = i := by rw [fnd, hp]
 rw [e1, e2]
 rw [e3] at FD
 obtain ⟨x, hx, hxn⟩ := xqV hp
 have hil : i < l.length := (List.getElem?_eq_some_iff.1 hx).1
 obtain ⟨g, c, hv, c0, -, -⟩ := a.hit3 hx
 have EV := iH hv
 have C0 := iH c0
 obtain ⟨z, hz⟩ : ∃ z, z = w.heap.size := ⟨_, rfl⟩
 have HZ := iH hz
 have RD := iH (show RdK encCu w (.slice (some ⟨g, 0, none⟩) l.length c) l by have := a.own.rd; rw [hv] at this; exact this)
 have hlc := RD.out.cap.2
 have x4 : ¬ (i : Int) < 0 := by omega
 have z1 : (i : Int) + 1 <= (l.length : Int) := by omega
 have z2 : (i : Int) + 1 <= (c : Int) := by omega
 have z3 : (0 : Int) <= (i : Int) + 1 := by omega
 have z4 : ((i : Int) + 1).toNat = i + 1 := by omega
 have z5 : i + 1 <= l.length := hil
 have z6 : i <= c := by omega
 have z7 : (i : Int) <= (c : Int) := by omega
 have z8 : (i : Int) < (l.length : Int) := by omega
 clear a ok hp e1 e2 e3 hx hxn hv hz
 by_cases hc : c = i + 1
 ·have hlp : l.length = i + 1 := by omega
  subst hc
  go_enter Tryz.func117, Tryz.ntmps117
  go_wp2_with fail
  refine FD.out.mono ?_
  rintro e w2 ⟨rfl, hw⟩
  have hw2 := hw.symm
  clear hw
  subst hw2
  have hQ1 : (l.take i).length = i := by rw [List.length_take]; omega
  have hQ3 : (l.drop (i + 1)).length = 0 := by have := List.length_drop (l := l) (i := i + 1); omega
  have SRC1 : Hid (Src Tryz.prog 3 70 (.slice (some ⟨g, 0, none⟩) i (i + 1)) i (kcs encCu (l.take i)) w) := iH (by
   have := RdK.src (P := Tryz.prog) (tx := 70) (show RdK encCu w (.slice (some ⟨g, 0, none⟩) i (i + 1)) (l.take i) from RD.out.take (q := i) (by omega)) Tryz.underlying70
   rw [hQ1] at this; exact this)
  have RD3 : Hid (RdK encCu w (.slice (some ⟨g, 0, none⟩) 0 0) (l.drop (i + 1))) := iH (by rw [List.drop_eq_nil_of_le (by omega)]; exact RdK.no w _ 0 (fun _ => rfl))
  have HQ1 := iH hQ1; have HQ3 := iH hQ3
  clear hQ1 hQ3
  go_wp2_with (at_builtin; refine xqa _ rfl (.tmp 12) (.tmp 18) 70 70 rfl z rcE i0 _ 3 32 Tryz.underlying70 hi0 hz0 hz1 hz2 rfl (.slice none 0 0) (0) ([]) rfl (World.ownsRow_nil _ _ _ _) (.slice (some ⟨g, 0, none⟩) i (i + 1)) (i) (kcs encCu (l.take i)) rfl SRC1.out (by unfold maxLen; omega) (by omega) (by rw [HZ.out]; exact Nat.le_refl _) ?nexta)
  case nexta =>
  intro v1 w1 hown _ hgrow _
  have o1 : OwnK encCu w1 z rcE v1 (l.take i) := by unfold OwnK; rw [HQ1.out]; show w1.ownsRow _ _ 3 _ _ _; simpa using hown
  have k1 : Kept w w1 [] := (Kept.refl w []).grown hgrow (fun k hk => by simp [Value.ownBlock] at hk)
  obtain ⟨u1, c1, e1⟩ := o1.shape
  rw [HQ1.out] at e1
  subst e1
  have OO : Hid (w1.ownsRow z rcE 3 (.slice u1 i c1) i (kcs encCu (l.take i))) := iH (by have := o1; unfold OwnK at this; rw [HQ1.out] at this; exact this)
  have SRC3 : Hid (Src Tryz.prog 3 70 (.slice (some ⟨g, 0, none⟩) 0 0) (0) (kcs encCu (l.drop (i + 1))) w1) := iH (by
   have := (RD3.out.keep k1).src (P := Tryz.prog) (tx := 70) Tryz.underlying70
   rw [HQ3.out] at this; exact this)
  have cc := k1.cell (by simp) C0.out
  have K1 := iH k1; have HZ3 := iH (show z <= w1.heap.size by have := k1.size; rw [HZ.out]; exact this)
  clear hown hgrow o1 k1
  go_wp2_with (at_builtin; refine xqa _ rfl (.tmp 21) (.tmp 28) 70 70 rfl z rcE i0 _ 3 32 Tryz.underlying70 hi0 hz0 hz1 hz2 rfl (.slice u1 i c1) (i) (kcs encCu (l.take i)) rfl OO.out (.slice (some ⟨g, 0, none⟩) 0 0) (0) (kcs encCu (l.drop (i + 1))) rfl SRC3.out (by unfold maxLen; omega) (by omega) (HZ3.out) ?nextc)
  case nextc =>
  intro v4 w4 hown _ hgrow _
  have el : l.take i ++ l.drop (i + 1) = l.eraseIdx i := (List.eraseIdx_eq_take_drop_succ l i).symm
  have o4 : OwnK encCu w4 z rcE v4 (l.eraseIdx i) := by
   rw [<- el]
   unfold OwnK
   rw [xqi, List.length_append, HQ1.out, HQ3.out]
   exact hown
  have k4 : Kept w w4 [] := K1.out.grown hgrow (fun k hk => .inr (by have := (World.ownsRow.lt OO.out k hk).1; rw [HZ.out] at this; exact this))
  obtain ⟨L', hL'⟩ : ∃ L', L' = (l.eraseIdx i).length := ⟨_, rfl⟩
  obtain ⟨u4, c4, e4⟩ := o4.shape
  rw [<- hL'] at e4
  subst e4
  obtain ⟨⟨d4, f4⟩, a5, s5⟩ := A.out.layK k4 (by rw [<- HZ.out]; exact o4)
  rw [EV.out] at d4
  have A5 := iH a5; have S5 := iH s5
  clear hown hgrow o4 k4 hL' a5 s5 el cc
  go_wp2
  go_ret
  exact ⟨rfl, _, A5.out, S5.out⟩
 go_enter Tryz.func117, Tryz.ntmps117
 go_wp2_with fail
 refine FD.out.mono ?_
 rintro e w2 ⟨rfl, hw⟩
 have hw2 := hw.symm
 clear hw
 subst hw2
 have hQ1 : (l.take i).length = i := by rw [List.length_take]; omega
 have hQ3 : (l.drop (i + 1)).length = l.length - (i + 1) := by have := List.length_drop (l := l) (i := i + 1); omega
 have SRC1 : Hid (Src Tryz.prog 3 70 (.slice (some ⟨g, 0, none⟩) i c) i (kcs encCu (l.take i)) w) := iH (by
  have := RdK.src (P := Tryz.prog) (tx := 70) (show RdK encCu w (.slice (some ⟨g, 0, none⟩) i c) (l.take i) from RD.out.take (q := i) (by omega)) Tryz.underlying70
  rw [hQ1] at this; exact this)
 have RD3 : Hid (RdK encCu w (.slice (some ⟨g, (i + 1) * 3, none⟩) (l.length - (i + 1)) (c - (i + 1))) (l.drop (i + 1))) := iH (by have := RD.out.drop (q := i + 1) (by omega); rw [Nat.zero_add] at this; exact this)
 have HQ1 := iH hQ1; have HQ3 := iH hQ3
 clear hQ1 hQ3
 go_wp2_with (at_builtin; refine xqa _ rfl (.tmp 12) (.tmp 18) 70 70 rfl z rcE i0 _ 3 32 Tryz.underlying70 hi0 hz0 hz1 hz2 rfl (.slice none 0 0) (0) ([]) rfl (World.ownsRow_nil _ _ _ _) (.slice (some ⟨g, 0, none⟩) i c) (i) (kcs encCu (l.take i)) rfl SRC1.out (by unfold maxLen; omega) (by omega) (by rw [HZ.out]; exact Nat.le_refl _) ?nexta)
 case nexta =>
 intro v1 w1 hown _ hgrow _
 have o1 : OwnK encCu w1 z rcE v1 (l.take i) := by unfold OwnK; rw [HQ1.out]; show w1.ownsRow _ _ 3 _ _ _; simpa using hown
 have k1 : Kept w w1 [] := (Kept.refl w []).grown hgrow (fun k hk => by simp [Value.ownBlock] at hk)
 obtain ⟨u1, c1, e1⟩ := o1.shape
 rw [HQ1.out] at e1
 subst e1
 have OO : Hid (w1.ownsRow z rcE 3 (.slice u1 i c1) i (kcs encCu (l.take i))) := iH (by have := o1; unfold OwnK at this; rw [HQ1.out] at this; exact this)
 have SRC3 : Hid (Src Tryz.prog 3 70 (.slice (some ⟨g, (i + 1) * 3, none⟩) (l.length - (i + 1)) (c - (i + 1))) (l.length - (i + 1)) (kcs encCu (l.drop (i + 1))) w1) := iH (by
  have := (RD3.out.keep k1).src (P := Tryz.prog) (tx := 70) Tryz.underlying70
  rw [HQ3.out] at this; exact this)
 have cc := k1.cell (by simp) C0.out
 have K1 := iH k1; have HZ3 := iH (show z <= w1.heap.size by have := k1.size; rw [HZ.out]; exact this)
 clear hown hgrow o1 k1
 go_wp2_with (at_builtin; refine xqa _ rfl (.tmp 21) (.tmp 28) 70 70 rfl z rcE i0 _ 3 32 Tryz.underlying70 hi0 hz0 hz1 hz2 rfl (.slice u1 i c1) (i) (kcs encCu (l.take i)) rfl OO.out (.slice (some ⟨g, (i + 1) * 3, none⟩) (l.length - (i + 1)) (c - (i + 1))) (l.length - (i + 1)) (kcs encCu (l.drop (i + 1))) rfl SRC3.out (by unfold maxLen; omega) (by omega) (HZ3.out) ?nextc)
 case nextc =>
 intro v4 w4 hown _ hgrow _
 have el : l.take i ++ l.drop (i + 1) = l.eraseIdx i := (List.eraseIdx_eq_take_drop_succ l i).symm
 have o4 : OwnK encCu w4 z rcE v4 (l.eraseIdx i) := by
  rw [<- el]
  unfold OwnK
  rw [xqi, List.length_append, HQ1.out, HQ3.out]
  exact hown
 have k4 : Kept w w4 [] := K1.out.grown hgrow (fun k hk => .inr (by have := (World.ownsRow.lt OO.out k hk).1; rw [HZ.out] at this; exact this))
 obtain ⟨L', hL'⟩ : ∃ L', L' = (l.eraseIdx i).length := ⟨_, rfl⟩
 obtain ⟨u4, c4, e4⟩ := o4.shape
 rw [<- hL'] at e4
 subst e4
 obtain ⟨⟨d4, f4⟩, a5, s5⟩ := A.out.layK k4 (by rw [<- HZ.out]; exact o4)
 rw [EV.out] at d4
 have A5 := iH a5; have S5 := iH s5
 clear hown hgrow o4 k4 hL' a5 s5 el cc
 go_wp2
 go_ret
 exact ⟨rfl, _, A5.out, S5.out⟩
end Go.Proofs.YticiofkiffgclaaGreat
