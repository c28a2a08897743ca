/-
  The code's items: Due, Take, Drop.
-/
import Derived.Test.YtcnjgjgppbakdaaRtg
namespace Go.Proofs.Ytcnjgjgppbakdaa
set_option linter.unusedVariables false
open Go.RowKit

variable {w w' : World} {B h : Nat} {V : Value} {l : List It}

theorem Try.infoEv : (Try.prog.info? 35).map (fun i => (i.zero, i.size, i.bytes)) = some (some (.agg #[.int .i64 0, .int .i64 0, .string ⟨#[]⟩, .int .i64 0, .int .i64 0, .int .u8 0, .int .i64 0, .string ⟨#[]⟩]), 8, 80) := by kernel_rfl

theorem due_here (ok : OkI l) {now : Int} {k : Nat} (hk : k ≤ l.length) (h1 : ∀ (j : Nat) (y : It), j < k → l[j]? = some y → y.a ≤ now) (h2 : ∀ y, l[k]? = some y → ¬ y.a ≤ now) : l.take k = dueI l now := by
  have h3 := due_stop ok.rise h1 h2 hk
  have h4 := (due_take ok.rise now).1
  rw [h3] at h4
  exact h4
/-- The events of items. -/
def evs (l : List It) : List Ev := l.map It.e
theorem evs_length (l : List It) : (evs l).length = l.length := List.length_map _
theorem evs_snoc {k : Nat} {x : It} (hx : l[k]? = some x) : evs (l.take (k + 1)) = evs (l.take k) ++ [x.e] := by
  obtain ⟨hk, rfl⟩ := List.getElem?_eq_some_iff.1 hx
  rw [evs, List.take_succ_eq_append_getElem hk, List.map_append]
  rfl

set_option maxHeartbeats 1000000 in
theorem tdue_nil (now : Int) (w : World) : Calls Try.prog 15 #[.pointer none, .int .i64 now] w fun e w' => e = .returned (.slice none 0 0) ∧ w' = w := by
  go_enter Try.func15, Try.ntmps15
  go_wp2
  go_ret
  exact ⟨rfl, rfl⟩

set_option maxHeartbeats 4000000 in
set_option maxRecDepth 100000 in
theorem tdue_any (a : Ls encIt rtT rtE w B h V l) (ok : OkI l) (now : Int) : Calls Try.prog 15 #[.pointer (some ⟨h, 0, none⟩), .int .i64 now] w fun e w' => ∃ v', e = .returned v' ∧ OwnK encEv w' w.heap.size evT v' (evs (dueI l now)) ∧ Kept w w' [] := by
  obtain ⟨i0, hi0, hz0, hz1, hz2⟩ := info_parts Try.infoEv
  obtain ⟨z, hz⟩ : ∃ z, z = w.heap.size := ⟨_, rfl⟩
  obtain ⟨u, c, e⟩ := a.shape
  have c0 := a.cell.1
  rw [e] at c0
  have few := ok.few
  have A := Lib.hid a; have OK := Lib.hid ok; have EV := Lib.hid e; have HZ := Lib.hid hz
  clear a ok e hz
  go_enter Try.func15, Try.ntmps15
  go_wp2
  go_loopw [5, 7, 15] (fun s5 _ s15 wr => ∃ (k : Nat) (ue : Option Addr) (ce : Nat), s15 = .int .i64 k ∧ s5 = .slice ue k ce ∧ k ≤ l.length ∧ Hid (OwnK encEv wr z evT (.slice ue k ce) (evs (l.take k))) ∧ Hid (∀ (j : Nat) (y : It), j < k → l[j]? = some y → y.a ≤ now) ∧ Hid (Kept w wr [])) (fun _ _ s15 _ => l.length - (intOf s15).toNat)
  case atStart => exact ⟨0, none, 0, rfl, rfl, Nat.zero_le _, Lib.hid (OwnK.nil _ _ _), Lib.hid (fun j y hj => absurd hj (Nat.not_lt_zero _)), Lib.hid (Kept.refl w [])⟩
  case round =>
    obtain ⟨k, ue, ce, rfl, rfl, hk, OW, HX, K⟩ := hrel
    by_cases hlt : k < l.length
    · obtain ⟨x, hx⟩ : ∃ x, l[k]? = some x := ⟨_, List.getElem?_eq_getElem hlt⟩
      have a2 := A.out.keep K.out
      obtain ⟨g, c', hv⟩ := a2.hit hx
      have o2 := a2.own
      rw [hv] at o2
      obtain ⟨⟨q0, q1, q2, q3, q4, q5, q6, q7, q8⟩, -⟩ := cellsO_r o2 hx
      rw [EV.out] at hv
      simp only [Value.slice.injEq] at hv
      obtain ⟨rfl, -, rfl⟩ := hv
      have x1 : (k : Int) < (l.length : Int) := by omega
      have HR := Lib.hid hx
      clear a2 o2 hx
      obtain ⟨b0, ⟨b1, b2, b3, b4, b5, b6, b7, b8⟩⟩ := x
      simp only at q0 q1 q2 q3 q4 q5 q6 q7 q8
      by_cases hd : b0 ≤ now
      · have hd2 : ¬ now < b0 := by omega
        have HD := Lib.hid hd
        have k2 : Kept wr ((wr.alloc (.cells #[.int .i64 b0, .int .i64 b1, .int .i64 b2, .string b3, .int .i64 b4, .int .i64 b5, .int .u8 b6, .int .i64 b7, .string b8] rtE)).alloc (.cells #[.int .i64 b1, .int .i64 b2, .string b3, .int .i64 b4, .int .i64 b5, .int .u8 b6, .int .i64 b7, .string b8] evT)) [] := ((Kept.refl wr []).alloc _).alloc _
        obtain ⟨W1, hW1⟩ : ∃ W1, W1 = wr.alloc (.cells #[.int .i64 b0, .int .i64 b1, .int .i64 b2, .string b3, .int .i64 b4, .int .i64 b5, .int .u8 b6, .int .i64 b7, .string b8] rtE) := ⟨_, rfl⟩
        have hz2' : W1.heap.size = wr.heap.size + 1 := by rw [hW1]; simp
        have SRC := src_kone (E := encEv) (P := Try.prog) (t := evT) W1 ⟨b1, b2, b3, b4, b5, b6, b7, b8⟩ (tx := 40) Try.underlying40
        rw [hz2', hW1] at SRC
        simp only [encEv, Ev.cs] at SRC
        have SRC := Lib.hid SRC
        have K2 := Lib.hid (K.out.trans k2 (by simp))
        have ET := Lib.hid (show (evs (l.take k)).length = k by rw [evs_length, List.length_take]; omega)
        have OO := OW.out.keep k2
        unfold OwnK at OO
        rw [ET.out] at OO
        have OO := Lib.hid OO
        have HS := Lib.hid (show z ≤ ((wr.alloc (.cells #[.int .i64 b0, .int .i64 b1, .int .i64 b2, .string b3, .int .i64 b4, .int .i64 b5, .int .u8 b6, .int .i64 b7, .string b8] rtE)).alloc (.cells #[.int .i64 b1, .int .i64 b2, .string b3, .int .i64 b4, .int .i64 b5, .int .u8 b6, .int .i64 b7, .string b8] evT)).heap.size by have := K2.out.size; rw [HZ.out]; exact this)
        clear k2 hW1 hz2' hd
        go_wp2_with (at_builtin; refine wpList_append_all _ rfl (.tmp 23) (.tmp 26) 40 40 rfl z evT i0 _ 8 80 Try.underlying40 hi0 hz0 hz1 hz2 rfl (.slice ue k ce) k (kcs encEv (evs (l.take k))) rfl OO.out (.slice (some ⟨wr.heap.size + 1, 0, none⟩) 1 1) 1 _ rfl SRC.out (by unfold maxLen; omega) (by omega) HS.out ?nexta)
        case nexta =>
          intro v4 w4 hown _ hgrow _
          have o4 : OwnK encEv w4 z evT v4 (evs (l.take (k + 1))) := by
            rw [evs_snoc HR.out]
            unfold OwnK
            rw [kcs_append, kcs_single, List.length_append, ET.out]
            exact hown
          have k4 : Kept w w4 [] := K2.out.grown hgrow (fun k hk => .inr (by have := (World.ownsRow.lt OO.out k hk).1; rw [HZ.out] at this; exact this))
          obtain ⟨u4, c4, e4⟩ := o4.shape
          have hl4 : (evs (l.take (k + 1))).length = k + 1 := by rw [evs_length, List.length_take]; omega
          rw [hl4] at e4
          subst e4
          have O4 := Lib.hid o4; have K4 := Lib.hid k4
          clear hown hgrow o4 k4 hl4
          go_wp2
          go_roundw
          case rel =>
            refine ⟨k + 1, u4, c4, by go_num, rfl, by omega, O4, Lib.hid (fun j y hj hy => ?_), K4⟩
            by_cases ej : j = k
            · subst ej
              rw [HR.out] at hy
              cases hy
              exact HD.out
            · exact HX.out j y (by omega) hy
          case measure => simp [intOf]; omega
      · have hd2 : now < b0 := by omega
        have R := Lib.hid (due_here OK.out hk HX.out (fun y hy => by rw [HR.out] at hy; cases hy; exact hd))
        clear hd
        go_wp2
        go_ret
        rw [← R.out, ← HZ.out]
        exact ⟨_, rfl, OW.out.keep ((Kept.refl wr []).alloc _), K.out.alloc _⟩
    · have x1 : ¬ (k : Int) < (l.length : Int) := by omega
      have R := Lib.hid (due_here OK.out hk HX.out (fun y hy => by have := (List.getElem?_eq_some_iff.1 hy).1; omega))
      go_wp2
      go_ret
      rw [← R.out, ← HZ.out]
      exact ⟨_, rfl, OW.out, K.out⟩

set_option maxHeartbeats 1000000 in
theorem ttake_nil (now : Int) (w : World) : Calls Try.prog 17 #[.pointer none, .int .i64 now] w fun e w' => e = .returned (.slice none 0 0) ∧ w' = w := by
  go_enter Try.func17, Try.ntmps17
  go_wp2_with (go_at_call 15; refine (tdue_nil _ _).mono ?_; rintro e w2 ⟨rfl, rfl⟩)
  go_ret
  exact ⟨rfl, rfl⟩

set_option maxHeartbeats 4000000 in
set_option maxRecDepth 100000 in
theorem ttake_any (a : Ls encIt rtT rtE w B h V l) (ok : OkI l) (now : Int) : Calls Try.prog 17 #[.pointer (some ⟨h, 0, none⟩), .int .i64 now] w fun e w' => ∃ v', e = .returned v' ∧ OwnK encEv w' w.heap.size evT v' (evs (dueI l now)) ∧ ∃ V', Ls encIt rtT rtE w' B h V' (lftI l now) ∧ Stp (lfoot h V) (lfoot h V') w w' := by
  have DU := Lib.hid (tdue_any a ok now)
  have few := ok.few
  have DT := Lib.hid (due_take ok.rise now)
  have DL := Lib.hid (show (dueI l now).length ≤ l.length from List.length_filter_le _ _)
  obtain ⟨n, hn⟩ : ∃ n, n = (dueI l now).length := ⟨_, rfl⟩
  rw [← hn] at DT DL
  have A := Lib.hid a; have HN := Lib.hid hn
  clear a ok hn
  go_enter Try.func17, Try.ntmps17
  go_wp2_with fail
  refine DU.out.mono ?_
  rintro e w2 ⟨v, rfl, o, k⟩
  have a2 := A.out.keep k
  obtain ⟨uv, cv, ev⟩ := o.shape
  rw [evs_length, ← HN.out] at ev
  subst ev
  by_cases h0 : n = 0
  · subst h0
    have e1 : lftI l now = l := by rw [← DT.out.2]; rfl
    rw [← e1] at a2
    have A2 := Lib.hid a2; have OV := Lib.hid o; have K := Lib.hid k
    clear a2 o k e1
    go_wp2
    go_ret
    exact ⟨_, rfl, OV.out, V, A2.out, Stp.ofK K.out⟩
  · have hnl : n ≤ l.length := DL.out
    obtain ⟨x, hx⟩ : ∃ x, l[0]? = some x := ⟨_, List.getElem?_eq_getElem (by omega)⟩
    obtain ⟨g, c, hv⟩ := a2.hit hx
    have o2 := a2.own
    have v2 := a2.cell.1
    rw [hv] at o2 v2
    have DE := Lib.hid (rdeletes_any g l.length c l 0 n w2 B rfl o2 (by omega) hnl (by omega))
    have EV := Lib.hid hv; have A2 := Lib.hid a2; have OV := Lib.hid o; have K := Lib.hid k
    have hn1 : (0 : Int) < (n : Int) := by omega
    have hvz := fun k1 (hk1 : (Value.slice uv n cv).ownBlock = some k1) (hk2 : V.ownBlock = some k1) => (show False by have := (o.lt _ hk1).1; have := (A.out.lt _ (.inr hk2)).2; omega)
    have hvh := fun (hk1 : (Value.slice uv n cv).ownBlock = some h) => (show False by have := (o.lt _ hk1).1; have := (A.out.lt _ (.inl rfl)).2; omega)
    have HVZ := Lib.hid hvz; have HVH := Lib.hid hvh
    clear hx o2 a2 o k hv hnl h0 hvz hvh
    go_wp2_with fail
    refine DE.out.mono ?_
    rintro e w4 ⟨rfl, ho, hfo⟩
    rw [List.take_zero, List.nil_append, DT.out.2, Nat.zero_add] at ho
    rw [Nat.zero_add]
    obtain ⟨⟨c4, f4⟩, a5, s5⟩ := A2.out.lay (hfo.mono (fun k hk => by rw [EV.out, hk]; rfl)) ho (fun k hk => .inl (by rw [EV.out]; exact hk))
    rw [EV.out] at c4
    have o4 := OV.out.fo hfo (fun k1 hk1 hk2 => HVZ.out k1 hk1 (by rw [EV.out, hk2]; rfl))
    have o5 := o4.fo (Fo.setCell (O := fun k => k = h) (Fo.refl _ w4) (p := ⟨h, 0, none⟩) (.inl rfl) (.slice (some ⟨g, 0, none⟩) (l.length - n) c)) (fun k1 hk1 hk2 => HVH.out (by rw [← hk2]; exact hk1))
    have A5 := Lib.hid a5; have S5 := Lib.hid s5; have O5 := Lib.hid o5
    clear ho hfo a5 s5 v2 o4 o5
    go_wp2
    go_ret
    exact ⟨_, rfl, O5.out, _, A5.out, S5.out.afterK K.out⟩

set_option maxHeartbeats 1000000 in
theorem tdrop_nil (ow : ByteArray) (w : World) : Calls Try.prog 19 #[.pointer none, .string ow] w fun e w' => e = .returned (.int .i64 0) ∧ Kept w w' [] := by
  go_enter Try.func19, Try.ntmps19
  go_wp2
  go_ret
  exact ⟨rfl, (Kept.refl w []).alloc _⟩

set_option maxHeartbeats 4000000 in
set_option maxRecDepth 100000 in
theorem tdrop_any (a : Ls encIt rtT rtE w B h V l) (ok : OkI l) (ow : ByteArray) : Calls Try.prog 19 #[.pointer (some ⟨h, 0, none⟩), .string ow] w (ChgT w B h V (.int .i64 ((l.length : Int) - (drpI l ow).length)) (drpI l ow)) := by
  obtain ⟨z, hz⟩ : ∃ z, z = w.heap.size := ⟨_, rfl⟩
  obtain ⟨W1, hW1⟩ : ∃ W1, W1 = w.alloc (.cells #[.string ow] 9) := ⟨_, rfl⟩
  have k1 : Kept w W1 [] := by rw [hW1]; exact (Kept.refl w []).alloc _
  have g1 : W1.heap[z]? = some (.cells #[.string ow] 9 (0, 0)) := by rw [hW1, hz]; exact heap_alloc_new w _
  have few := ok.few
  obtain ⟨m, hm⟩ : ∃ m, m = (drpI l ow).length := ⟨_, rfl⟩
  have hml : m ≤ l.length := by rw [hm]; exact List.length_filter_le _ _
  obtain ⟨u, c, e⟩ := a.shape
  have a1 := a.keep k1
  have v1 := a1.cell.1
  have hzv : V.ownBlock ≠ some z := fun hk => by have := (a.lt _ (.inr hk)).2; omega
  have hP : PaysP_r W1 (fun k => V.ownBlock = some k) 31 #[.pointer (some ⟨z, 0, none⟩)] (fun x => x.e.ow.toList == ow.toList) := fun r V' hV =>
    dropP_any r ow z V' (by rw [cell_of_row _ _ _ _ _ _ (hV.heap hzv g1)]; rfl)
  have DF := Lib.hid (rdeleteFunc_any a1.own (by omega) _ _ _ (enters_of Try.func31 (by kernel_rfl) rfl) hP)
  rw [e] at v1 DF
  have A1 := Lib.hid a1; have EV := Lib.hid e; have HM := Lib.hid hm; have K1 := Lib.hid k1; have HW1 := Lib.hid hW1; have HZ := Lib.hid hz
  have e9 : wrap64 ((l.length : Int) - m) = (l.length : Int) - m := by unfold wrap64; omega
  rw [← hm]
  clear a ok e a1 k1 g1 hW1 hz hm hzv hP
  go_enter Try.func19, Try.ntmps19
  go_upto_region 1 with fail
  rw [← HW1.out, ← HZ.out]
  go_wp2_with fail
  refine DF.out.mono ?_
  rintro e w2 ⟨v', rfl, ho, hv, hfo⟩
  rw [← EV.out] at hfo hv
  obtain ⟨u', c', e'⟩ := ho.shape
  have e3 : (List.filter (fun r : It => !(r.e.ow.toList == ow.toList)) l).length = m := HM.out.symm
  rw [e3] at e'
  subst e'
  obtain ⟨⟨c4, f4⟩, a5, s5⟩ := A1.out.lay hfo ho (fun k hk => .inl (hv k hk))
  rw [EV.out] at c4
  have A5 := Lib.hid a5; have S5 := Lib.hid s5
  clear ho hfo hv a5 s5 v1 e3
  go_wp2
  go_ret
  exact ⟨rfl, _, A5.out, S5.out.afterK K1.out⟩

end Go.Proofs.Ytcnjgjgppbakdaa
