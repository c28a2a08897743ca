/-
  The document's items: ahead, Due, Take, Drop.
-/
import Derived.Test.YtcnjgjgppbakdaaRtl
import Derived.Deep.DeepCutAuto
namespace Go.Proofs.Ytcnjgjgppbakdaa
set_option linter.unusedVariables false
open Go.RowKit

abbrev riT : TypeId := 29
abbrev riE : TypeId := 62
theorem Try.infoRi : (Try.prog.info? 62).map (fun i => (i.zero, i.size, i.bytes)) = some (some (.agg #[.int .i64 0, .int .i64 0, .int .i64 0, .string ⟨#[]⟩, .int .i64 0, .int .i64 0, .int .u8 0, .int .i64 0, .string ⟨#[]⟩]), 9, 88) := by kernel_rfl

variable {w w' : World} {B h : Nat} {V : Value} {l : List It}

/-- What a call leaves: what it answers, the new list. -/
def ChgR (w : World) (B h : Nat) (V : Value) (r : Value) (m : List It) (x : Ending) (w' : World) : Prop :=
  x = .returned r ∧ ∃ V', Lr encIt riT riE w' B h V' m ∧ Stp (lfoot h V) (lfoot h V') w w'

theorem Lr.hit (a : Lr encIt riT riE w B h V l) {i : Nat} {x : It} (hx : l[i]? = some x) : ∃ g o c, V = .slice (some ⟨g, o, none⟩) l.length c := by
  obtain ⟨u, c, e⟩ := a.shape
  have o1 := a.rd
  rw [e] at o1
  obtain ⟨g, o, rfl, _⟩ := o1.at hx
  exact ⟨g, o, c, e⟩

theorem ltI_1 {x y : It} (h : ¬ x.a = y.a) : ltI x y = decide (x.a < y.a) := by rw [ltI]; simp [h]
theorem ltI_2 {x y : It} (h : x.a = y.a) (k : ¬ x.e.id = y.e.id) : ltI x y = decide (x.e.id < y.e.id) := by rw [ltI]; simp [h, k]
theorem ltI_3 {x y : It} (h : x.a = y.a) (k : x.e.id = y.e.id) : ltI x y = Op.bytesLess x.e.ow.toList y.e.ow.toList := by rw [ltI, ltN]; simp [h, k]

set_option maxHeartbeats 4000000 in
set_option maxRecDepth 100000 in
theorem ahead_any (x y : It) (w : World) : Calls Try.prog 28 #[.agg (encIt.cs x), .agg (encIt.cs y)] w fun e w' => e = .returned (.bool (ltI x y)) ∧ Kept w w' [] := by
  by_cases h1 : x.a = y.a
  · by_cases h2 : x.e.id = y.e.id
    · rw [ltI_3 h1 h2]
      obtain ⟨b0, ⟨b1, b2, b3, b4, b5, b6, b7, b8⟩⟩ := x
      obtain ⟨d0, ⟨d1, d2, d3, d4, d5, d6, d7, d8⟩⟩ := y
      simp only [encIt, It.cs] at *
      subst h1 h2
      go_enter Try.func28, Try.ntmps28
      go_wp2
      go_ret
      exact ⟨rfl, ((Kept.refl w []).alloc _).alloc _⟩
    · rw [ltI_2 h1 h2]
      obtain ⟨b0, ⟨b1, b2, b3, b4, b5, b6, b7, b8⟩⟩ := x
      obtain ⟨d0, ⟨d1, d2, d3, d4, d5, d6, d7, d8⟩⟩ := y
      simp only [encIt, It.cs] at *
      subst h1
      have h2' : (b1 == d1) = false := beq_eq_false_iff_ne.2 h2
      obtain ⟨t, ht⟩ : ∃ t, t = decide (b1 < d1) := ⟨_, rfl⟩
      rw [← ht]
      have HT := Lib.hid ht
      clear ht
      go_enter Try.func28, Try.ntmps28
      go_wp2
      go_ret
      rw [HT.out]
      exact ⟨rfl, ((Kept.refl w []).alloc _).alloc _⟩
  · rw [ltI_1 h1]
    obtain ⟨b0, ⟨b1, b2, b3, b4, b5, b6, b7, b8⟩⟩ := x
    obtain ⟨d0, ⟨d1, d2, d3, d4, d5, d6, d7, d8⟩⟩ := y
    simp only [encIt, It.cs] at *
    have h1' : (b0 == d0) = false := beq_eq_false_iff_ne.2 h1
    obtain ⟨t, ht⟩ : ∃ t, t = decide (b0 < d0) := ⟨_, rfl⟩
    rw [← ht]
    have HT := Lib.hid ht
    clear ht
    go_enter Try.func28, Try.ntmps28
    go_wp2
    go_ret
    rw [HT.out]
    exact ⟨rfl, ((Kept.refl w []).alloc _).alloc _⟩

set_option maxHeartbeats 4000000 in
set_option maxRecDepth 100000 in
theorem rdue_any (a : Lr encIt riT riE w B h V l) (ok : OkI l) (now : Int) : Calls Try.prog 16 #[.pointer (some ⟨h, 0, none⟩), .int .i64 now] w fun e w' => ∃ v', e = .returned v' ∧ OwnK encEv w' w.heap.size evT v' (evs (dueI l now)) ∧ Kept w w' [] := by
  obtain ⟨i0, hi0, hz0, hz1, hz2⟩ := info_parts Try.infoEv
  obtain ⟨z, hz⟩ : ∃ z, z = w.heap.size := ⟨_, rfl⟩
  obtain ⟨u, c, e⟩ := a.shape
  have few := ok.few
  have A := Lib.hid a; have OK := Lib.hid ok; have EV := Lib.hid e; have HZ := Lib.hid hz
  clear a ok e hz
  go_enter Try.func16, Try.ntmps16
  go_wp2
  go_loopw [5, 6] (fun s5 s6 wr => ∃ (k : Nat) (ue : Option Addr) (ce : Nat), s6 = .int .i64 k ∧ s5 = .slice ue k ce ∧ k ≤ l.length ∧ Hid (OwnK encEv wr z evT (.slice ue k ce) (evs (l.take k))) ∧ Hid (∀ (j : Nat) (y : It), j < k → l[j]? = some y → y.a ≤ now) ∧ Hid (Kept w wr [])) (fun _ s6 _ => l.length - (intOf s6).toNat)
  case atStart => exact ⟨0, none, 0, rfl, rfl, Nat.zero_le _, Lib.hid (OwnK.nil _ _ _), Lib.hid (fun j y hj => absurd hj (Nat.not_lt_zero _)), Lib.hid (Kept.refl w [])⟩
  case round =>
    obtain ⟨k, ue, ce, rfl, rfl, hk, OW, HX, K⟩ := hrel
    have a2 := A.out.keep K.out
    have c0 := a2.cell.1
    by_cases hlt : k < l.length
    · obtain ⟨x, hx⟩ : ∃ x, l[k]? = some x := ⟨_, List.getElem?_eq_getElem hlt⟩
      obtain ⟨g, o, c', hv⟩ := a2.hit hx
      have o2 := a2.rd
      rw [hv] at o2 c0
      obtain ⟨q0, q1, q2, q3, q4, q5, q6, q7, q8⟩ := cellsR_r o2 hx
      rw [EV.out] at hv
      simp only [Value.slice.injEq] at hv
      obtain ⟨rfl, -, rfl⟩ := hv
      have x1 : (k : Int) < (l.length : Int) := by omega
      have HR := Lib.hid hx
      clear a2 o2 hx
      obtain ⟨b0, ⟨b1, b2, b3, b4, b5, b6, b7, b8⟩⟩ := x
      simp only at q0 q1 q2 q3 q4 q5 q6 q7 q8
      by_cases hd : b0 ≤ now
      · have HD := Lib.hid hd
        have SRC := src_kone (E := encEv) (P := Try.prog) (t := evT) wr ⟨b1, b2, b3, b4, b5, b6, b7, b8⟩ (tx := 40) Try.underlying40
        simp only [encEv, Ev.cs] at SRC
        have SRC := Lib.hid SRC
        have k2 : Kept wr (wr.alloc (.cells #[.int .i64 b1, .int .i64 b2, .string b3, .int .i64 b4, .int .i64 b5, .int .u8 b6, .int .i64 b7, .string b8] evT)) [] := (Kept.refl wr []).alloc _
        have K2 := Lib.hid (K.out.trans k2 (by simp))
        have ET := Lib.hid (show (evs (l.take k)).length = k by rw [evs_length, List.length_take]; omega)
        have OO := OW.out.keep k2
        unfold OwnK at OO
        rw [ET.out] at OO
        have OO := Lib.hid OO
        have HS := Lib.hid (show z ≤ (wr.alloc (.cells #[.int .i64 b1, .int .i64 b2, .string b3, .int .i64 b4, .int .i64 b5, .int .u8 b6, .int .i64 b7, .string b8] evT)).heap.size by have := K2.out.size; rw [HZ.out]; exact this)
        clear k2
        go_wp2_with (at_builtin; refine wpList_append_all _ rfl (.tmp 28) (.tmp 37) 40 40 rfl z evT i0 _ 8 80 Try.underlying40 hi0 hz0 hz1 hz2 rfl (.slice ue k ce) k (kcs encEv (evs (l.take k))) rfl OO.out (.slice (some ⟨wr.heap.size, 0, none⟩) 1 1) 1 _ rfl SRC.out (by unfold maxLen; omega) (by omega) HS.out ?nexta)
        case nexta =>
          intro v4 w4 hown _ hgrow _
          have o4 : OwnK encEv w4 z evT v4 (evs (l.take (k + 1))) := by
            rw [evs_snoc HR.out]
            unfold OwnK
            rw [kcs_append, kcs_single, List.length_append, ET.out]
            exact hown
          have k4 : Kept w w4 [] := K2.out.grown hgrow (fun k hk => .inr (by have := (World.ownsRow.lt OO.out k hk).1; rw [HZ.out] at this; exact this))
          obtain ⟨u4, c4, e4⟩ := o4.shape
          have hl4 : (evs (l.take (k + 1))).length = k + 1 := by rw [evs_length, List.length_take]; omega
          rw [hl4] at e4
          subst e4
          have O4 := Lib.hid o4; have K4 := Lib.hid k4
          clear hown hgrow o4 k4 hl4
          go_wp2
          go_roundw
          case rel =>
            refine ⟨k + 1, u4, c4, by go_num, rfl, by omega, O4, Lib.hid (fun j y hj hy => ?_), K4⟩
            by_cases ej : j = k
            · subst ej
              rw [HR.out] at hy
              cases hy
              exact HD.out
            · exact HX.out j y (by omega) hy
          case measure => simp [intOf]; omega
      · have R := Lib.hid (due_here OK.out hk HX.out (fun y hy => by rw [HR.out] at hy; cases hy; exact hd))
        have hd2 : decide (b0 ≤ now) = false := decide_eq_false hd
        go_wp2
        go_ret
        rw [← R.out, ← HZ.out]
        exact ⟨_, rfl, OW.out, K.out⟩
    · rw [EV.out] at c0
      have x1 : ¬ (k : Int) < (l.length : Int) := by omega
      have R := Lib.hid (due_here OK.out hk HX.out (fun y hy => by have := (List.getElem?_eq_some_iff.1 hy).1; omega))
      clear a2
      go_wp2
      go_ret
      rw [← R.out, ← HZ.out]
      exact ⟨_, rfl, OW.out, K.out⟩

set_option maxHeartbeats 4000000 in
set_option maxRecDepth 100000 in
theorem rtake_any (a : Lr encIt riT riE w B h V l) (ok : OkI l) (now : Int) : Calls Try.prog 18 #[.pointer (some ⟨h, 0, none⟩), .int .i64 now] w fun e w' => ∃ v', e = .returned v' ∧ OwnK encEv w' w.heap.size evT v' (evs (dueI l now)) ∧ ∃ V', Lr encIt riT riE w' B h V' (lftI l now) ∧ Stp (lfoot h V) (lfoot h V') w w' := by
  have DU := Lib.hid (rdue_any a ok now)
  have few := ok.few
  have DT := Lib.hid (due_take ok.rise now)
  have DL := Lib.hid (show (dueI l now).length ≤ l.length from List.length_filter_le _ _)
  obtain ⟨n, hn⟩ : ∃ n, n = (dueI l now).length := ⟨_, rfl⟩
  rw [← hn] at DT DL
  have A := Lib.hid a; have HN := Lib.hid hn
  clear a ok hn
  go_enter Try.func18, Try.ntmps18
  go_wp2_with fail
  refine DU.out.mono ?_
  rintro e w2 ⟨v, rfl, o, k⟩
  have a2 := A.out.keep k
  obtain ⟨uv, cv, ev⟩ := o.shape
  rw [evs_length, ← HN.out] at ev
  subst ev
  have hnl : n ≤ l.length := DL.out
  obtain ⟨uV, cV, eV⟩ := a2.shape
  have v2 := a2.cell.1
  have hvh := fun (hk1 : (Value.slice uv n cv).ownBlock = some h) => (show False by have := (o.lt _ hk1).1; have := (A.out.lt _ (.inl rfl)).2; omega)
  have HVH := Lib.hid hvh; have OV := Lib.hid o; have K := Lib.hid k; have A2 := Lib.hid a2
  have EV := Lib.hid eV
  have rd2 := a2.rd
  have hcap := (show RdK encIt w2 (.slice uV l.length cV) l by rw [← eV]; exact rd2).cap.2
  rw [eV] at v2 rd2
  have RD := Lib.hid rd2
  have fin : ∀ v3, RdK encIt w2 v3 (lftI l now) → (∀ k, v3.ownBlock = some k → V.ownBlock = some k) → OwnK encEv (w2.setCell ⟨h, 0, none⟩ v3) w.heap.size evT (.slice uv n cv) (evs (dueI l now)) ∧ Lr encIt riT riE (w2.setCell ⟨h, 0, none⟩ v3) B h v3 (lftI l now) ∧ Stp (lfoot h V) (lfoot h v3) w (w2.setCell ⟨h, 0, none⟩ v3) := fun v3 r3 hv3 => by
    obtain ⟨-, a3, s3⟩ := A2.out.lay (Kept.refl w2 []) r3 (fun k hk => A2.out.tag k (hv3 k hk)) (fun k hk => .inl (hv3 k hk))
    exact ⟨OV.out.fo (Fo.setCell (O := fun k => k = h) (Fo.refl _ w2) (p := ⟨h, 0, none⟩) (.inl rfl) v3) (fun k1 hk1 hk2 => HVH.out (by rw [← hk2]; exact hk1)), a3, s3.afterK K.out⟩
  have FIN := Lib.hid fin
  have f2 := a2.cell.2
  clear a2 o k hvh eV rd2 fin
  rcases id RD.out with ⟨uV', cV', eV', hcV, huV, hcell⟩
  simp only [Value.slice.injEq, true_and] at eV'
  obtain ⟨rfl, rfl⟩ := eV'
  cases uV with
  | none =>
    obtain rfl := huV rfl
    have hl0 : l.length = 0 := by omega
    have hn0 : n = 0 := by omega
    subst hn0
    have LE := Lib.hid (show lftI l now = [] by rw [← DT.out.2, List.drop_zero]; exact List.eq_nil_of_length_eq_zero hl0)
    have F3 := Lib.hid (FIN.out (.slice none 0 0) (by rw [LE.out]; exact RdK.nil _) (by simp [Value.ownBlock]))
    rw [hl0] at v2
    clear hcell huV hcV
    go_wp2
    go_ret
    exact ⟨_, rfl, F3.out.1, _, F3.out.2.1, F3.out.2.2⟩
  | some ad =>
    by_cases hl : l = []
    · obtain ⟨g, o, sp⟩ := ad
      have hl0 : l.length = 0 := by rw [hl]; rfl
      have hn0 : n = 0 := by omega
      subst hn0
      have LE := Lib.hid (show lftI l now = [] by rw [← DT.out.2, List.drop_zero]; exact hl)
      have F3 := Lib.hid (fun o' c' (hc' : (some (⟨g, o', sp⟩ : Addr)) = none → c' = 0) => FIN.out (.slice (some ⟨g, o', sp⟩) 0 c') (by rw [LE.out]; exact RdK.no _ _ _ hc') (fun k hk => by rw [EV.out]; exact hk))
      rw [hl0] at v2
      clear hcell huV hcV hl
      by_cases hc : cV = 0
      · subst hc
        have F4 := Lib.hid (F3.out o 0 (fun h => by cases h))
        go_wp2
        go_ret
        exact ⟨_, rfl, F4.out.1, _, F4.out.2.1, F4.out.2.2⟩
      · have F4 := Lib.hid (F3.out o cV (fun h => by cases h))
        go_wp2
        go_ret
        exact ⟨_, rfl, F4.out.1, _, F4.out.2.1, F4.out.2.2⟩
    obtain ⟨g, o, hsp⟩ : ∃ g o, ad = ⟨g, o, none⟩ := by
      obtain ⟨b, o, e, _⟩ := hcell hl
      simp only [Option.some.injEq] at e
      exact ⟨b, o, e⟩
    subst hsp
    have hOB := fun (o' n' c' : Nat) (k : Nat) (hk : (Value.slice (some ⟨g, o', none⟩) n' c').ownBlock = some k) => (show V.ownBlock = some k by rw [EV.out]; exact hk)
    have z1 : (n : Int) ≤ (l.length : Int) := by omega
    have z2 : (n : Int) ≤ (cV : Int) := by omega
    have z5 : n ≤ cV := by omega
    by_cases hc : cV = n
    · have hll : l.length = n := by omega
      subst hc
      have LE := Lib.hid (show lftI l now = [] by rw [← DT.out.2]; exact List.drop_eq_nil_of_le (by omega))
      have F3 := Lib.hid (FIN.out (.slice (some ⟨g, o, none⟩) 0 0) (by rw [LE.out]; exact RdK.no _ _ _ (fun h => by cases h)) (hOB _ _ _))
      rw [hll] at v2
      clear hcell huV hcV hOB hcap
      go_wp2
      go_ret
      exact ⟨_, rfl, F3.out.1, _, F3.out.2.1, F3.out.2.2⟩
    · have F3 := Lib.hid (FIN.out (.slice (some ⟨g, o + n * 9, none⟩) (l.length - n) (cV - n)) (by rw [← DT.out.2]; exact RD.out.drop hnl) (hOB _ _ _))
      clear hcell huV hcV hOB hcap
      go_wp2
      go_ret
      exact ⟨_, rfl, F3.out.1, _, F3.out.2.1, F3.out.2.2⟩

theorem drp_snoc {k : Nat} {x : It} (ow : ByteArray) (hx : l[k]? = some x) : drpI (l.take (k + 1)) ow = if x.e.ow.toList == ow.toList then drpI (l.take k) ow else drpI (l.take k) ow ++ [x] := by
  obtain ⟨hk, rfl⟩ := List.getElem?_eq_some_iff.1 hx
  rw [drpI, List.take_succ_eq_append_getElem hk, List.filter_append]
  cases hc : (l[k].e.ow.toList == ow.toList) with
  | true => rw [List.filter_cons_of_neg (by simp [hc])]; simp [drpI]
  | false => rw [List.filter_cons_of_pos (by simp [hc])]; simp [drpI]

set_option maxHeartbeats 4000000 in
set_option maxRecDepth 100000 in
theorem rdrop_any (a : Lr encIt riT riE w B h V l) (ok : OkI l) (ow : ByteArray) : Calls Try.prog 20 #[.pointer (some ⟨h, 0, none⟩), .string ow] w (ChgR w B h V (.int .i64 ((l.length : Int) - (drpI l ow).length)) (drpI l ow)) := by
  obtain ⟨i0, hi0, hz0, hz1, hz2⟩ := info_parts Try.infoRi
  obtain ⟨z, hz⟩ : ∃ z, z = w.heap.size := ⟨_, rfl⟩
  obtain ⟨u, c, e⟩ := a.shape
  have few := ok.few
  obtain ⟨m, hm⟩ : ∃ m, m = (drpI l ow).length := ⟨_, rfl⟩
  have hml : m ≤ l.length := by rw [hm]; exact List.length_filter_le _ _
  rw [← hm]
  have A := Lib.hid a; have EV := Lib.hid e; have HZ := Lib.hid hz; have HM := Lib.hid hm
  clear a ok e hz hm
  go_enter Try.func20, Try.ntmps20
  go_wp2
  go_loopw [5, 6] (fun s5 s6 wr => ∃ (k p : Nat) (ue : Option Addr) (ce : Nat), s6 = .int .i64 k ∧ s5 = .slice ue p ce ∧ k ≤ l.length ∧ p ≤ k ∧ Hid (OwnK encIt wr z riE (.slice ue p ce) (drpI (l.take k) ow) ∧ p = (drpI (l.take k) ow).length) ∧ Hid (Kept w wr [])) (fun _ s6 _ => l.length - (intOf s6).toNat)
  case atStart => exact ⟨0, 0, none, 0, rfl, rfl, Nat.zero_le _, Nat.le_refl _, Lib.hid ⟨OwnK.nil _ _ _, rfl⟩, Lib.hid (Kept.refl w [])⟩
  case round =>
    obtain ⟨k, p, ue, ce, rfl, rfl, hk, hpk, OW, K⟩ := hrel
    have a2 := A.out.keep K.out
    have c0 := a2.cell.1
    by_cases hlt : k < l.length
    · obtain ⟨x, hx⟩ : ∃ x, l[k]? = some x := ⟨_, List.getElem?_eq_getElem hlt⟩
      obtain ⟨g, o, c', hv⟩ := a2.hit hx
      have o2 := a2.rd
      rw [hv] at o2 c0
      obtain ⟨q0, q1, q2, q3, q4, q5, q6, q7, q8⟩ := cellsR_r o2 hx
      rw [EV.out] at hv
      simp only [Value.slice.injEq] at hv
      obtain ⟨rfl, -, rfl⟩ := hv
      have x1 : (k : Int) < (l.length : Int) := by omega
      have SN := Lib.hid (drp_snoc ow hx)
      clear a2 o2 hx
      obtain ⟨b0, ⟨b1, b2, b3, b4, b5, b6, b7, b8⟩⟩ := x
      simp only at q0 q1 q2 q3 q4 q5 q6 q7 q8 SN
      cases hd : (b3.toList == ow.toList) with
      | true =>
        rw [hd, if_pos rfl] at SN
        have O4 := Lib.hid (show OwnK encIt wr z riE (.slice ue p ce) (drpI (l.take (k + 1)) ow) ∧ p = (drpI (l.take (k + 1)) ow).length by rw [SN.out]; exact OW.out)
        go_wp2
        go_roundw
        case rel => exact ⟨k + 1, p, ue, ce, by go_num, rfl, by omega, by omega, O4, K⟩
        case measure => simp [intOf]; omega
      | false =>
        rw [hd, if_neg (by decide)] at SN
        have SRC := src_kone (E := encIt) (P := Try.prog) (t := riE) wr ⟨b0, ⟨b1, b2, b3, b4, b5, b6, b7, b8⟩⟩ (tx := 27) Try.underlying27
        simp only [encIt, It.cs] at SRC
        have SRC := Lib.hid SRC
        have k2 : Kept wr (wr.alloc (.cells #[.int .i64 b0, .int .i64 b1, .int .i64 b2, .string b3, .int .i64 b4, .int .i64 b5, .int .u8 b6, .int .i64 b7, .string b8] riE)) [] := (Kept.refl wr []).alloc _
        have K2 := Lib.hid (K.out.trans k2 (by simp))
        have ET := Lib.hid OW.out.2.symm
        have OO := OW.out.1.keep k2
        unfold OwnK at OO
        rw [ET.out] at OO
        have OO := Lib.hid OO
        have HS := Lib.hid (show z ≤ (wr.alloc (.cells #[.int .i64 b0, .int .i64 b1, .int .i64 b2, .string b3, .int .i64 b4, .int .i64 b5, .int .u8 b6, .int .i64 b7, .string b8] riE)).heap.size by have := K2.out.size; rw [HZ.out]; exact this)
        clear k2
        go_wp2_with (at_builtin; refine wpList_append_all _ rfl (.tmp 28) (.tmp 36) 27 27 rfl z riE i0 _ 9 88 Try.underlying27 hi0 hz0 hz1 hz2 rfl (.slice ue p ce) p (kcs encIt (drpI (l.take k) ow)) rfl OO.out (.slice (some ⟨wr.heap.size, 0, none⟩) 1 1) 1 _ rfl SRC.out (by unfold maxLen; omega) (by omega) HS.out ?nexta)
        case nexta =>
          intro v4 w4 hown _ hgrow _
          have o4 : OwnK encIt w4 z riE v4 (drpI (l.take (k + 1)) ow) := by
            rw [SN.out]
            unfold OwnK
            rw [kcs_append, kcs_single, List.length_append, ET.out]
            exact hown
          have k4 : Kept w w4 [] := K2.out.grown hgrow (fun k hk => .inr (by have := (World.ownsRow.lt OO.out k hk).1; rw [HZ.out] at this; exact this))
          obtain ⟨u4, c4, e4⟩ := o4.shape
          have hl4 : (drpI (l.take (k + 1)) ow).length = p + 1 := by rw [SN.out, List.length_append, ET.out]; rfl
          rw [hl4] at e4
          subst e4
          have O4 := Lib.hid (And.intro o4 hl4.symm); have K4 := Lib.hid k4
          clear hown hgrow o4 k4 hl4
          go_wp2
          go_roundw
          case rel => exact ⟨k + 1, p + 1, u4, c4, by go_num, rfl, by omega, by omega, O4, K4⟩
          case measure => simp [intOf]; omega
    · rw [EV.out] at c0
      have x1 : ¬ (k : Int) < (l.length : Int) := by omega
      obtain rfl : k = l.length := by omega
      have ow1 := OW.out
      rw [List.take_length, ← HM.out] at ow1
      obtain ⟨ow1, rfl⟩ := ow1
      have e9 : wrap64 ((l.length : Int) - p) = (l.length : Int) - p := by unfold wrap64; omega
      obtain ⟨⟨d4, f4⟩, a5, s5⟩ := A.out.layNew K.out (by rw [← HZ.out]; exact ow1)
      rw [EV.out] at d4
      have A5 := Lib.hid a5; have S5 := Lib.hid s5
      clear a2 ow1 a5 s5 d4
      go_wp2
      go_ret
      exact ⟨rfl, _, A5.out, S5.out⟩

end Go.Proofs.Ytcnjgjgppbakdaa
