/-
  Proved: whatever the arguments are, carrierlaw15.QueueOnce answers true and leaves its arguments as they were. No condition.
-/
import Derived.Test.YticiofkiffgclaaGreatQo38
import Derived.Test.YticiofkiffgclaaGreatQo39
import Derived.Test.YticiofkiffgclaaGreatRows
import Derived.Test.YticiofkiffgclaaGreatChecked
import Derived.ProofKit
import Derived.OpenShut
import Derived.ChangeOld
import Derived.Below
namespace Go.Proofs.YticiofkiffgclaaGreat.queueOnce
open Go.ChangeShapes Go.WideShapes Go.ChangeAt Go.RowKit
set_option linter.unusedVariables false

theorem own : ownKnob Tryz.prog.godebug = none := by kernel_rfl
theorem laidOut : laidOutB Tryz.prog = true := by kernel_rfl

def Lp (w0 w : World) (a : Hk) (i : Nat) : Prop := ∃ st q, Kh w0 w a st q ∧ SzQ (i + 1) q ∧ st.length ≤ i ∧ OnQ qa st q
theorem Lp.kept {w0 w : World} {a : Hk} {i : Nat} (h : Lp w0 w a i) : Kept w0 w [] := by
  obtain ⟨st, q, k, -⟩ := h
  exact k.2
theorem onq_begin {st : List Nat} {q : Qs} (h : OnQ qa st q) : OnQ qa (begS st) q := by
  unfold begS
  split
  · exact h
  · exact h.begin
theorem tm8 (D : Nat) : ∃ c : Int, (D : Int) % 8 = c ∧ (D : Int).tmod 8 = c ∧ (c = 0 ∨ c = 1 ∨ c = 2 ∨ c = 3 ∨ c = 4 ∨ c = 5 ∨ c = 6 ∨ c = 7) :=
  ⟨(D : Int) % 8, rfl, Int.tmod_eq_emod_of_nonneg (by omega), by omega⟩
def Tl (W w : World) (a : Hk) (st : List Nat) (q : Qs) (b C : Nat) (vd v : Value) (DI T : List Int) : Prop :=
  (∃ O, KX (LoB b) w W.heap.size a st q O) ∧ Kept W w [] ∧ w.ownsRow b 2 1 v T.length (ic T) ∧ (w.ownsRow C 2 1 vd DI.length (ic DI) ∧ ∀ k, vd.ownBlock = some k → k < b) ∧ W.heap.size ≤ b ∧ b ≤ w.heap.size
variable {W w w' : World} {a : Hk} {st : List Nat} {q q' : Qs} {b C : Nat} {vd v : Value} {DI T : List Int}
theorem Tl.keep (t : Tl W w a st q b C vd v DI T) (k : Kept w w' []) : Tl W w' a st q b C vd v DI T := by
  obtain ⟨⟨O, s⟩, k0, o, ⟨d, n⟩, h1, h2⟩ := t
  exact ⟨⟨O, s.keep k⟩, k0.trans k (by simp), ownsRow_fo o (Fo.ofKept k (fun _ => False)) (fun _ _ h => h), ⟨ownsRow_fo d (Fo.ofKept k (fun _ => False)) (fun _ _ h => h), n⟩, h1, Nat.le_trans h2 k.size⟩
theorem Tl.c (t : Tl W w a st q b C vd v DI T) : ∃ O, KX (LoB b) w W.heap.size a st q O ∧ ∀ q' w', KXPost (LoB b) w W.heap.size a st O q' w' → Tl W w' a st q' b C vd v DI T := by
  obtain ⟨⟨O, s⟩, k0, o, ⟨d, n⟩, h1, h2⟩ := t
  refine ⟨O, s, fun q' w' p => ?_⟩
  obtain ⟨O', s', t⟩ := p
  exact ⟨⟨O', s'⟩, k0.foC t.1 (fun k hk => (s.lt k hk).1), s.ks.row t o, ⟨s.ks.row t d, n⟩, h1, Nat.le_trans h2 t.1.size⟩
theorem Tl.add (t : Tl W w a st q b C vd v DI T) {v' : Value} {x : Int} (g : w.grownBy w' v.ownBlock) (o' : w'.ownsRow b 2 1 v' (T ++ [x]).length (ic (T ++ [x]))) : Tl W w' a st q b C vd v' DI (T ++ [x]) := by
  obtain ⟨⟨O, s⟩, k0, o, ⟨d, n⟩, h1, h2⟩ := t
  have hk : Kept W w' [] := k0.grown g fun k hk => .inr (by have := (World.ownsRow.lt o k hk).1; omega)
  have f : Fo (fun k => v.ownBlock = some k) w w' := (Fo.refl _ w).grown g fun k hk => .inl hk
  refine ⟨⟨O, ?_⟩, hk, o', ⟨ownsRow_fo d f (fun j hj e => by have := n j hj; have := (World.ownsRow.lt o j e).1; omega), n⟩, h1, Nat.le_trans h2 f.size⟩
  cases hv : v.ownBlock with
  | none => exact s.keep ((Kept.refl w []).grown g fun k hk => by rw [hv] at hk; cases hk)
  | some j =>
    obtain ⟨cur, hc⟩ := ownsRow_tag o hv
    exact s.far (f.mono (fun k hk => by rw [hv] at hk; exact (Option.some.inj hk).symm)) (World.ownsRow.lt o j hv).1 hc
theorem Tl.ev (t : Tl W w a st q b C vd v DI T) {B : Nat} {u : Value} {m : List Ev} (g : w.grownBy w' v.ownBlock) (h : OwnE w B 50 u m) : OwnE w' B 50 u m :=
  ownsRow_fo h ((Fo.refl (fun k => v.ownBlock = some k) w).grown g fun k hk => .inl hk) fun j hj e => by
    obtain ⟨c1, hc1⟩ := ownsRow_tag h hj
    obtain ⟨c2, hc2⟩ := ownsRow_tag t.2.2.1 e
    exact absurd (tag_one hc1 hc2) (by decide)
theorem RdI.num {w : World} {u : Option Addr} {n c : Nat} {l : List Int} (h : RdI w (.slice u n c) l) {i : Nat} {x : Int} (hx : l[i]? = some x) : ∃ g o, u = some ⟨g, o, none⟩ ∧ w.cell? ⟨g, o + i, none⟩ = some (.int .i64 x) := by
  obtain ⟨hi, rfl⟩ := List.getElem?_eq_some_iff.1 hx
  obtain ⟨a, c', e, _, _, _, h9⟩ := h
  simp only [Value.slice.injEq] at e
  obtain ⟨rfl, rfl, rfl⟩ := e
  obtain ⟨g, o, rfl, hc⟩ := h9 (by rintro rfl; simp at hi)
  refine ⟨g, o, rfl, ?_⟩
  rw [hc i hi, List.getD_eq_getElem?_getD, List.getElem?_eq_getElem hi]
  rfl
theorem ksall1_any {w : World} {B : Nat} {a : Hk} {st : List Nat} {q : Qs} {O : Nat → Prop} (s : KS w B a st q O) {k : Nat} (z : SzQ k q) (hk : k ≤ 1000) : Calls Tryz.prog 27 #[.pointer (some ⟨a.hs, 0, none⟩)] w fun e w' => ∃ v', e = .returned v' ∧ RdE w' v' (srt byId (pre q.l 3)) ∧ Kept w w' [] := by
  obtain ⟨b, u, d, xs, kq, g, e1, e2, rfl⟩ := s.ex
  exact (all_any kq.sp (z.tabs hk)).mono (fun e w' ⟨v, h1, h2, h3⟩ => ⟨v, h1, h2.rd, h3⟩)
theorem ids_take {L : List Ev} {j : Nat} {e : Ev} (h : L[j]? = some e) : (L.take (j + 1)).map Ev.id = (L.take j).map Ev.id ++ [e.id] := by
  rw [List.take_add_one, h, List.map_append]
  rfl
theorem ids_len (L : List Ev) {j : Nat} (h : j ≤ L.length) : ((L.take j).map Ev.id).length = j := by rw [List.length_map, List.length_take]; omega
theorem once_facts {st : List Nat} {q r : Qs} (h : OnQ qa st q) (hs : st.length ≤ 1000) (ho : opens st = []) (he : addE q.ps ((st.length : Int) + 1) (opens st) 0 = 0) (hr : r = tckQ q ((st.length : Int) + 1) (opens st) 0) :
    OnQ qa st r ∧ r = lpQ qa r 0 ∧ 2 ≤ r.ps.length ∧ allE r = allE q ∧
      (∀ x ∈ (allE q).map Ev.id, cntI ((tolB st qa (allE r) (ptAt r) (r.ps.length - 1)).map Ev.id) x = 1) ∧ ((tolB st qa (allE r) (ptAt r) (r.ps.length - 1)).map Ev.id).length = ((allE q).map Ev.id).length := by
  obtain ⟨h1, h2, h3, h4, -, h6, h7⟩ := h.once hs ho he hr
  refine ⟨h1, h2, h3, h4, ?_, ?_⟩
  · intro x hx
    obtain ⟨e, hm, rfl⟩ := List.mem_map.1 hx
    rw [cntI_ids]
    exact h6 e (by rw [h4]; exact hm)
  · rw [List.length_map, List.length_map, h7, h4]
theorem tol_len {st : List Nat} {nm : ByteArray} {L : List Ev} {P : Nat → Pt} : ∀ k, (tolB st nm L P k).length ≤ L.length * k
  | 0 => by simp [tolB]
  | k + 1 => by
    have h1 : (oneB st nm L (P k) (P (k + 1))).length ≤ L.length := by
      unfold oneB
      rw [srt_length]
      exact List.length_filter_le _ _
    have := tol_len (st := st) (nm := nm) (L := L) (P := P) k
    rw [tolB, List.length_append, Nat.mul_succ]
    omega
theorem tol_bound {st : List Nat} {nm : ByteArray} {L : List Ev} {P : Nat → Pt} {k : Nat} (h : L.length ≤ 16000) (hk : k ≤ 64) : ((tolB st nm L P k).map Ev.id).length ≤ 16000 * 64 := by
  rw [List.length_map]
  exact Nat.le_trans (tol_len k) (Nat.mul_le_mul h hk)

set_option maxHeartbeats 16000000 in
set_option maxRecDepth 100000 in
theorem walk (a0 : Option Addr) (len cap : Nat) (f : Nat → ActQ) (W : World) (w0 : IsActsQ W W.heap.size a0 len f ∧ len ≤ maxLen) :
    Calls Tryz.prog 4 #[.slice a0 len cap] W fun e w' => e = .returned (.bool true) ∧ Below W.heap.size W w' := by
  have HA := Lib.hid w0.1
  have hlm : len ≤ 9223372036854775807 := by have := w0.2; unfold maxLen at this; omega
  clear w0
  by_cases hg : 100 < len
  · have xg : (100 : Int) < (len : Int) := by omega
    go_enter Tryz.func4, Tryz.ntmps4
    go_wp2_with fail
    refine (early_any W).mono ?_
    rintro e w1 ⟨rfl, k1⟩
    have K1 := Lib.hid k1; clear k1
    go_wp2_with fail
    refine (early_any w1).mono ?_
    rintro e w2 ⟨rfl, k2⟩
    have K2 := Lib.hid (K1.out.trans k2 (by simp)); clear k2
    go_wp2
    go_ret
    exact ⟨rfl, K2.out.below (Nat.le_refl _) (by simp)⟩
  · have xg : ¬ (100 : Int) < (len : Int) := by omega
    go_enter Tryz.func4, Tryz.ntmps4
    go_wp2_with fail
    refine (early_any W).mono ?_
    rintro e w1 ⟨rfl, k1⟩
    have K1 := Lib.hid k1; clear k1
    go_wp2_with fail
    refine (kh_new K1.out).mono ?_
    rintro e w2 ⟨p, rfl, k2, hn⟩
    have HN := Lib.hid (hn.out w2 (Kept.refl _ _)); clear k2 hn
    go_wp2_with fail
    refine HN.out.mono ?_
    rintro e w3 ⟨a, rfl, rfl, c, k3⟩
    obtain ⟨⟨O3, s3⟩, k3⟩ := c
    have S3 := Lib.hid s3; have K3 := Lib.hid k3
    have Z3 := Lib.hid SzQ.new
    clear s3 k3 HN
    have C4 := ktck_any S3.out Z3.out (by omega) (by simp) 0
    rw [show addE Qs.new.ps ((([] : List Nat).length : Int) + 1) (opens []) 0 = 0 from rfl, show tckQ Qs.new ((([] : List Nat).length : Int) + 1) (opens []) 0 = tckQ Qs.new 1 [] 0 from rfl, show addP Qs.new.ps ((([] : List Nat).length : Int) + 1) (opens []) 0 = pt1 from rfl] at C4
    have C4 := Lib.hid C4
    go_wp2_with fail
    refine C4.out.mono ?_
    rintro e w4 ⟨y4, rfl, -, -, px⟩
    obtain ⟨⟨O4, s4⟩, k4⟩ := Kh.post S3.out K3.out px
    have S4 := Lib.hid s4; have K4 := Lib.hid k4
    have Z4 := Lib.hid (show SzQ 1 (tckQ Qs.new 1 [] 0) from Z3.out.tck 0 (by omega) (by simp))
    clear px s4 k4 C4
    obtain ⟨-, -, on2, on3⟩ := OnQ.start (nm := qa) (by decide) (by decide)
    have C5 := krgs_any S4.out Z4.out (by omega) qa
    rw [on2] at C5
    have z5 := Z4.out.rgs qa
    obtain ⟨q0, hq0⟩ : ∃ q0, q0 = rgsQ (tckQ Qs.new 1 [] 0) qa := ⟨_, rfl⟩
    rw [← hq0] at C5 z5 on3
    have C5 := Lib.hid C5; have Z5 := Lib.hid z5; have ON5 := Lib.hid on3
    clear z5 on2 on3 hq0
    go_wp2_with fail
    refine C5.out.mono ?_
    rintro e w5 ⟨rfl, px⟩
    have L5 := Lib.hid (show Lp W w5 a 0 from ⟨[], q0, Kh.post S4.out K4.out px, Z5.out, Nat.le_refl _, ON5.out⟩)
    clear px C5
    go_wp2
    go_loopw [7] (fun s7 wr => ∃ i : Nat, s7 = .int .i64 i ∧ i ≤ len ∧ Hid (Lp W wr a i)) (fun s7 _ => len - (intOf s7).toNat)
    case atStart => exact ⟨0, rfl, Nat.zero_le _, L5⟩
    case round =>
      obtain ⟨i, rfl, hi, BE⟩ := hrel
      by_cases hlt : i < len
      · have x1 : (i : Int) < (len : Int) := by omega
        obtain ⟨b, o, e0, -, hf⟩ := HA.out.kept BE.out.kept (by omega)
        subst e0
        have at0 := hf i hlt
        obtain ⟨c0, c1, c2, c3, d8, i8, o8, -⟩ := at0
        generalize f i = x at c0 c1 c2 c3 d8 i8 o8
        obtain ⟨D, U, Ky, N⟩ := x
        simp only at c0 c1 c2 c3 d8 i8 o8
        clear hf
        obtain ⟨st, q, ⟨⟨O, s⟩, k0⟩, z, hl, on⟩ := BE.out
        obtain ⟨zb, hzb⟩ : ∃ z, z = wr.heap.size := ⟨_, rfl⟩
        obtain ⟨W6, hW6⟩ : ∃ w', w' = wr.alloc (.cells #[.int .u8 D, .int .u8 U, .int .u8 Ky, .int .i64 N] 28) := ⟨_, rfl⟩
        have k6 : Kept wr W6 [] := by rw [hW6]; exact (Kept.refl wr []).alloc _
        have g6 : W6.heap[zb]? = some (.cells #[.int .u8 D, .int .u8 U, .int .u8 Ky, .int .i64 N] 28 (0, 0)) := by rw [hW6, hzb]; exact heap_alloc_new wr _
        obtain ⟨W7, hW7⟩ : ∃ w', w' = W6.drew := ⟨_, rfl⟩
        have k7 : Kept wr W7 [] := by rw [hW7]; exact k6.drew
        have g7 : W7.heap[zb]? = some (.cells #[.int .u8 D, .int .u8 U, .int .u8 Ky, .int .i64 N] 28 (0, 0)) := by rw [hW7]; exact g6
        have HW6 := Lib.hid hW6; have HZB := Lib.hid hzb; have HW7 := Lib.hid hW7; have G7 := Lib.hid g7; have S7 := Lib.hid (s.keep k7); have K7 := Lib.hid (k0.trans k7 (by simp)); have Z := Lib.hid z; have HL := Lib.hid hl; have ON := Lib.hid on; have HI := Lib.hid (show i + 1 ≤ 900 by omega); have HSL := Lib.hid (show st.length ≤ 1000 by omega)
        obtain ⟨r4, hr4⟩ : ∃ r4, r4 = U % 4 := ⟨_, rfl⟩
        obtain ⟨ow, how⟩ : ∃ ow : Int, ow = (st.length : Int) - (r4 : Nat) := ⟨_, rfl⟩
        have hob : -100 ≤ ow ∧ ow ≤ 100000 := by omega
        have wow : IntKind.i64.wrap ((st.length : Int) - (r4 : Nat)) = ow := by rw [← how, IntKind.wrap_i64]; omega
        have wst : IntKind.i64.wrap ((st.length : Int) + 1 - 1) = (st.length : Int) := by rw [IntKind.wrap_i64]; omega
        have wst2 : IntKind.i64.wrap (st.length : Int) = (st.length : Int) := by rw [IntKind.wrap_i64]; omega
        obtain ⟨xu, xut, wu4, wu4'⟩ := tm4 hr4
        obtain ⟨c, xd, xdt, hc⟩ := tm8 D
        have wky : wrap64 (Ky : Int) = (Ky : Int) := by unfold wrap64; omega
        have HC := Lib.hid hc; have XD := Lib.hid (And.intro xd xdt); have OWF := Lib.hid (show (Lit.int .i64 ow).wf = true from ow_wf hob); have OB := Lib.hid hob; have WKY := Lib.hid wky
        clear s k0 z hl on hzb hW6 hW7 k6 g6 k7 g7 how hob hr4 hc xd xdt wky d8 i8 o8
        go_upto_region 13 with fail
        rw [← HW6.out, ← HZB.out]
        clear c0 c1 c2 c3
        refine wp_region_held_drew (S := fun Z => Z.heap[zb]? = some (.cells #[.int .u8 D, .int .u8 U, .int .u8 Ky, .int .i64 N] 28 (0, 0))) (by kernel_rfl) (by rw [← HW7.out]; exact G7.out) (fun hHeld => ?_)
        rw [← HW7.out] at hHeld ⊢
        refine wt (i := 0) (v := .pointer (some ⟨a.p, 0, none⟩)) rfl (Or.inl ⟨by rfl, fun V hV => by go_simp⟩) hHeld ?_
        change wpAnyH _ _ _ _ _ _ _ (Act.put _ (some 50) _) _
        simp only [Act.put, List.setIfInBounds_toArray, List.set_cons_zero, List.set_cons_succ]
        refine wt (i := 3) (v := .pointer (some ⟨zb, 1, none⟩)) rfl (Or.inl ⟨by rfl, fun V hV => by go_simp⟩) hHeld ?_
        change wpAnyH _ _ _ _ _ _ _ (Act.put _ (some 53) _) _
        simp only [Act.put, List.setIfInBounds_toArray, List.set_cons_zero, List.set_cons_succ]
        refine wt (i := 4) (v := .int .u8 U) rfl (Or.inl ⟨by rfl, fun V hV => by (obtain ⟨u0, u1, u2, u3⟩ := act_cells hV; go_simp)⟩) hHeld ?_
        change wpAnyH _ _ _ _ _ _ _ (Act.put _ (some 54) _) _
        simp only [Act.put, List.setIfInBounds_toArray, List.set_cons_zero, List.set_cons_succ]
        refine wt (i := 5) (v := .int .u8 (r4 : Nat)) rfl (Or.inl ⟨by rfl, fun V hV => by go_simp⟩) hHeld ?_
        change wpAnyH _ _ _ _ _ _ _ (Act.put _ (some 55) _) _
        simp only [Act.put, List.setIfInBounds_toArray, List.set_cons_zero, List.set_cons_succ]
        refine wt (i := 6) (v := .int .i64 (r4 : Nat)) rfl (Or.inl ⟨by rfl, fun V hV => by go_simp⟩) hHeld ?_
        change wpAnyH _ _ _ _ _ _ _ (Act.put _ (some 56) _) _
        simp only [Act.put, List.setIfInBounds_toArray, List.set_cons_zero, List.set_cons_succ]
        refine wpAnyH_ready (rs := [1]) (by kernel_rfl) (by simp) ?_
        refine AllReadyH.cons (o := _) rfl (fun K hK => ?_) AllReadyH.nil
        go_simp
        go_at_call 17
        refine (knext_any S7.out).mono ?_
        rintro e wz ⟨rfl, hw⟩
        subst hw
        clear hHeld
        go_wp2_with fail
        refine hK.out _ _ G7.out (fun hHeld => ?_)
        clear hK K
        refine wt (i := 2) (v := .int .i64 (st.length : Int)) rfl (Or.inl ⟨by rfl, fun V hV => by go_simp⟩) hHeld ?_
        change wpAnyH _ _ _ _ _ _ _ (Act.put _ (some 52) _) _
        simp only [Act.put, List.setIfInBounds_toArray, List.set_cons_zero, List.set_cons_succ]
        refine wt (i := 7) (v := .int .i64 ow) rfl (Or.inl ⟨by rfl, fun V hV => by go_simp⟩) hHeld ?_
        change wpAnyH _ _ _ _ _ _ _ (Act.put _ (some 57) _) _
        simp only [Act.put, List.setIfInBounds_toArray, List.set_cons_zero, List.set_cons_succ]
        refine wt (i := 8) (v := .int .i64 ow) rfl (Or.inl ⟨by rfl, fun V hV => by go_simp⟩) hHeld ?_
        change wpAnyH _ _ _ _ _ _ _ (Act.put _ (some 9) _) _
        simp only [Act.put, List.setIfInBounds_toArray, List.set_cons_zero, List.set_cons_succ]
        refine wpAnyH_done (by kernel_rfl) ?_ _
        clear hHeld
        clear wst wst2 wow wu4 wu4' xu xut
        obtain ⟨xd, xdt⟩ := XD.out
        obtain ⟨u0, u1, u2, u3⟩ := act_cells G7.out
        rcases HC.out with hc | hc | hc | hc | hc | hc | hc | hc
        · as_aux_lemma =>
            subst hc
            have C8 := Lib.hid (kbegin_any S7.out HSL.out)
            go_wp2_with fail
            refine C8.out.mono ?_
            rintro e w8 ⟨rfl, p⟩
            have L8 := Lib.hid (show Lp W w8 a (i + 1) from ⟨_, q, Kh.mpost K7.out p, Z.out.mono (by omega), by have := begS_len st; have := HL.out; omega, onq_begin ON.out⟩)
            clear p
            clear C8
            clear u0 u1 u2 u3
            go_wp2
            go_roundw
            case rel => exact ⟨i + 1, by go_num, by omega, L8⟩
            case measure => simp [intOf]; omega
        · as_aux_lemma =>
            subst hc
            have C8 := Lib.hid (kbegin_any S7.out HSL.out)
            go_wp2_with fail
            refine C8.out.mono ?_
            rintro e w8 ⟨rfl, p⟩
            have L8 := Lib.hid (show Lp W w8 a (i + 1) from ⟨_, q, Kh.mpost K7.out p, Z.out.mono (by omega), by have := begS_len st; have := HL.out; omega, onq_begin ON.out⟩)
            clear p
            clear C8
            clear u0 u1 u2 u3
            go_wp2
            go_roundw
            case rel => exact ⟨i + 1, by go_num, by omega, L8⟩
            case measure => simp [intOf]; omega
        · as_aux_lemma =>
            subst hc
            have C8 := kstate_any S7.out ow OWF.out
            obtain ⟨sx, hsx⟩ : ∃ sx, sx = stAt st ow := ⟨_, rfl⟩
            rw [← hsx] at C8
            have C8 := Lib.hid C8; have SX := Lib.hid hsx
            clear hsx
            go_wp2_with fail
            refine C8.out.mono ?_
            rintro e w8 ⟨rfl, hw⟩
            subst hw
            clear C8
            by_cases h1 : sx = 1
            · subst h1
              have wky := WKY.out
              have HNX := Lib.hid Z.out.nx
              go_wp2_with fail
              refine (kwri_any S7.out Z.out (Nat.le_trans HI.out (by decide)) ow 0 1 Ky ⟨#[]⟩).mono ?_
              rintro e w9 ⟨rfl, p⟩
              have L9 := Lib.hid (show Lp W w9 a (i + 1) from ⟨st, _, Kh.post S7.out K7.out p, (Z.out.wri (by have := HI.out; omega) OB.out 0 1 Ky ⟨#[]⟩).1, by have := HL.out; omega, ON.out.wri SX.out.symm 0 1 Ky ⟨#[]⟩ (by have := HNX.out; omega) (by have := HNX.out; have := HI.out; omega)⟩)
              clear p u0 u1 u2 u3 wky
              go_wp2
              go_roundw
              case rel => exact ⟨i + 1, by go_num, by omega, L9⟩
              case measure => simp [intOf]; omega
            · have h1' : ((sx : Int) == 1) = false := by rw [beq_eq_false_iff_ne]; omega
              have L9 := Lib.hid (show Lp W W7 a (i + 1) from ⟨st, q, ⟨⟨O, S7.out⟩, K7.out⟩, Z.out.mono (by omega), by have := HL.out; omega, ON.out⟩)
              clear u0 u1 u2 u3
              go_wp2
              go_roundw
              case rel => exact ⟨i + 1, by go_num, by omega, L9⟩
              case measure => simp [intOf]; omega
        · as_aux_lemma =>
            subst hc
            have C8 := kstate_any S7.out ow OWF.out
            obtain ⟨sx, hsx⟩ : ∃ sx, sx = stAt st ow := ⟨_, rfl⟩
            rw [← hsx] at C8
            have C8 := Lib.hid C8; have SX := Lib.hid hsx
            clear hsx
            go_wp2_with fail
            refine C8.out.mono ?_
            rintro e w8 ⟨rfl, hw⟩
            subst hw
            clear C8
            by_cases h1 : sx = 1
            · subst h1
              have wky := WKY.out
              have HNX := Lib.hid Z.out.nx
              go_wp2_with fail
              refine (kwri_any S7.out Z.out (Nat.le_trans HI.out (by decide)) ow 0 1 Ky ⟨#[]⟩).mono ?_
              rintro e w9 ⟨rfl, p⟩
              have L9 := Lib.hid (show Lp W w9 a (i + 1) from ⟨st, _, Kh.post S7.out K7.out p, (Z.out.wri (by have := HI.out; omega) OB.out 0 1 Ky ⟨#[]⟩).1, by have := HL.out; omega, ON.out.wri SX.out.symm 0 1 Ky ⟨#[]⟩ (by have := HNX.out; omega) (by have := HNX.out; have := HI.out; omega)⟩)
              clear p u0 u1 u2 u3 wky
              go_wp2
              go_roundw
              case rel => exact ⟨i + 1, by go_num, by omega, L9⟩
              case measure => simp [intOf]; omega
            · have h1' : ((sx : Int) == 1) = false := by rw [beq_eq_false_iff_ne]; omega
              have L9 := Lib.hid (show Lp W W7 a (i + 1) from ⟨st, q, ⟨⟨O, S7.out⟩, K7.out⟩, Z.out.mono (by omega), by have := HL.out; omega, ON.out⟩)
              clear u0 u1 u2 u3
              go_wp2
              go_roundw
              case rel => exact ⟨i + 1, by go_num, by omega, L9⟩
              case measure => simp [intOf]; omega
        · as_aux_lemma =>
            subst hc
            have C8 := kstate_any S7.out ow OWF.out
            obtain ⟨sx, hsx⟩ : ∃ sx, sx = stAt st ow := ⟨_, rfl⟩
            rw [← hsx] at C8
            have C8 := Lib.hid C8; have SX := Lib.hid hsx
            clear hsx
            go_wp2_with fail
            refine C8.out.mono ?_
            rintro e w8 ⟨rfl, hw⟩
            subst hw
            clear C8
            by_cases h1 : sx = 1
            · subst h1
              have wky := WKY.out
              have HNX := Lib.hid Z.out.nx
              go_wp2_with fail
              refine (kwri_any S7.out Z.out (Nat.le_trans HI.out (by decide)) ow 0 1 Ky ⟨#[]⟩).mono ?_
              rintro e w9 ⟨rfl, p⟩
              have L9 := Lib.hid (show Lp W w9 a (i + 1) from ⟨st, _, Kh.post S7.out K7.out p, (Z.out.wri (by have := HI.out; omega) OB.out 0 1 Ky ⟨#[]⟩).1, by have := HL.out; omega, ON.out.wri SX.out.symm 0 1 Ky ⟨#[]⟩ (by have := HNX.out; omega) (by have := HNX.out; have := HI.out; omega)⟩)
              clear p u0 u1 u2 u3 wky
              go_wp2
              go_roundw
              case rel => exact ⟨i + 1, by go_num, by omega, L9⟩
              case measure => simp [intOf]; omega
            · have h1' : ((sx : Int) == 1) = false := by rw [beq_eq_false_iff_ne]; omega
              have L9 := Lib.hid (show Lp W W7 a (i + 1) from ⟨st, q, ⟨⟨O, S7.out⟩, K7.out⟩, Z.out.mono (by omega), by have := HL.out; omega, ON.out⟩)
              clear u0 u1 u2 u3
              go_wp2
              go_roundw
              case rel => exact ⟨i + 1, by go_num, by omega, L9⟩
              case measure => simp [intOf]; omega
        · as_aux_lemma =>
            subst hc
            have C8 := Lib.hid (kcommit_any S7.out ow OWF.out)
            go_wp2_with fail
            refine C8.out.mono ?_
            rintro e w8 ⟨rfl, p⟩
            have L8 := Lib.hid (show Lp W w8 a (i + 1) from ⟨_, q, Kh.mpost K7.out p, Z.out.mono (by omega), by have := endS_len st ow 2; have := HL.out; omega, ON.out.endS ow⟩)
            clear p
            clear C8
            clear u0 u1 u2 u3
            go_wp2
            go_roundw
            case rel => exact ⟨i + 1, by go_num, by omega, L8⟩
            case measure => simp [intOf]; omega
        · as_aux_lemma =>
            subst hc
            by_cases h1 : stAt st ow = 1
            · have H1 := Lib.hid h1
              have C8 := Lib.hid (show Calls Tryz.prog 22 #[.pointer (some ⟨a.p, 0, none⟩), .int .i64 ow] W7 fun e w' => e = .returned (.int .i64 0) ∧ MPost W7 W.heap.size a (st.set (ow.toNat - 1) 3) q O w' from by have := kabort_any S7.out ow OWF.out; rw [endE, endS, if_pos h1, if_pos h1] at this; exact this)
              clear h1
              go_wp2_with fail
              refine C8.out.mono ?_
              rintro e w8 ⟨rfl, p⟩
              obtain ⟨⟨O8, s8⟩, k8⟩ := Kh.mpost K7.out p
              have S8 := Lib.hid s8; have K8 := Lib.hid k8
              clear p s8 k8 C8 u0 u1 u2 u3
              go_wp2_with fail
              refine (kfrg_any S8.out Z.out (Nat.le_trans HI.out (by decide)) ow).mono ?_
              rintro e w9 ⟨rfl, p⟩
              have L9 := Lib.hid (show Lp W w9 a (i + 1) from ⟨_, _, Kh.post S8.out K8.out p, (Z.out.frg ow).mono (by omega), by rw [List.length_set]; have := HL.out; omega, ON.out.abort H1.out⟩)
              clear p
              go_wp2
              go_roundw
              case rel => exact ⟨i + 1, by go_num, by omega, L9⟩
              case measure => simp [intOf]; omega
            · have C8 := Lib.hid (show Calls Tryz.prog 22 #[.pointer (some ⟨a.p, 0, none⟩), .int .i64 ow] W7 fun e w' => e = .returned (.int .i64 7) ∧ MPost W7 W.heap.size a st q O w' from by have := kabort_any S7.out ow OWF.out; rw [endE, endS, if_neg h1, if_neg h1] at this; exact this)
              clear h1
              go_wp2_with fail
              refine C8.out.mono ?_
              rintro e w8 ⟨rfl, p⟩
              have L9 := Lib.hid (show Lp W w8 a (i + 1) from ⟨st, q, Kh.mpost K7.out p, Z.out.mono (by omega), by have := HL.out; omega, ON.out⟩)
              clear p C8 u0 u1 u2 u3
              go_wp2
              go_roundw
              case rel => exact ⟨i + 1, by go_num, by omega, L9⟩
              case measure => simp [intOf]; omega
        · as_aux_lemma =>
            subst hc
            have C8 := Lib.hid (ktck_any S7.out Z.out (Nat.le_trans HI.out (by decide)) HSL.out 0)
            go_wp2_with fail
            refine C8.out.mono ?_
            rintro e w8 ⟨y8, rfl, -, -, p⟩
            obtain ⟨⟨O8, s8⟩, k8⟩ := Kh.post S7.out K7.out p
            have S8 := Lib.hid s8; have K8 := Lib.hid k8
            have Z8 := Lib.hid (show SzQ (i + 1 + 1) (tckQ q ((st.length : Int) + 1) (opens st) 0) from Z.out.tck 0 (by have := HSL.out; omega) (Nat.le_trans (opens_le st) HSL.out))
            clear p s8 k8 u0 u1 u2 u3
            clear C8
            go_wp2_with fail
            refine (krot_any S8.out Z8.out (by have := HI.out; omega)).mono ?_
            rintro e w9 ⟨rfl, p⟩
            have L9 := Lib.hid (show Lp W w9 a (i + 1) from ⟨st, _, Kh.post S8.out K8.out p, Z8.out.rot st, by have := HL.out; omega, (ON.out.tck HSL.out).rot⟩)
            clear p
            go_wp2
            go_roundw
            case rel => exact ⟨i + 1, by go_num, by omega, L9⟩
            case measure => simp [intOf]; omega
      · have x1 : ¬ (i : Int) < (len : Int) := by omega
        as_aux_lemma =>
          obtain ⟨st, q, ⟨⟨O, s⟩, k0⟩, z, hl, on⟩ := BE.out
          have S := Lib.hid s; have K0 := Lib.hid k0; have Z := Lib.hid z; have ON := Lib.hid on; have HI := Lib.hid (show i ≤ 100 by omega); have HSL := Lib.hid (show st.length ≤ 1000 by omega)
          clear s k0 z hl on
          go_wp2_with fail
          refine (know_any S.out).mono ?_
          rintro e w6 ⟨va, vc, rfl, rd, p⟩
          obtain ⟨l, hl⟩ : ∃ l, l = opens st := ⟨_, rfl⟩
          rw [← hl] at rd ⊢
          have ST := Lib.hid (show ∃ O, KS w6 W.heap.size a (comS st (l.take 0)) q O ∧ Kept W w6 [] ∧ RdT w6 (.slice va l.length vc) l from ⟨O, S.out.keep p, K0.out.trans p (by simp), rd⟩)
          have FD : ∀ w, (Instr.field 36 (.agg #[.int .i64 ((st.length : Int) + 1), .slice va l.length vc]) 1).run Tryz.prog w = .ok (.slice va l.length vc) w := fun _ => by kernel_rfl
          have HLO := Lib.hid hl
          have hl6 : l.length ≤ 1000 := by rw [hl]; exact Nat.le_trans (opens_le st) HSL.out
          clear p rd hl S K0
          go_wp2
          go_loopw [11] (fun s11 wr => ∃ j : Nat, s11 = .int .i64 j ∧ j ≤ l.length ∧ Hid (∃ O, KS wr W.heap.size a (comS st (l.take j)) q O ∧ Kept W wr [] ∧ RdT wr (.slice va l.length vc) l)) (fun s11 _ => l.length - (intOf s11).toNat)
          case atStart => exact ⟨0, rfl, Nat.zero_le _, ST⟩
          case round =>
            obtain ⟨j, rfl, hj, SJ⟩ := hrel
            by_cases hlj : j < l.length
            · have x2 : (j : Int) < (l.length : Int) := by omega
              obtain ⟨x, hx⟩ : ∃ x, l[j]? = some x := ⟨_, List.getElem?_eq_getElem hlj⟩
              obtain ⟨O2, s2, k2, rd2⟩ := SJ.out
              obtain ⟨g, o, eg, cx⟩ := RdI.num rd2.1 hx
              subst eg
              have hxo := opens_in (st := st) (x := x) (by have := List.mem_of_getElem? hx; rw [HLO.out] at this; exact this)
              have C8 := Lib.hid (kcommit_any s2 x (wf_i64 (by have := HSL.out; omega))); have K2 := Lib.hid k2; have RD := Lib.hid rd2; have HX := Lib.hid hx
              clear s2 k2 rd2 hx hxo
              go_wp2_with fail
              refine C8.out.mono ?_
              rintro e w8 ⟨rfl, p⟩
              have S8 := Lib.hid (show ∃ O, KS w8 W.heap.size a (comS st (l.take (j + 1))) q O ∧ Kept W w8 [] ∧ RdT w8 (.slice (some ⟨g, o, none⟩) l.length vc) l from by rw [comS_take HX.out]; exact ⟨O2, p.1, (Kh.mpost K2.out p).2, RD.out.fo p.2.fo (off_noI (by decide))⟩)
              clear p C8 cx
              go_wp2
              go_roundw
              case rel => exact ⟨j + 1, by go_num, by omega, S8⟩
              case measure => simp [intOf]; omega
            · obtain rfl : j = l.length := by omega
              have x2 : ¬ (l.length : Int) < (l.length : Int) := by omega
              obtain ⟨O2, s2, k2, -⟩ := SJ.out
              rw [List.take_length] at s2
              obtain ⟨st2, hst2⟩ : ∃ s, s = comS st l := ⟨_, rfl⟩
              rw [← hst2] at s2
              have ON2 := Lib.hid (show OnQ qa st2 q from by rw [hst2]; exact OnQ.comS l ON.out)
              have OP2 := Lib.hid (show opens st2 = [] from by rw [hst2, HLO.out]; exact opens_com st)
              have HS2 := Lib.hid (show st2.length ≤ 1000 from by rw [hst2, comS_len]; exact HSL.out)
              have S2 := Lib.hid s2; have K2 := Lib.hid k2; have HI2 := Lib.hid (show i + 1 ≤ 1000 by have := HI.out; omega)
              clear s2 k2 hst2 SJ HSL HLO ON HI
              go_wp2_with fail
              refine (kspools_any S2.out).mono ?_
              rintro e wx ⟨rfl, hw⟩
              have hw2 := hw.symm; clear hw; subst hw2
              go_wp2_with fail
              refine (ksall1_any S2.out Z.out HI2.out).mono ?_
              rintro e w5 ⟨vb, rfl, rb, p⟩
              obtain ⟨L, hL⟩ : ∃ L, L = allE q := ⟨_, rfl⟩
              have rb : RdE w5 vb L := by rw [hL]; exact rb
              obtain ⟨ub, cb, eb⟩ := rb.shape3
              subst eb
              have hll : L.length ≤ 16000 := by have := Z.out.all.1; rw [← hL] at this; have := HI2.out; omega
              have S5 := Lib.hid (S2.out.keep p); have K5 := Lib.hid (K2.out.trans p (by simp)); have RB := Lib.hid rb; have HLL := Lib.hid hL
              obtain ⟨i0, hi0, hz0, hz1, hzb⟩ := info_parts Tryz.infoI
              have I := Lib.hid (And.intro hi0 (And.intro hz0 (And.intro hz1 hzb)))
              clear p rb hL hi0 hz0 hz1 hzb S2 K2
              go_wp2
              go_loopw [5, 13] (fun s5 s13 wr => ∃ j : Nat, s13 = .int .i64 j ∧ j ≤ L.length ∧ Hid (wr.ownsRow w5.heap.size 2 1 s5 j (ic ((L.take j).map Ev.id)) ∧ Fr w5.heap.size [2] w5 wr)) (fun _ s13 _ => L.length - (intOf s13).toNat)
              case atStart => exact ⟨0, rfl, Nat.zero_le _, Lib.hid ⟨World.ownsRow_nil _ _ _ _, Fr.refl _ _ _⟩⟩
              case round =>
                obtain ⟨j, rfl, hj, OJ⟩ := hrel
                have KJ := Lib.hid ((Fm.ofFr OJ.out.2).kept (Nat.le_refl _))
                obtain ⟨ud, cd, ed⟩ := ownsRow_shape OJ.out.1
                subst ed
                by_cases hlj : j < L.length
                · have x2 : (j : Int) < (L.length : Int) := by omega
                  obtain ⟨x, hx⟩ : ∃ x, L[j]? = some x := ⟨_, List.getElem?_eq_getElem hlj⟩
                  obtain ⟨g, o, eg, s0, -⟩ := (RB.out.kept KJ.out (by simp)).eight hx
                  subst eg
                  have ID := Lib.hid (ids_take hx)
                  obtain ⟨ie, hie⟩ : ∃ ie, ie = x.id := ⟨_, rfl⟩
                  rw [← hie] at s0 ID
                  clear hx hie
                  go_wp2_with (at_builtin; refine wpList_append_fr _ rfl (.tmp 123) (.tmp 129) 34 34 rfl w5.heap.size 2 i0 (.int .i64 0) 1 8 Tryz.underlying34 I.out.1 I.out.2.1 I.out.2.2.1 I.out.2.2.2 rfl _ j (ic ((L.take j).map Ev.id)) rfl ?hown _ 1 [.int .i64 ie] rfl (src_one Tryz.underlying34 wr _ rfl _) ?b1 ?b2 ?base ?next)
                  case hown => exact ownsRow_fr OJ.out.1 ((Fr.refl 0 [] wr).alloc _) (by simp)
                  case b1 => unfold maxLen; omega
                  case b2 => omega
                  case base => have := OJ.out.2.size; simp; omega
                  case next =>
                    intro v2 w2 ho2 hf2 _
                    have O2 := Lib.hid (show w2.ownsRow w5.heap.size 2 1 v2 (j + 1) (ic ((L.take (j + 1)).map Ev.id)) ∧ Fr w5.heap.size [2] w5 w2 from ⟨by rw [ID.out, ic, List.map_append]; have h3 := ho2; first | exact h3 | (rw [← List.map_take] at h3; exact h3), (OJ.out.2.trans ((Fr.refl _ _ wr).alloc _)).trans hf2⟩)
                    clear ho2 hf2 s0
                    go_wp2
                    go_roundw
                    case rel => exact ⟨j + 1, by go_num, by omega, O2⟩
                    case measure => simp [intOf]; omega
                · obtain rfl : j = L.length := by omega
                  have x2 : ¬ (L.length : Int) < (L.length : Int) := by omega
                  rw [List.take_length] at OJ
                  obtain ⟨DI, hDI⟩ : ∃ d, d = L.map Ev.id := ⟨_, rfl⟩
                  have DL := Lib.hid (show L.length = DI.length by rw [hDI, List.length_map])
                  have OD := Lib.hid (show wr.ownsRow w5.heap.size 2 1 (.slice ud L.length cd) DI.length (ic DI) from by rw [← DL.out, hDI]; exact OJ.out.1)
                  have HDI := Lib.hid (show DI = (allE q).map Ev.id by rw [hDI, HLL.out])
                  have S6 := Lib.hid (S5.out.keep KJ.out); have K6 := Lib.hid (K5.out.trans KJ.out (by simp))
                  obtain ⟨wd, hwd⟩ : ∃ w, w = wr := ⟨_, rfl⟩
                  subst hwd
                  clear hDI OJ S5 K5 RB HLL
                  have C7 := ktrm_any S6.out Z.out HI2.out
                  rw [ON2.out.trm.1, ON2.out.trm.2] at C7
                  have C7 := Lib.hid C7
                  go_wp2_with fail
                  refine C7.out.mono ?_
                  rintro e w7 ⟨rfl, p⟩
                  obtain ⟨⟨O7, s7⟩, k7⟩ := Kh.post S6.out K6.out p
                  have S7 := Lib.hid s7; have K7 := Lib.hid k7
                  obtain ⟨O7b, s7b, t7⟩ := p
                  have D7 := Lib.hid (S6.out.row t7 OD.out)
                  clear s7 k7 s7b t7 C7 S6 K6 OD
                  obtain ⟨E, hE⟩ : ∃ E, E = addE q.ps ((st2.length : Int) + 1) (opens st2) 0 := ⟨_, rfl⟩
                  have C8 := ktck_any S7.out Z.out HI2.out HS2.out 0
                  rw [← hE] at C8
                  obtain ⟨r, hr⟩ : ∃ r, r = tckQ q ((st2.length : Int) + 1) (opens st2) 0 := ⟨_, rfl⟩
                  rw [← hr] at C8
                  have C8 := Lib.hid C8; have HE := Lib.hid hE; have HR := Lib.hid hr
                  have ZR := Lib.hid (show SzQ (i + 1 + 1) r from by rw [hr]; exact Z.out.tck 0 (by have := HS2.out; omega) (Nat.le_trans (opens_le st2) HS2.out))
                  clear hE hr
                  go_wp2_with fail
                  refine C8.out.mono ?_
                  rintro e w8 ⟨y, rfl, -, -, p⟩
                  obtain ⟨y0, y1, y2, y3, y4, y5⟩ := y
                  simp only [Tk.cs] at *
                  obtain ⟨w9, hw9⟩ : ∃ w, w = w8.alloc (.cells #[.int .i64 y0, .int .i64 y1, .slice y2 y4.length y3, .int .i64 y5] 38) := ⟨_, rfl⟩
                  have k9 : Kept w8 w9 [] := by rw [hw9]; exact (Kept.refl w8 []).alloc _
                  obtain ⟨⟨O8, s8⟩, k8⟩ := Kh.post S7.out K7.out p
                  obtain ⟨O8b, s8b, t8⟩ := p
                  have S9 := Lib.hid (s8.keep k9); have K9 := Lib.hid (k8.trans k9 (by simp)); have D9 := Lib.hid (ownsRow_fo (S7.out.row t8 D7.out) (Fo.ofKept k9 (fun _ => False)) (fun _ _ h => h))
                  have HW9 := Lib.hid hw9
                  clear s8 k8 s8b t8 k9 hw9 C8 S7 K7 D7
                  by_cases h64 : 64 ≤ q.ps.length
                  · have e8 : E = 8 := by rw [HE.out, ON2.out.tckE, if_pos h64]
                    subst e8
                    go_wp2
                    rw [← HW9.out]
                    go_loopw [6] (fun s6 wr => w9 = wr) (fun _ _ => 0)
                    case atStart => rfl
                    case round =>
                      subst hrel
                      go_wp2
                      go_ret
                      exact ⟨rfl, K9.out.below (Nat.le_refl _) (by simp)⟩
                  · have e8 : E = 0 := by rw [HE.out, ON2.out.tckE, if_neg h64]
                    have OF := Lib.hid (once_facts ON2.out HS2.out OP2.out (by rw [← HE.out]; exact e8) HR.out)
                    subst e8
                    clear HE HR
                    have TL := Lib.hid (show Tl W w9 a st2 (lpQ qa r 0) w9.heap.size w5.heap.size (.slice ud L.length cd) (.slice none 0 0) DI [] from ⟨⟨O8, by rw [← OF.out.2.1]; exact S9.out.kx⟩, K9.out, World.ownsRow_nil _ _ _ _, ⟨D9.out, fun k hk => (World.ownsRow.lt D9.out k hk).2⟩, K9.out.size, Nat.le_refl _⟩)
                    have ZL := Lib.hid (show SzQ (i + 2) (lpQ qa r 0) from by rw [← OF.out.2.1]; exact ZR.out)
                    have RI := Lib.hid OF.out.1.ok
                    have hql : q.ps.length < 64 := by omega
                    have hrl : r.ps.length ≤ 64 := RI.out.okp.size
                    obtain ⟨nt, hnt⟩ : ∃ n, n = r.ps.length := ⟨_, rfl⟩
                    have nt2 : 2 ≤ nt := by rw [hnt]; exact OF.out.2.2.1
                    have HNT := Lib.hid hnt
                    have hnt64 : nt ≤ 64 := by omega
                    clear hnt hql hrl h64 S9 K9 D9 ON2 OP2 ZR
                    go_wp2
                    rw [← HW9.out]
                    go_loopg [6] (nt + 1) (fun kx s6 wr => ∃ k : Nat, k + 1 ≤ nt ∧ nt - k ≤ kx ∧ Hid (Tl W wr a st2 (lpQ qa r k) w9.heap.size w5.heap.size (.slice ud L.length cd) s6 DI ((tolB st2 qa (allE r) (ptAt r) k).map Ev.id)) ∧ Hid (SzQ (i + 2) (lpQ qa r k)))
                    case atStart => exact ⟨0, by omega, by omega, TL, ZL⟩
                    case round =>
                      obtain ⟨k, hk, hkx, TK, ZK⟩ := hrel
                      obtain ⟨ut, ct, et⟩ := ownsRow_shape TK.out.2.2.1
                      subst et
                      obtain ⟨OK, kx9, fk⟩ := TK.out.c
                      obtain ⟨NE, hNE⟩ : ∃ x, x = nxtE (lpQ qa r k) qa := ⟨_, rfl⟩
                      have CN := kxnxt_any kx9 ZK.out qa
                      rw [← hNE] at CN
                      have NX := Lib.hid (show NE = if k + 1 < nt then 0 else 9 from by rw [hNE, HNT.out]; exact lp_nxtE RI.out.rise (by have := HNT.out; omega))
                      obtain ⟨NQ, hNQ⟩ : ∃ x, x = nxtQ (lpQ qa r k) qa := ⟨_, rfl⟩
                      rw [← hNQ] at CN
                      have ZN := Lib.hid (show SzQ (i + 2) NQ from by rw [hNQ]; exact ZK.out.nxt qa)
                      have HNQ := Lib.hid hNQ; have CNX := Lib.hid CN; have FK := Lib.hid fk
                      clear CN hNE hNQ kx9 fk
                      go_wp2_with fail
                      refine CNX.out.mono ?_
                      rintro e w10 ⟨z, rfl, -, -, p⟩
                      obtain ⟨z0, z1, z2, z3, z4, z5⟩ := z
                      simp only [Tk.cs] at *
                      obtain ⟨w11, hw11⟩ : ∃ w, w = w10.alloc (.cells #[.int .i64 z0, .int .i64 z1, .slice z2 z4.length z3, .int .i64 z5] 38) := ⟨_, rfl⟩
                      have k11 : Kept w10 w11 [] := by rw [hw11]; exact (Kept.refl w10 []).alloc _
                      have T11 := Lib.hid ((FK.out _ _ p).keep k11); have HW11 := Lib.hid hw11
                      clear p k11 hw11 CNX FK
                      by_cases hkn : k + 1 < nt
                      · have e9 : NE = 0 := by rw [NX.out, if_pos hkn]
                        subst e9
                        have NQ2 := Lib.hid (show NQ = lpO qa r k from by rw [HNQ.out]; exact lp_nxtQ RI.out.rise (by have := HNT.out; omega))
                        obtain ⟨⟨O11, kx11⟩, -⟩ := id T11.out
                        have CB := kbat_any kx11.ks ZN.out (by have := HI2.out; omega) qa
                        obtain ⟨lb1, lb2⟩ := lp_batch (st := st2) (nm := qa) RI.out.rise RI.out.pos (k := k) (by have := HNT.out; omega)
                        rw [← NQ2.out] at lb1 lb2
                        have hbl := (ZN.out.bat st2 qa).1
                        rw [lb1, lb2] at CB
                        rw [lb2] at hbl
                        obtain ⟨b, hb⟩ : ∃ b, b = oneB st2 qa (allE r) (ptAt r k) (ptAt r (k + 1)) := ⟨_, rfl⟩
                        rw [← hb] at CB hbl
                        have CBB := Lib.hid CB
                        have BM := Lib.hid (show ∀ e ∈ b, stAt st2 e.tx = 2 from fun e he => by rw [hb] at he; exact (oneB_mem he).2)
                        have TB := Lib.hid (show tolB st2 qa (allE r) (ptAt r) (k + 1) = tolB st2 qa (allE r) (ptAt r) k ++ b from by rw [hb]; rfl)
                        have EW := Lib.hid (show ∀ e ∈ b, EvW e from fun e he => by rw [hb] at he; exact (ZN.out.bat st2 qa).2 e (by rw [lb2]; exact he))
                        have hbl2 : b.length ≤ 16000 := by have := HI2.out; omega
                        have TLEN := Lib.hid (tol_bound (st := st2) (nm := qa) (P := ptAt r) (k := k) (show (allE r).length ≤ 16000 by rw [OF.out.2.2.2.1, ← List.length_map (f := Ev.id), ← HDI.out, ← DL.out]; exact hll) (by omega))
                        clear CB lb1 lb2 hb hbl kx11
                        go_wp2_with fail
                        rw [← HW11.out]
                        refine CBB.out.mono ?_
                        rintro e w12 ⟨vb2, rfl, ob2, p⟩
                        have T12 := Lib.hid (T11.out.keep p)
                        obtain ⟨ue, ce, ee⟩ := ob2.rd.shape3
                        subst ee
                        have OB2 := Lib.hid ob2
                        clear p ob2 CBB T11
                        obtain ⟨T, hT⟩ : ∃ T, T = (tolB st2 qa (allE r) (ptAt r) k).map Ev.id := ⟨_, rfl⟩
                        rw [← hT] at T12 TLEN ⊢
                        have TN := Lib.hid (show (tolB st2 qa (allE r) (ptAt r) (k + 1)).map Ev.id = T ++ b.map Ev.id from by rw [TB.out, List.map_append, hT])
                        clear hT TK
                        have tl0 : T.length = (T ++ (b.take 0).map Ev.id).length := by simp
                        rw [tl0]
                        go_wp2
                        go_loopw [6, 20] (fun s6 s20 wr => ∃ j : Nat, s20 = .int .i64 j ∧ j ≤ b.length ∧ Hid (Tl W wr a st2 NQ w9.heap.size w5.heap.size (.slice ud L.length cd) s6 DI (T ++ (b.take j).map Ev.id)) ∧ Hid (OwnE wr w11.heap.size 50 (.slice ue b.length ce) b)) (fun _ s20 _ => b.length - (intOf s20).toNat)
                        case atStart => exact ⟨0, rfl, Nat.zero_le _, by simpa using T12, OB2⟩
                        case round =>
                          obtain ⟨j, rfl, hj5, TJ, OJ⟩ := hrel
                          obtain ⟨uj, cj, ej⟩ := ownsRow_shape TJ.out.2.2.1
                          subst ej
                          by_cases hl5 : j < b.length
                          · have x5 : (j : Int) < (b.length : Int) := by omega
                            obtain ⟨x, hx⟩ : ∃ x, b[j]? = some x := ⟨_, List.getElem?_eq_getElem hl5⟩
                            have BX := Lib.hid (BM.out x (List.mem_of_getElem? hx)); have EX := Lib.hid (EW.out x (List.mem_of_getElem? hx)).wf
                            obtain ⟨g, o, eg, s0, -⟩ := OJ.out.rd.eight hx
                            subst eg
                            have ID := Lib.hid (show T ++ (b.take (j + 1)).map Ev.id = (T ++ (b.take j).map Ev.id) ++ [x.id] from by rw [ids_take hx, List.append_assoc])
                            have HX := Lib.hid hx
                            obtain ⟨ie, hie⟩ : ∃ ie, ie = x.id := ⟨_, rfl⟩
                            rw [← hie] at s0 ID
                            clear hx hie
                            obtain ⟨TJL, hTJ⟩ : ∃ l, l = T ++ (b.take j).map Ev.id := ⟨_, rfl⟩
                            rw [← hTJ] at TJ ID ⊢
                            have htj : TJL.length ≤ 2000000 := by rw [hTJ, List.length_append, ids_len b (by omega)]; have := TLEN.out; omega
                            clear hTJ
                            go_wp2_with (at_builtin; refine wpList_append_fr _ rfl (.tmp 158) (.tmp 164) 34 34 rfl w9.heap.size 2 i0 (.int .i64 0) 1 8 Tryz.underlying34 I.out.1 I.out.2.1 I.out.2.2.1 I.out.2.2.2 rfl _ TJL.length (ic TJL) rfl ?hown _ 1 [.int .i64 ie] rfl (src_one Tryz.underlying34 wr _ rfl _) ?b1 ?b2 ?base ?next)
                            case hown => exact ownsRow_fr TJ.out.2.2.1 ((Fr.refl 0 [] wr).alloc _) (by simp)
                            case b1 => unfold maxLen; omega
                            case b2 => omega
                            case base => have := TJ.out.2.2.2.2.2; simp; omega
                            case next =>
                              intro v2 w2 ho2 hf2 hg2
                              have ka : Kept wr (wr.alloc (.cells #[.int .i64 ie] 2)) [] := (Kept.refl wr []).alloc _
                              have ho3 : w2.ownsRow w9.heap.size 2 1 v2 (TJL ++ [ie]).length (ic (TJL ++ [ie])) := by rw [List.length_append, ic, List.map_append]; exact ho2
                              have T2 := Lib.hid ((TJ.out.keep ka).add hg2 ho3); have OE2 := Lib.hid ((TJ.out.keep ka).ev hg2 (ownsRow_fo OJ.out (Fo.ofKept ka (fun _ => False)) (fun _ _ h => h)))
                              obtain ⟨u2, c2x, e2x⟩ := ownsRow_shape ho3
                              subst e2x
                              clear ho2 hf2 hg2 ka ho3 s0
                              obtain ⟨g2, o2, eg2, -, s1, -⟩ := (show OwnE w2 w11.heap.size 50 (.slice (some ⟨g, o, none⟩) b.length ce) b from OE2.out).rd.eight HX.out
                              simp only [Option.some.injEq, Addr.mk.injEq, and_true] at eg2
                              obtain ⟨rfl, rfl⟩ := eg2
                              obtain ⟨⟨O2, kx2⟩, -⟩ := id T2.out
                              have CS := kstate_any kx2.ks x.tx EX.out
                              rw [BX.out] at CS
                              have CSS := Lib.hid CS
                              obtain ⟨tx, htx⟩ : ∃ t, t = x.tx := ⟨_, rfl⟩
                              rw [← htx] at s1 CSS
                              clear CS kx2 htx
                              go_wp2_with fail
                              refine CSS.out.mono ?_
                              rintro e wz ⟨rfl, hw⟩
                              subst hw
                              clear s1 CSS
                              rw [← ID.out] at T2 ⊢
                              go_wp2
                              go_roundw
                              case rel => exact ⟨j + 1, by go_num, by omega, by first | exact T2 | (rw [show (T ++ (b.take (j + 1)).map Ev.id).length = (T ++ (b.take 0).map Ev.id).length + min (j + 1) b.length by simp] at T2; exact T2), OE2⟩
                              case measure => simp [intOf]; omega
                          · have x5 : ¬ (j : Int) < (b.length : Int) := by omega
                            obtain rfl : j = b.length := by omega
                            have TJ2 := Lib.hid (show Tl W wr a st2 NQ w9.heap.size w5.heap.size (.slice ud L.length cd) (.slice uj (T ++ (b.take b.length).map Ev.id).length cj) DI ((tolB st2 qa (allE r) (ptAt r) (k + 1)).map Ev.id) from by rw [TN.out]; have := TJ.out; rw [List.take_length] at this ⊢; exact this)
                            obtain ⟨O5, kx5, f5⟩ := TJ2.out.c
                            have CF := Lib.hid (kxfns_any kx5 ZN.out qa); have F5 := Lib.hid f5
                            clear kx5 f5 TJ
                            go_wp2_with fail
                            refine CF.out.mono ?_
                            rintro e w13 ⟨rfl, p⟩
                            have FQ := Lib.hid (show fnsQ NQ qa = lpQ qa r (k + 1) from by rw [NQ2.out]; exact lp_fin RI.out.pos (by have := HNT.out; omega))
                            have T13 := F5.out _ _ p
                            rw [FQ.out] at T13
                            have T14 := Lib.hid T13
                            have Z14 := Lib.hid (show SzQ (i + 2) (lpQ qa r (k + 1)) from by rw [← FQ.out]; exact ZN.out.fns qa)
                            clear T13 p CF F5
                            go_wp2
                            go_roundg (nt - (k + 1))
                            case measure => omega
                            case rel => exact ⟨k + 1, by omega, by omega, by first | exact T14 | (rw [show (T ++ (b.take b.length).map Ev.id).length = (T ++ (b.take 0).map Ev.id).length + b.length by simp] at T14; exact T14), Z14⟩
                      · have e9 : NE = 9 := by rw [NX.out, if_neg hkn]
                        subst e9
                        obtain rfl : nt = k + 1 := by omega
                        have TT := Lib.hid (show k = r.ps.length - 1 from by have := HNT.out; omega)
                        have CT := Lib.hid (show ∀ x ∈ DI, cntI ((tolB st2 qa (allE r) (ptAt r) k).map Ev.id) x = 1 from by rw [HDI.out, TT.out]; exact OF.out.2.2.2.2.1)
                        have LT := Lib.hid (show ((tolB st2 qa (allE r) (ptAt r) k).map Ev.id).length = DI.length from by rw [HDI.out, TT.out]; exact OF.out.2.2.2.2.2)
                        obtain ⟨T, hT⟩ : ∃ T, T = (tolB st2 qa (allE r) (ptAt r) k).map Ev.id := ⟨_, rfl⟩
                        rw [← hT] at T11 CT LT ⊢
                        rw [← hT] at TK
                        obtain ⟨-, k12, o12, ⟨d12, -⟩, -, -⟩ := T11.out
                        have K12 := Lib.hid k12; have RT := Lib.hid (owns_rdI o12); have RD := Lib.hid (owns_rdI d12)
                        clear k12 o12 d12 hT OF TK ZK ZN HNQ NX TT
                        have hdl : L.length = DI.length := DL.out
                        have hdl2 : DI.length ≤ 16000 := by omega
                        have htl : T.length = DI.length := LT.out
                        go_wp2
                        rw [← HW11.out]
                        go_loopw [21] (fun s21 wr => ∃ j : Nat, s21 = .int .i64 j ∧ j ≤ DI.length ∧ Hid (Kept w11 wr [])) (fun s21 _ => DI.length - (intOf s21).toNat)
                        case atStart => exact ⟨0, rfl, Nat.zero_le _, Lib.hid (Kept.refl _ _)⟩
                        case round =>
                          obtain ⟨j, rfl, hj6, KJ6⟩ := hrel
                          by_cases hl6j : j < DI.length
                          · have x6 : (j : Int) < (L.length : Int) := by omega
                            obtain ⟨d, hd⟩ : ∃ d, DI[j]? = some d := ⟨_, List.getElem?_eq_getElem hl6j⟩
                            have ONE := Lib.hid (CT.out d (List.mem_of_getElem? hd))
                            obtain ⟨gd, od, egd, -⟩ := RdI.num RD.out hd
                            subst egd
                            have CD := Lib.hid (fun (V : World) (hV : Kept w11 V []) => by obtain ⟨g, o, e, h⟩ := RdI.num (RdI.keep RD.out hV) hd; simp only [Option.some.injEq, Addr.mk.injEq] at e; obtain ⟨rfl, rfl, -⟩ := e; exact h)
                            clear hd
                            go_wp2
                            go_loopw [22, 23] (fun s22 s23 wr => ∃ t : Nat, s23 = .int .i64 t ∧ t ≤ T.length ∧ s22 = .int .i64 ((cntI (T.take t) d : Nat) : Int) ∧ Hid (Kept w11 wr [])) (fun _ s23 _ => T.length - (intOf s23).toNat)
                            case atStart => exact ⟨0, rfl, Nat.zero_le _, rfl, KJ6⟩
                            case round =>
                              obtain ⟨t, rfl, ht7, rfl, KT⟩ := hrel
                              have hcl := cntI_le T t d
                              by_cases hl7 : t < T.length
                              · have x7 : (t : Int) < (T.length : Int) := by omega
                                obtain ⟨x, hx⟩ : ∃ x, T[t]? = some x := ⟨_, List.getElem?_eq_getElem hl7⟩
                                obtain ⟨gt, ot, egt, cx⟩ := RdI.num (RdI.keep RT.out KT.out) hx
                                subst egt
                                have cd := CD.out wr KT.out
                                have CS := Lib.hid (cntI_step (y := d) hx)
                                obtain ⟨n, hn⟩ : ∃ n, n = cntI (T.take t) d := ⟨_, rfl⟩
                                rw [← hn] at CS hcl ⊢
                                have KD := Lib.hid KT.out.drew
                                clear hx hn
                                by_cases he : x = d
                                · subst he
                                  have CS2 := Lib.hid (show cntI (T.take (t + 1)) x = n + 1 from by have := CS.out; rw [if_pos rfl] at this; exact this)
                                  go_upto_region 62 with fail
                                  go_region
                                  go_wp2
                                  go_roundw
                                  case rel => exact ⟨t + 1, by go_num, by omega, by rw [CS2.out]; go_num, KD⟩
                                  case measure => simp [intOf]; omega
                                · have he2 : (x == d) = false := by rw [beq_eq_false_iff_ne]; exact he
                                  have CS2 := Lib.hid (show cntI (T.take (t + 1)) d = n from by have := CS.out; rw [if_neg he] at this; exact this)
                                  go_upto_region 62 with fail
                                  go_region
                                  go_wp2
                                  go_roundw
                                  case rel => exact ⟨t + 1, by go_num, by omega, by rw [CS2.out], KD⟩
                                  case measure => simp [intOf]; omega
                              · have x7 : ¬ (t : Int) < (T.length : Int) := by omega
                                obtain rfl : t = T.length := by omega
                                have h1 : cntI (T.take T.length) d = 1 := by rw [List.take_length]; exact ONE.out
                                rw [h1]
                                go_wp2
                                go_roundw
                                case rel => exact ⟨j + 1, by go_num, by omega, KT⟩
                                case measure => simp [intOf]; omega
                          · have x6 : ¬ (j : Int) < (L.length : Int) := by omega
                            go_wp2
                            go_ret
                            exact ⟨by first | (simp; done) | (simp; omega), (K12.out.trans KJ6.out (by simp)).below (Nat.le_refl _) (by simp)⟩

set_option maxRecDepth 100000 in
theorem lifted (os : Os) (started : os.Started) (H : Type) (enc : TypeId × Value → H) :
    ReturnsInHanded {} Tryz.checked os 4 .any (Rows.queueOnceSpec.pre6 enc Tryz.prog Tryz.f4 Rows.queueOnceRow.domain false) (Rows.queueOnceSpec.post enc Tryz.prog Tryz.f4 false true false false) := by
  refine returnsInHanded_of_change (C := Tryz.checked) own started (by kernel_rfl) Tryz.func4
    (ChangeSpec.witness6 (enc := enc) (C := Tryz.checked) false ⟨#[], #[.slice none 0 0], []⟩ 8 (by kernel_rfl) (by kernel_rfl) (by kernel_rfl) (by kernel_rfl)) ?_
  intro W base args ds gs before hval0 hW hcnd _
  have hval : ∀ (j : Nat) t v, Tryz.f4.params[j]? = some t → args[j]? = some v → Value.okWide Tryz.prog W .any base t v := hval0
  have hW' := hW
  obtain ⟨p, q, hA0, hV, rfl, hfz, hnd⟩ := hW
  have hA : DataW.TrodAll enc Tryz.prog W 0 (fun _ => true) true Tryz.f4.params.toList args.toList ds p := hA0
  rw [Tryz.params4] at hA hval
  obtain ⟨v0, vs0, d0, ds0, p0, q0, hargs, rfl, rfl, h0, r0⟩ := trodAll_cons hA
  obtain ⟨rfl, rfl, rfl⟩ := trodAll_nil r0
  obtain rfl : args = #[v0] := by cases args; simp_all
  obtain ⟨rfl, rfl⟩ := trodVars_none hV
  obtain ⟨a0, len0, cap0, rfl⟩ := okWide_slice Tryz.underlying22 (hval 0 22 v0 rfl rfl)
  have k0 := h0
  have lt0 : ∀ x ∈ p0, x.block < W.heap.size := by obtain ⟨m, hm⟩ := k0; exact DataW.trod_lt m _ _ _ hm
  obtain ⟨z0, w0⟩ : ∃ f, IsActsQ W W.heap.size a0 len0 f ∧ len0 ≤ maxLen := by
    obtain ⟨fuel, hf⟩ := h0
    exact actsq_open (by simpa [Value.cells] using hf)
  clear hA0 hval0
  refine (walk a0 len0 cap0 z0 W w0).mono fun e W' ⟨he, bel⟩ => ?_
  subst he
  exact ⟨_, rfl, _, _, _, [], _, [], hW', trodAll_mk1 (shut_bool Tryz.underlying4 _), (trodAll_cons_mk (Below.trod laidOut (by kernel_rfl) (of_decide_eq_true (by kernel_rfl)) k0 bel lt0) trodAll_mk0), rfl, bel.frame _, fun h => by cases h⟩

theorem over : Rows.queueOnceRow.holds Tryz.pinned (OpenSpec.ofChange Rows.queueOnceSpec) :=
  OpenClaim.holds_of_wide 4 Tryz.f4 rfl rfl rfl rfl rfl rfl rfl ⟨rfl, rfl, rfl, rfl, rfl⟩ rfl rfl rfl rfl rfl (by kernel_rfl) Tryz.func4 (by kernel_rfl)
    (of_decide_eq_true (by kernel_rfl)) (by unfold Func.isWrapper; first | (rw [if_pos (by decide +kernel)]; kernel_rfl) | (rw [if_neg (by decide +kernel)]; exact ⟨rfl, rfl⟩))
    (fun os started H enc _ => lifted os started H enc)

theorem proved : Rows.QueueOnceSaid :=
  over
end Go.Proofs.YticiofkiffgclaaGreat.queueOnce

namespace Go.Proofs.YticiofkiffgclaaGreat
theorem queueOnce_holds : Rows.QueueOnceSaid := queueOnce.proved
#print axioms queueOnce_holds
end Go.Proofs.YticiofkiffgclaaGreat

