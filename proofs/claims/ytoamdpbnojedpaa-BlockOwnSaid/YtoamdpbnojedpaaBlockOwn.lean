/-
  Proved: whatever the arguments are, carrierlaw03.BlockOwn answers true and leaves its arguments as they were. No condition.
-/
import Derived.Test.YtoamdpbnojedpaaLawKit
namespace Go.Proofs.Ytoamdpbnojedpaa.blockOwn
open Go.ChangeShapes Go.WideShapes Go.ChangeAt Go.RowKit
set_option linter.unusedVariables false

theorem own : ownKnob Try.prog.godebug = none := by kernel_rfl
theorem laidOut : laidOutB Try.prog = true := by kernel_rfl

theorem lay_back (l : List UInt8) (hl : l.length ≤ 32) : (blkOf (lay (noughts 1) 0 l) 0).take l.length = l := by
  have h32 : (noughts 1).length = 32 := by simp [noughts]
  apply List.ext_getElem?
  intro x
  rw [List.getElem?_take]
  by_cases hx : x < l.length
  · rw [if_pos hx, blkOf_at, if_pos (by omega), lay, splice_at _ _ _ (by rw [h32]; omega), if_pos (by omega)]
    congr 1
    omega
  · rw [if_neg hx, List.getElem?_eq_none (by omega)]

set_option maxHeartbeats 2000000 in
set_option maxRecDepth 100000 in
theorem walk (a0 : Option Addr) (len0 cap0 : Nat) (z0 : List Int) (a1 : Int) (W : World) (w0 : IsRow .u8 W a0 len0 cap0 z0) (w1 : (Lit.int .u8 a1).wf = true) :
    Calls Try.prog 7 #[.slice a0 len0 cap0, .int .u8 a1] W fun e w' => e = .returned (.bool true) ∧ Below W.heap.size W w' := by
  obtain ⟨b, rfl⟩ := byte_of w1
  obtain ⟨l, rfl, hrd⟩ := isRow_rd w0
  clear w0 w1
  have Hp := Lib.hid hrd; clear hrd
  by_cases h : (32 : Int) < (l.length : Int)
  · go_enter Try.func7, Try.ntmps7
    go_wp2_with fail
    refine (kept_any W).mono ?_
    rintro e w1 ⟨rfl, hk⟩
    have Hk := Lib.hid hk; clear hk
    go_wp2_with fail
    refine (kept_any w1).mono ?_
    rintro e w2 ⟨rfl, hk⟩
    have Hk2 := Lib.hid (Hk.out.trans hk (by simp)); clear hk
    go_wp2
    go_ret
    exact ⟨rfl, Hk2.out.below (Nat.le_refl _) (by simp)⟩
  · have hl32 : l.length ≤ 32 := by omega
    go_enter Try.func7, Try.ntmps7
    go_wp2_with fail
    refine (kept_any W).mono ?_
    rintro e w1 ⟨rfl, hk⟩
    have K1 := Lib.hid hk; have hz1 := hk.size; clear hk
    go_wp2_with fail
    refine (new_any 1 w1).mono ?_
    rintro e w2 ⟨p, gn, gs, rfl, hd, hk⟩
    have D2 := Lib.hid (show Dv w2 w1.heap.size p gn gs (.slice none 0 0) 1 (noughts 1) (noughts 1) [] from hd); have K2 := Lib.hid (K1.out.trans hk (by simp)); have hz2 := hk.size
    clear hd hk
    go_wp2_with fail
    refine (join_any _ (.slice none 0 0) l [] w2 (Hp.out.kept K2.out (by simp)) (Rd.nil _) (by omega) (by decide)).mono ?_
    rintro e w3 ⟨vq, rfl, ho, hk⟩
    rw [List.append_nil] at ho
    obtain ⟨aq, cq, hvq⟩ := ho.shape
    subst hvq
    have O3 := Lib.hid ho; have K3 := Lib.hid (K2.out.trans hk (by simp)); have hz3 := hk.size
    have D3 := Lib.hid (D2.out.frame (Fr.ofKept hk 0 []) (by simp) (by simp) (by simp))
    clear ho hk
    go_wp2_with fail
    refine (write_ok D3.out 0 (by decide) _ l hl32 (O3.out.rb _) (by decide) (by omega)).mono ?_
    rintro e w4 ⟨rfl, v4, hd, hf⟩
    have D4 := Lib.hid hd; have K4 := Lib.hid (K3.out.later hf hz1); have hz4 := hf.size
    have O4 := Lib.hid (show Own w4 w2.heap.size 5 (.slice aq l.length cq) l from ownsRow_frame O3.out hf (by decide))
    clear hd hf
    go_wp2
    go_loopw [7] (fun t wr => ∃ (k : Nat) (l' : List UInt8), t = .int .i64 k ∧ k ≤ l.length ∧ l'.length = l.length ∧ Own wr w2.heap.size 5 (.slice aq l.length cq) l' ∧ Kept w4 wr (Value.slice aq l.length cq).ownBlock.toList) (fun t _ => l.length - (intOf t).toNat)
    case atStart => exact ⟨0, l, rfl, Nat.zero_le _, rfl, O4.out, Kept.refl _ _⟩
    case round =>
      obtain ⟨k, l', rfl, hk, hl', hown, hkept⟩ := hrel
      have Hown := Lib.hid hown; have Hkept := Lib.hid hkept; have Hl' := Lib.hid hl'
      clear hown hkept hl'
      by_cases hlt : k < l.length
      · obtain ⟨g, rfl⟩ := own_addr Hown.out (by omega)
        obtain ⟨c0, f0⟩ := own_at Hown.out k (by rw [Hl'.out]; exact hlt)
        go_wp2
        go_roundw
        case rel => exact ⟨k + 1, l'.set k b, by go_num, by omega, by rw [List.length_set]; exact Hl'.out, own_store Hown.out k (by rw [Hl'.out]; exact hlt) b, Hkept.out.setCell (.inl (by simp [Value.ownBlock])) _⟩
        case measure => simp [intOf]; omega
      · have x1 : ¬ (k : Int) < (l.length : Int) := by omega
        clear hlt
        have K5 := Lib.hid (K4.out.trans Hkept.out (by intro x hx; exact .inr (by have := (O4.out.lt x (by simpa using hx)).1; omega)))
        have D5 := Lib.hid (D4.out.keptOwn O4.out Hkept.out)
        have hz5 := Hkept.out.size
        go_wp2_with fail
        refine (read_ok D5.out 0 (by decide)).mono ?_
        rintro e w6 ⟨v6, rfl, ho, hk6⟩
        obtain ⟨a6, c6, hv6⟩ := ho.shape
        have e6 : (blkOf (lay (noughts 1) 0 l) 0).length = 32 := blkOf_length _ 1 0 D5.out.ln (by decide)
        rw [e6] at hv6
        subst hv6
        have O6 := Lib.hid ho; have K6 := Lib.hid (K5.out.trans hk6 (by simp)); have hz6 := hk6.size; have E6 := Lib.hid e6
        have D6 := Lib.hid (D5.out.frame (Fr.ofKept hk6 0 []) (by simp) (by simp) (by simp))
        clear ho hk6 e6
        go_wp2
        go_loopw [10] (fun t wr2 => ∃ (k : Nat) (l' : List UInt8), t = .int .i64 k ∧ k ≤ 32 ∧ l'.length = 32 ∧ Own wr2 wr.heap.size 5 (.slice a6 32 c6) l' ∧ Kept w6 wr2 (Value.slice a6 32 c6).ownBlock.toList) (fun t _ => 32 - (intOf t).toNat)
        case atStart => exact ⟨0, _, rfl, Nat.zero_le _, E6.out, O6.out, Kept.refl _ _⟩
        case round =>
          obtain ⟨k2, l2, rfl, hk2, hl2, hown2, hkept2⟩ := hrel
          have Hown2 := Lib.hid hown2; have Hkept2 := Lib.hid hkept2; have Hl2 := Lib.hid hl2
          clear hown2 hkept2 hl2
          by_cases hlt2 : k2 < 32
          · obtain ⟨g, rfl⟩ := own_addr Hown2.out (by omega)
            obtain ⟨c0, f0⟩ := own_at Hown2.out k2 (by rw [Hl2.out]; exact hlt2)
            have x2 : (k2 : Int) < 32 := by omega
            go_wp2
            go_roundw
            case rel => exact ⟨k2 + 1, l2.set k2 b, by go_num, by omega, by rw [List.length_set]; exact Hl2.out, own_store Hown2.out k2 (by rw [Hl2.out]; exact hlt2) b, Hkept2.out.setCell (.inl (by simp [Value.ownBlock])) _⟩
            case measure => simp [intOf]; omega
          · have x2 : ¬ (k2 : Int) < 32 := by omega
            clear hlt2
            rename_i wr3
            have K7 := Lib.hid (K6.out.trans Hkept2.out (by intro x hx; exact .inr (by have := (O6.out.lt x (by simpa using hx)).1; omega)))
            have D7 := Lib.hid (D6.out.keptOwn O6.out Hkept2.out)
            go_wp2_with fail
            refine (sync_any D7.out (by simp)).mono ?_
            rintro e w8 ⟨rfl, hd, hf⟩
            have D8 := Lib.hid hd; have K8 := Lib.hid (K7.out.later hf hz1)
            clear hd hf
            go_wp2_with fail
            refine (read_ok D8.out 0 (by decide)).mono ?_
            rintro e w9 ⟨v9, rfl, ho, hk9⟩
            obtain ⟨a9, c9, hv9⟩ := ho.shape
            rw [E6.out] at hv9
            subst hv9
            have hc9 : 32 ≤ c9 := by
              obtain ⟨_, c', e1, h2, _⟩ := ho.rd
              simp only [Value.slice.injEq] at e1
              rw [E6.out] at h2
              omega
            have R9 := Lib.hid ((ho.rb 0).take l.length (by rw [E6.out]; exact hl32)); have K9 := Lib.hid (K8.out.trans hk9 (by simp))
            rw [lay_back l hl32] at R9
            have hli : (l.length : Int) ≤ 32 := by omega
            clear ho hk9
            go_wp2_with fail
            refine (alike_any _ _ l l w9 R9.out.rd (Hp.out.kept K9.out (by simp)) (by omega)).mono ?_
            rintro e w10 ⟨rfl, hk10⟩
            have K10 := Lib.hid (K9.out.trans hk10 (by simp)); clear hk10
            rw [beq_self_eq_true]
            go_wp2
            go_ret
            exact ⟨rfl, K10.out.below (Nat.le_refl _) (by simp)⟩

set_option maxRecDepth 100000 in
theorem lifted (os : Os) (started : os.Started) (H : Type) (enc : TypeId × Value → H) :
    ReturnsInHanded {} Try.checked os 7 .any (Rows.blockOwnSpec.pre6 enc Try.prog Try.f7 Rows.blockOwnRow.domain false) (Rows.blockOwnSpec.post enc Try.prog Try.f7 false true false false) := by
  refine returnsInHanded_of_change (C := Try.checked) own started (by kernel_rfl) Try.func7
    (ChangeSpec.witness6 (enc := enc) (C := Try.checked) false ⟨#[], #[.slice none 0 0, .int .u8 0], []⟩ 8 (by kernel_rfl) (by kernel_rfl) (by kernel_rfl) (by kernel_rfl)) ?_
  intro W base args ds gs before hval0 hW hcnd _
  have hval : ∀ (j : Nat) t v, Try.f7.params[j]? = some t → args[j]? = some v → Value.okWide Try.prog W .any base t v := hval0
  have hW' := hW
  obtain ⟨p, q, hA0, hV, rfl, hfz, hnd⟩ := hW
  have hA : DataW.TrodAll enc Try.prog W 0 (fun _ => true) true Try.f7.params.toList args.toList ds p := hA0
  rw [Try.params7] at hA hval
  obtain ⟨v0, vs0, d0, ds0, p0, q0, hargs, rfl, rfl, h0, r0⟩ := trodAll_cons hA
  obtain ⟨v1, vs1, d1, ds1, p1, q1, rfl, rfl, rfl, h1, r1⟩ := trodAll_cons r0
  obtain ⟨rfl, rfl, rfl⟩ := trodAll_nil r1
  obtain rfl : args = #[v0, v1] := by cases args; simp_all
  obtain ⟨rfl, rfl⟩ := trodVars_none hV
  obtain ⟨a0, len0, cap0, rfl⟩ := okWide_slice Try.underlying29 (hval 0 29 v0 rfl rfl)
  have k0 := h0
  have lt0 : ∀ x ∈ p0, x.block < W.heap.size := by obtain ⟨m, hm⟩ := k0; exact DataW.trod_lt m _ _ _ hm
  obtain ⟨z0, w0⟩ : ∃ zs, IsRow .u8 W a0 len0 cap0 zs := by
    obtain ⟨fuel, hf⟩ := h0
    rcases open_ints Try.underlying29 Try.underlying5 (by kernel_rfl) hf with ⟨hcs, _⟩ | ⟨x, l, c, zs, hcs, _, hl, hm, hz, _, hcell, hwz⟩
    · simp [Value.cells] at hcs
      obtain ⟨rfl, rfl, rfl⟩ := hcs
      exact ⟨[], .inl ⟨rfl, rfl, rfl, rfl⟩⟩
    · simp [Value.cells] at hcs
      obtain ⟨rfl, rfl, rfl⟩ := hcs
      exact ⟨zs, .inr ⟨_, rfl, hl, hm, by simpa using hz, hcell, hwz⟩⟩
  obtain ⟨a1, rfl, rfl, rfl, w1⟩ := open_int Try.underlying5 (hval 1 5 v1 rfl rfl) h1
  clear hA0 hval0
  refine (walk a0 len0 cap0 z0 a1 W w0 w1).mono fun e W' ⟨he, bel⟩ => ?_
  subst he
  exact ⟨_, rfl, _, _, _, [], _, [], hW', trodAll_mk1 (shut_bool Try.underlying4 _), (trodAll_cons_mk (Below.trod laidOut (by kernel_rfl) (of_decide_eq_true (by kernel_rfl)) k0 bel lt0) (trodAll_cons_mk (shut_int Try.underlying5 w1) trodAll_mk0)), rfl, bel.frame _, fun h => by cases h⟩

theorem over : Rows.blockOwnRow.holds Try.pinned (OpenSpec.ofChange Rows.blockOwnSpec) :=
  OpenClaim.holds_of_wide 7 Try.f7 rfl rfl rfl rfl rfl rfl rfl ⟨rfl, rfl, rfl, rfl, rfl⟩ rfl rfl rfl rfl rfl (by kernel_rfl) Try.func7 (by kernel_rfl)
    (of_decide_eq_true (by kernel_rfl)) (by unfold Func.isWrapper; first | (rw [if_pos (by decide +kernel)]; kernel_rfl) | (rw [if_neg (by decide +kernel)]; exact ⟨rfl, rfl⟩))
    (fun os started H enc _ => lifted os started H enc)

theorem proved : Rows.BlockOwnSaid :=
  over
end Go.Proofs.Ytoamdpbnojedpaa.blockOwn

namespace Go.Proofs.Ytoamdpbnojedpaa
theorem blockOwn_holds : Rows.BlockOwnSaid := blockOwn.proved
#print axioms blockOwn_holds
end Go.Proofs.Ytoamdpbnojedpaa
