/-
  Proved: whatever the arguments are, carrierlaw13.CursorNames answers true and leaves its arguments as they were. No condition.
-/
import Derived.Test.YtnoiomaoignndaaCun
import Derived.Test.YtnoiomaoignndaaRows
import Derived.Test.YtnoiomaoignndaaChecked
import Derived.ProofKit
import Derived.OpenShut
import Derived.ChangeOld
import Derived.Below
namespace Go.Proofs.Ytnoiomaoignndaa.cursorNames
open Go.ChangeShapes Go.WideShapes Go.ChangeAt Go.RowKit
set_option linter.unusedVariables false

theorem own : ownKnob Try.prog.godebug = none := by kernel_rfl
theorem laidOut : laidOutB Try.prog = true := by kernel_rfl

theorem foldl_le (t : List Cu) : ∀ (m : Int), (t.foldl (fun m y => if y.la < m then y.la else m) m) ≤ m ∧ ∀ x ∈ t, (t.foldl (fun m y => if y.la < m then y.la else m) m) ≤ x.la := by
  induction t with
  | nil => intro m; exact ⟨Int.le_refl _, by simp⟩
  | cons y t ih =>
    intro m
    obtain ⟨h1, h2⟩ := ih (if y.la < m then y.la else m)
    have h3 : (if y.la < m then y.la else m) ≤ m ∧ (if y.la < m then y.la else m) ≤ y.la := by split <;> omega
    rw [List.foldl_cons]
    refine ⟨by omega, fun x hx => ?_⟩
    rcases List.mem_cons.1 hx with rfl | hx
    · omega
    · exact h2 x hx
theorem leaN_le {l : List Cu} {x : Cu} (h : x ∈ l) : leaN l ≤ x.la := by
  cases l with
  | nil => simp at h
  | cons y t =>
    obtain ⟨h1, h2⟩ := foldl_le t y.la
    rcases List.mem_cons.1 h with rfl | h
    · exact h1
    · exact h2 x h

set_option maxHeartbeats 4000000 in
set_option maxRecDepth 100000 in
theorem walk (a0 : Option Addr) (len cap : Nat) (z : List Int) (W : World) (w0 : IsRow .u8 W a0 len cap z) :
    Calls Try.prog 8 #[.slice a0 len cap] W fun e w' => e = .returned (.bool true) ∧ Below W.heap.size W w' := by
  obtain ⟨bs, hbl, hbr⟩ := isRow_rd w0
  have HR := Lib.hid hbr; have HL := Lib.hid hbl
  clear w0 hbl hbr
  by_cases h60 : 40 < len
  · have x0 : (40 : Int) < (len : Int) := by omega
    go_enter Try.func8, Try.ntmps8
    go_wp2_with fail
    refine (done_any W).mono ?_
    rintro e w1 ⟨rfl, k1⟩
    have K1 := Lib.hid k1; clear k1
    go_wp2_with fail
    refine (done_any w1).mono ?_
    rintro e w2 ⟨rfl, k2⟩
    have K2 := Lib.hid (K1.out.trans k2 (by simp)); clear k2
    go_wp2
    go_ret
    exact ⟨rfl, K2.out.below (Nat.le_refl _) (by simp)⟩
  · have x0 : ¬ (40 : Int) < (len : Int) := by omega
    go_enter Try.func8, Try.ntmps8
    go_wp2_with fail
    refine (done_any W).mono ?_
    rintro e w1 ⟨rfl, k1⟩
    have K1 := Lib.hid k1; clear k1
    go_wp2_with fail
    refine (cq_new K1.out).mono ?_
    rintro e w2 ⟨h, rfl, c2⟩
    have C2 := Lib.hid c2; clear c2
    go_wp2
    go_loopw [4] (fun s4 wr => ∃ i : Nat, s4 = .int .i64 i ∧ i ≤ len ∧ Hid (∃ m, Cq W wr h m)) (fun s4 _ => len - (intOf s4).toNat)
    case atStart => exact ⟨0, rfl, Nat.zero_le _, Lib.hid ⟨[], C2.out⟩⟩
    case round =>
      obtain ⟨i, rfl, hi, CE⟩ := hrel
      obtain ⟨m, cm⟩ := CE.out
      have CI := Lib.hid cm
      clear cm CE
      by_cases hlt : i < len
      · have x1 : (i : Int) < (len : Int) := by omega
        obtain ⟨b, o, e0, cb, e1⟩ := (show Rd wr (.slice a0 len cap) bs from HR.out.kept CI.out.kept (by simp)).at8 (i := i) (by rw [HL.out]; exact hlt)
        subst e0
        clear e1
        obtain ⟨y, hy⟩ : ∃ y : Nat, y = (bs.getD i 0).toNat := ⟨_, rfl⟩
        have hy8 : y < 256 := by rw [hy]; exact (bs.getD i 0).toNat_lt
        rw [← hy] at cb
        have sc := str1 (x := (y : Int)) (by omega) (by omega) wr _ rfl
        have CR := Lib.hid (cq_reg (CI.out.keep ((Kept.refl wr []).alloc (.cells #[.int .u8 (y : Int)] 5))) (bN y) (1 + (i : Int)))
        clear hy
        go_wp2_with fail
        refine CR.out.mono ?_
        rintro e w4 ⟨rfl, c4⟩
        have C4 := Lib.hid c4
        clear c4 sc cb
        obtain ⟨r, hr⟩ : ∃ r : Nat, r = i % 5 := ⟨_, rfl⟩
        have xr : (i : Int) % 5 = (r : Int) := by omega
        by_cases h4 : r = 4
        · have xr4 : (i : Int) % 5 = 4 := by omega
          obtain ⟨k, hk⟩ : ∃ k : Nat, k = i / 2 := ⟨_, rfl⟩
          have xk : (i : Int) / 2 = (k : Int) := by omega
          have xkt : (i : Int).tdiv 2 = (k : Int) := by rw [Int.tdiv_eq_ediv_of_nonneg (by omega)]; exact xk
          have hkl : k < len := by omega
          have x2 : (k : Int) < (len : Int) := by omega
          obtain ⟨b', o', e0, cb, e1⟩ := (show Rd w4 (.slice (some ⟨b, o, none⟩) len cap) bs from HR.out.kept C4.out.kept (by simp)).at8 (i := k) (by rw [HL.out]; exact hkl)
          simp only [Option.some.injEq, Addr.mk.injEq] at e0
          obtain ⟨rfl, rfl, -⟩ := e0
          obtain ⟨u, hu⟩ : ∃ u : Nat, u = (bs.getD k 0).toNat := ⟨_, rfl⟩
          have hu8 : u < 256 := by rw [hu]; exact (bs.getD k 0).toNat_lt
          rw [← hu] at cb
          have sc := str1 (x := (u : Int)) (by omega) (by omega) w4 _ rfl
          have CU := Lib.hid (cq_unr (C4.out.keep ((Kept.refl w4 []).alloc (.cells #[.int .u8 (u : Int)] 5))) (bN u))
          clear hu e1 hr xr hk
          go_wp2_with fail
          refine CU.out.mono ?_
          rintro e w5 ⟨rfl, c5⟩
          have C5 := Lib.hid (show ∃ m, Cq W w5 h m from ⟨_, c5⟩)
          clear c5 sc cb
          go_wp2
          go_roundw
          case rel => exact ⟨i + 1, by go_num, by omega, C5⟩
          case measure => simp [intOf]; omega
        · have xr4 : ((r : Int) == 4) = false := by rw [beq_eq_false_iff_ne]; omega
          have C5 := Lib.hid (show ∃ m, Cq W w4 h m from ⟨_, C4.out⟩)
          clear hr h4
          go_wp2
          go_roundw
          case rel => exact ⟨i + 1, by go_num, by omega, C5⟩
          case measure => simp [intOf]; omega
      · have x1 : ¬ (i : Int) < (len : Int) := by omega
        obtain ⟨wo, hwo⟩ : ∃ wo, wo = wr := ⟨_, rfl⟩
        subst hwo
        obtain ⟨ok, V, a, k0⟩ := CI.out
        have AL := Lib.hid (call_any a (by have := ok.few; omega))
        have A := Lib.hid a; have OK := Lib.hid ok; have K0 := Lib.hid k0
        have few := ok.few
        clear a ok k0
        go_wp2_with fail
        refine AL.out.mono ?_
        rintro e w5 ⟨v5, rfl, o5, k5⟩
        obtain ⟨u5, c5, e5⟩ := o5.shape
        subst e5
        have O5 := Lib.hid o5; have K5 := Lib.hid k5
        clear o5 k5
        go_wp2
        go_loopw [6] (fun s6 wr => ∃ k : Nat, s6 = .int .i64 ((k : Int) + 1) ∧ k ≤ m.length ∧ wr = wr ∧ Hid (Kept w5 wr [])) (fun s6 _ => m.length + 1 - (intOf s6).toNat)
        case atStart => exact ⟨0, rfl, Nat.zero_le _, rfl, Lib.hid (Kept.refl _ _)⟩
        case round =>
          obtain ⟨k, rfl, hk, -, KK⟩ := hrel
          by_cases hkl : k + 1 < m.length
          · have y1 : (k : Int) + 1 < (m.length : Int) := by omega
            obtain ⟨p, hp⟩ : ∃ p, m[k]? = some p := ⟨_, List.getElem?_eq_getElem (by omega)⟩
            obtain ⟨q, hq⟩ : ∃ q, m[k + 1]? = some q := ⟨_, List.getElem?_eq_getElem hkl⟩
            have o6 := O5.out.keep KK.out
            obtain ⟨g, eg, -⟩ := o6.at hp
            subst eg
            obtain ⟨p0, p1, p2⟩ := o6.three hp
            obtain ⟨q0, q1, q2⟩ := o6.three hq
            have hlt2 : Op.bytesLess p.nm.toList q.nm.toList = true := by
              obtain ⟨h1, rfl⟩ := List.getElem?_eq_some_iff.1 hp
              obtain ⟨h2, rfl⟩ := List.getElem?_eq_some_iff.1 hq
              exact List.pairwise_iff_getElem.1 OK.out.nms k (k + 1) h1 h2 (by omega)
            have y2 : (k : Int) < (m.length : Int) := by omega
            clear o6 hp hq
            go_wp2
            go_region
            go_wp2
            have K6 := Lib.hid (KK.out.drew)
            go_roundw
            case rel => exact ⟨k + 1, by go_num, by omega, trivial, K6⟩
            case measure => simp [intOf]; omega
          · have y1 : ¬ (k : Int) + 1 < (m.length : Int) := by omega
            obtain ⟨wp, hwp⟩ : ∃ wp, wp = wr := ⟨_, rfl⟩
            subst hwp
            have K6 := Lib.hid (K5.out.trans KK.out (by simp))
            have LE := Lib.hid (clea_any (A.out.keep K6.out) (by omega))
            have LL := Lib.hid (fun (j : Nat) (x : Cu) (hx : m[j]? = some x) => leaN_le (List.mem_of_getElem? hx))
            obtain ⟨N, hN⟩ : ∃ N, N = leaN m := ⟨_, rfl⟩
            rw [← hN] at LE LL
            have HN := Lib.hid hN
            obtain ⟨bz, hbz⟩ : ∃ bz : Bool, bz = decide (0 < m.length) := ⟨_, rfl⟩
            rw [← hbz] at LE
            have HBZ := Lib.hid hbz
            clear hN hbz
            go_wp2_with fail
            refine LE.out.mono ?_
            rintro e w7 ⟨rfl, k7⟩
            have K7 := Lib.hid (KK.out.trans k7 (by simp))
            clear k7
            go_wp2
            go_loopw [9] (fun s9 wr => ∃ (j : Nat) (m3 : List Cu), s9 = .int .i64 j ∧ j ≤ m.length ∧ m3.length = m.length ∧ Hid (∀ t, j ≤ t → m3[t]? = m[t]?) ∧ Hid (OwnK encCu wr wo.heap.size cuE (.slice u5 m.length c5) m3) ∧ Hid (Fo (fun b => u5.map Addr.block = some b) w5 wr)) (fun s9 _ => m.length - (intOf s9).toNat)
            case atStart => exact ⟨0, m, rfl, Nat.zero_le _, rfl, Lib.hid (fun _ _ => rfl), Lib.hid (O5.out.keep K7.out), Lib.hid (Fo.ofKept K7.out _)⟩
            case round =>
              obtain ⟨j, m3, rfl, hj, hm3, HT, HO, HF⟩ := hrel
              have HM3 := Lib.hid hm3
              clear hm3
              by_cases hjl : j < m.length
              · have y2 : (j : Int) < (m.length : Int) := by omega
                obtain ⟨p, hp⟩ : ∃ p, m[j]? = some p := ⟨_, List.getElem?_eq_getElem hjl⟩
                have hp3 : m3[j]? = some p := by rw [HT.out j (Nat.le_refl _)]; exact hp
                have hle := LL.out j p hp
                have o8 := HO.out
                obtain ⟨g, eg, -⟩ := o8.at hp3
                subst eg
                obtain ⟨p0, p1, p2⟩ := o8.three hp3
                obtain ⟨f0, f1, f2⟩ := o8.threeF hp3
                have o9 := o8.set1 (y := ⟨p.nm, -1, p.op⟩) hp3 (j := 1) (by decide) (u := .int .i64 (-1)) rfl
                have O9 := Lib.hid o9
                have F9 := Lib.hid (HF.out.setCell (p := ⟨g, j * 3 + 1, none⟩) (.inl rfl) (.int .i64 (-1)))
                have y3 : ¬ p.la < N := by omega
                have HP := Lib.hid hp
                clear o8 o9 hp hp3
                go_wp2
                go_roundw
                case rel =>
                  refine ⟨j + 1, m3.set j ⟨p.nm, -1, p.op⟩, by go_num, by omega, by rw [List.length_set]; exact HM3.out, Lib.hid (fun t ht => ?_), O9, F9⟩
                  rw [List.getElem?_set_ne (by omega)]
                  exact HT.out t (by omega)
                case measure => simp [intOf]; omega
              · have y2 : ¬ (j : Int) < (m.length : Int) := by omega
                have F0 : Fo (fun b => u5.map Addr.block = some b) wo wr := (Fo.ofKept K5.out _).trans HF.out
                have hown := O5.out.lt
                have a9 := A.out.fo F0 (fun b hb hu => by have := (A.out.lt b hb).2; have := (hown b (by cases u5 with | none => cases hu | some x => exact hu)).1; omega)
                have K9 := Lib.hid (K0.out.foC F0 (fun b hu => by have := (hown b (by cases u5 with | none => cases hu | some x => exact hu)).1; have := A.out.size; omega))
                have LE2 := Lib.hid (clea_any a9 (by omega))
                rw [← HN.out, ← HBZ.out] at LE2
                clear F0 hown a9
                go_wp2_with fail
                refine LE2.out.mono ?_
                rintro e w10 ⟨rfl, k10⟩
                have K10 := Lib.hid (K9.out.trans k10 (by simp))
                clear k10
                by_cases hz : 0 < m.length
                · have hb1 : bz = true := by rw [HBZ.out]; simpa using hz
                  subst hb1
                  have y3 : (0 : Int) < (m.length : Int) := by omega
                  have y4 : (m.length : Int) ≤ 4 := by omega
                  go_wp2
                  go_ret
                  exact ⟨rfl, K10.out.below (Nat.le_refl _) (by simp)⟩
                · have hb1 : bz = false := by rw [HBZ.out]; simpa using hz
                  subst hb1
                  have y3 : ¬ (0 : Int) < (m.length : Int) := by omega
                  have y4 : (m.length : Int) ≤ 4 := by omega
                  go_wp2
                  go_ret
                  exact ⟨rfl, K10.out.below (Nat.le_refl _) (by simp)⟩

set_option maxRecDepth 100000 in
theorem lifted (os : Os) (started : os.Started) (H : Type) (enc : TypeId × Value → H) :
    ReturnsInHanded {} Try.checked os 8 .any (Rows.cursorNamesSpec.pre6 enc Try.prog Try.f8 Rows.cursorNamesRow.domain false) (Rows.cursorNamesSpec.post enc Try.prog Try.f8 false true false false) := by
  refine returnsInHanded_of_change (C := Try.checked) own started (by kernel_rfl) Try.func8
    (ChangeSpec.witness6 (enc := enc) (C := Try.checked) false ⟨#[], #[.slice none 0 0], []⟩ 8 (by kernel_rfl) (by kernel_rfl) (by kernel_rfl) (by kernel_rfl)) ?_
  intro W base args ds gs before hval0 hW hcnd _
  have hval : ∀ (j : Nat) t v, Try.f8.params[j]? = some t → args[j]? = some v → Value.okWide Try.prog W .any base t v := hval0
  have hW' := hW
  obtain ⟨p, q, hA0, hV, rfl, hfz, hnd⟩ := hW
  have hA : DataW.TrodAll enc Try.prog W 0 (fun _ => true) true Try.f8.params.toList args.toList ds p := hA0
  rw [Try.params8] at hA hval
  obtain ⟨v0, vs0, d0, ds0, p0, q0, hargs, rfl, rfl, h0, r0⟩ := trodAll_cons hA
  obtain ⟨rfl, rfl, rfl⟩ := trodAll_nil r0
  obtain rfl : args = #[v0] := by cases args; simp_all
  obtain ⟨rfl, rfl⟩ := trodVars_none hV
  obtain ⟨a0, len0, cap0, rfl⟩ := okWide_slice Try.underlying45 (hval 0 45 v0 rfl rfl)
  have k0 := h0
  have lt0 : ∀ x ∈ p0, x.block < W.heap.size := by obtain ⟨m, hm⟩ := k0; exact DataW.trod_lt m _ _ _ hm
  obtain ⟨z0, w0⟩ : ∃ zs, IsRow .u8 W a0 len0 cap0 zs := by
    obtain ⟨fuel, hf⟩ := h0
    rcases open_ints Try.underlying45 Try.underlying5 (by kernel_rfl) hf with ⟨hcs, _⟩ | ⟨x, l, c, zs, hcs, _, hl, hm, hz, _, hcell, hwz⟩
    · simp [Value.cells] at hcs
      obtain ⟨rfl, rfl, rfl⟩ := hcs
      exact ⟨[], .inl ⟨rfl, rfl, rfl, rfl⟩⟩
    · simp [Value.cells] at hcs
      obtain ⟨rfl, rfl, rfl⟩ := hcs
      exact ⟨zs, .inr ⟨_, rfl, hl, hm, by simpa using hz, hcell, hwz⟩⟩
  clear hA0 hval0
  refine (walk a0 len0 cap0 z0 W w0).mono fun e W' ⟨he, bel⟩ => ?_
  subst he
  exact ⟨_, rfl, _, _, _, [], _, [], hW', trodAll_mk1 (shut_bool Try.underlying4 _), (trodAll_cons_mk (Below.trod laidOut (by kernel_rfl) (of_decide_eq_true (by kernel_rfl)) k0 bel lt0) trodAll_mk0), rfl, bel.frame _, fun h => by cases h⟩

theorem over : Rows.cursorNamesRow.holds Try.pinned (OpenSpec.ofChange Rows.cursorNamesSpec) :=
  OpenClaim.holds_of_wide 8 Try.f8 rfl rfl rfl rfl rfl rfl rfl ⟨rfl, rfl, rfl, rfl, rfl⟩ rfl rfl rfl rfl rfl (by kernel_rfl) Try.func8 (by kernel_rfl)
    (of_decide_eq_true (by kernel_rfl)) (by unfold Func.isWrapper; first | (rw [if_pos (by decide +kernel)]; kernel_rfl) | (rw [if_neg (by decide +kernel)]; exact ⟨rfl, rfl⟩))
    (fun os started H enc _ => lifted os started H enc)

theorem proved : Rows.CursorNamesSaid :=
  over
end Go.Proofs.Ytnoiomaoignndaa.cursorNames

namespace Go.Proofs.Ytnoiomaoignndaa
theorem cursorNames_holds : Rows.CursorNamesSaid := cursorNames.proved
#print axioms cursorNames_holds
end Go.Proofs.Ytnoiomaoignndaa

