/-
  Proved: whatever the arguments are, carrierlaw08.RelOps answers true and leaves its arguments as they were. No condition.
-/
import Derived.Test.YtdjhcdgehmpikaaQg
import Derived.ProofKit
import Derived.OpenShut
import Derived.ChangeOld
import Derived.Below
namespace Go.Proofs.Ytdjhcdgehmpikaa.relOps
open Go.ChangeShapes Go.WideShapes Go.ChangeAt Go.RowKit
set_option linter.unusedVariables false

theorem own : ownKnob Try.prog.godebug = none := by kernel_rfl
theorem laidOut : laidOutB Try.prog = true := by kernel_rfl

/-- What the walk is told of a slice of integers that came in. -/
def IsRow (k : IntKind) (w : World) (a : Option Addr) (len cap : Nat) (zs : List Int) : Prop :=
  (a = none ∧ len = 0 ∧ cap = 0 ∧ zs = []) ∨
  ∃ x, a = some x ∧ len ≤ cap ∧ cap ≤ maxLen ∧ zs.length = cap ∧ (∀ i, i < zs.length → w.cell? (x.add i) = some (.int k (zs.getD i 0))) ∧ ∀ n ∈ zs, (Lit.int k n).wf = true

/-- The numbers of such a slice. -/
theorem isRow_rdI {w : World} {a : Option Addr} {len cap : Nat} {zs : List Int} (h : IsRow .i64 w a len cap zs) : ∃ l : List Int, l.length = len ∧ RdI w (.slice a len cap) l := by
  rcases h with ⟨rfl, rfl, rfl, rfl⟩ | ⟨x, rfl, hl, hm, hz, hcell, hwz⟩
  · exact ⟨[], rfl, RdI.nil w⟩
  · have hlen : (zs.take len).length = len := by simp; omega
    refine ⟨zs.take len, hlen, some x, cap, by rw [hlen], by omega, hm, by simp, fun hne => ?_⟩
    have hpos : 0 < len := by rw [← hlen]; exact List.length_pos_iff.2 hne
    obtain ⟨b, off, spot⟩ := x
    have h0 := hcell 0 (by omega)
    have hspot : spot = none := by simpa [Addr.add] using World.cell?_spot h0
    subst hspot
    refine ⟨b, off, rfl, fun i hi => ?_⟩
    rw [hlen] at hi
    have hc := hcell i (by omega)
    rw [Addr.add_lit] at hc
    rw [hc]
    congr 2
    simp [List.getD, hi]



theorem src_row {W : World} {o : Obj} {z : Nat} (key : Int) (txt : ByteArray) (hz : W.heap.size = z) (ho : o = .cells #[.int .i64 key, .string txt] 55) :
    Src Try.prog 2 59 (.slice (some ⟨z, 0, none⟩) 1 1) 1 [.int .i64 key, .string txt] (W.alloc o) := by
  subst hz; subst ho
  have hb := heap_alloc_new W (.cells #[.int .i64 key, .string txt] 55)
  exact Src.ofSlice _ Try.underlying59 ⟨W.heap.size, 0, none⟩ 1 1 _ rfl (fun j u hu => by
    rw [Addr.add_lit, cell_of_row _ _ _ _ _ _ hb, Nat.zero_add]
    simpa using hu) (by intro u hu; simp at hu; rcases hu with rfl | rfl <;> rfl)

set_option maxHeartbeats 8000000 in
set_option maxRecDepth 100000 in
theorem walk (a0 a1 a2 : Int) (a3 : Option Addr) (len3 cap3 : Nat) (z3 : List Int) (W : World) (w0 : (Lit.int .u8 a0).wf = true) (w1 : (Lit.int .i64 a1).wf = true) (w2 : (Lit.int .i64 a2).wf = true) (w3 : IsRow .i64 W a3 len3 cap3 z3) :
    Calls Try.prog 5 #[.int .u8 a0, .int .i64 a1, .int .i64 a2, .slice a3 len3 cap3] W fun e w' => e = .returned (.bool true) ∧ Below W.heap.size W w' := by
  obtain ⟨b0a, b0b⟩ := bounds_u8 w0
  obtain ⟨q, rfl⟩ : ∃ q : Nat, a0 = q := ⟨a0.toNat, by omega⟩
  obtain ⟨L, hLl, hrd⟩ := isRow_rdI w3
  have RD := Lib.hid hrd
  have HLl := Lib.hid hLl
  obtain ⟨i0, hi0, hz0, hz1, hzb⟩ := info_parts Try.infoRow
  have I := Lib.hid (And.intro hi0 (And.intro hz0 (And.intro hz1 hzb)))
  clear w0 w1 w2 w3 hLl hrd hi0 hz0 hz1 hzb
  by_cases h40 : 40 < len3
  · have x40 : (40 : Int) < (len3 : Int) := by omega
    go_enter Try.func5, Try.ntmps5
    go_wp2_with fail
    refine (row_any W).mono ?_
    rintro e w2 ⟨rfl, hk⟩
    have K2 := Lib.hid hk
    clear hk
    go_wp2
    go_ret
    exact ⟨rfl, K2.out.below (Nat.le_refl _) (by simp)⟩
  · have x40 : ¬ (40 : Int) < (len3 : Int) := by omega
    have h3 : len3 ≤ 40 := by omega
    go_enter Try.func5, Try.ntmps5
    go_wp2_with fail
    go_loopw [9, 10] (fun l t wr => ∃ (k : Nat) (R : List (Int × ByteArray)), t = .int .i64 k ∧ k ≤ len3 ∧ R.length = k ∧ wr.ownsRow W.heap.size 55 2 l k (rcl R) ∧ Kept W wr []) (fun _ t _ => len3 - (intOf t).toNat)
    case atStart => exact ⟨0, [], rfl, Nat.zero_le _, rfl, World.ownsRow_nil _ _ _ _, Kept.refl W []⟩
    case round =>
      obtain ⟨k, R, rfl, hk, hR, ho, hkw⟩ := hrel
      have O := Lib.hid ho; have K := Lib.hid hkw; have HR := Lib.hid hR
      obtain ⟨al, cl, hal⟩ := ownsRow_shape ho
      clear ho hkw hR
      subst hal
      by_cases hlt : k < len3
      · obtain ⟨a, c, hsl, _, _, _, hne⟩ := RD.out.keep K.out
        obtain ⟨ab, ao, ha, hcell⟩ := hne (by intro e; have := HLl.out; rw [e] at this; simp at this; omega)
        rw [HLl.out] at hsl hcell
        simp only [Value.slice.injEq, true_and] at hsl
        obtain ⟨rfl, rfl⟩ := hsl
        subst ha
        have ck := hcell k hlt
        obtain ⟨x, hx⟩ : ∃ x, L.getD k 0 = x := ⟨_, rfl⟩
        have x1 : (k : Int) < (len3 : Int) := by omega
        have SB := Lib.hid (fun z hz => src_row (W := wr) (z := z) x ⟨#[]⟩ hz rfl)
        have oB := Lib.hid (ownsRow_fr O.out (Fr.ofKept ((Kept.refl wr []).alloc (.cells #[.int .i64 x, .string ⟨#[]⟩] 55)) 0 []) (by simp))
        have hbB : W.heap.size ≤ (wr.alloc (.cells #[.int .i64 x, .string ⟨#[]⟩] 55)).heap.size := Nat.le_trans K.out.size ((Kept.refl wr []).alloc _).size
        rw [hx] at ck
        clear hcell hx
        go_wp2_with (at_builtin; refine wpList_append_all _ rfl (.tmp 23) (.tmp 29) 59 59 rfl W.heap.size 55 i0 _ 2 24 Try.underlying59 I.out.1 I.out.2.1 I.out.2.2.1 I.out.2.2.2 rfl (.slice al k cl) k (rcl R) rfl ?hown _ 1 [.int .i64 x, .string ⟨#[]⟩] rfl ?hsrc ?b1 ?b2 ?base ?next)
        case hown => exact oB.out
        case hsrc => exact SB.out _ rfl
        case b1 => unfold maxLen; omega
        case b2 => omega
        case base => exact hbB
        case next =>
          intro v5 w5 ho5 _ hg5 _
          obtain ⟨a5, c5, hs5⟩ := ownsRow_shape ho5
          have e1 : rcl R ++ [.int .i64 x, .string ⟨#[]⟩] = rcl (R ++ [(x, ⟨#[]⟩)]) := by rw [rcl_append]; rfl
          rw [e1] at ho5
          have O5 := Lib.hid ho5
          have K5 := Lib.hid ((K.out.alloc (.cells #[.int .i64 x, .string ⟨#[]⟩] 55)).grown hg5 (fun j hj => .inr ((World.ownsRow.lt O.out j hj).1)))
          clear ho5 hg5 e1 ck
          subst hs5
          go_wp2
          go_roundw
          case rel => exact ⟨k + 1, _, by go_num, by omega, by simp [HR.out], O5.out, K5.out⟩
          case measure => simp [intOf]; omega
      · have x1 : ¬ (k : Int) < (len3 : Int) := by omega
        obtain ⟨n, rfl⟩ : ∃ n, n = k := ⟨_, rfl⟩
        by_cases h20 : 20 ≤ q
        · have x2 : (20 : Int) ≤ (q : Int) := by omega
          obtain ⟨r, hr⟩ : ∃ r : Nat, (r : Int) = (q : Int).tmod 6 := ⟨((q : Int).tmod 6).toNat, by have := Int.tmod_nonneg 6 (show (0 : Int) ≤ q by omega); omega⟩
          have hr6 : r < 6 := by have := Int.tmod_lt_of_pos (q : Int) (show (0 : Int) < 6 by omega); omega
          have e6 : (q : Int).tmod 6 = (r : Int) := hr.symm
          clear hr
          obtain ⟨W5, hW5⟩ : ∃ W5, W5 = wr.alloc (.cells #[.int .u8 (1 + (r : Int)), .int .i64 a1, .int .i64 a2, .string ⟨#[116]⟩] 57) := ⟨_, rfl⟩
          obtain ⟨bx, hbx⟩ : ∃ bx, bx = wr.heap.size := ⟨_, rfl⟩
          have g5 : W5.heap[bx]? = some (.cells #[.int .u8 (1 + (r : Int)), .int .i64 a1, .int .i64 a2, .string ⟨#[116]⟩] 57 (0, 0)) := by rw [hW5, hbx]; exact heap_alloc_new wr _
          have k5 : Kept wr W5 [] := by rw [hW5]; exact (Kept.refl wr []).alloc _
          have G5 := Lib.hid g5
          have FF : Hid (∀ V, Kept W5 V [] → ((V.cell? ⟨bx, 0, none⟩ = some (.int .u8 (1 + (r : Int))) ∧ V.cell? ⟨bx, 1, none⟩ = some (.int .i64 a1)) ∧ V.cell? ⟨bx, 2, none⟩ = some (.int .i64 a2)) ∧ V.cell? ⟨bx, 3, none⟩ = some (.string ⟨#[116]⟩)) := Lib.hid (fun V hV => by
            have g := hV.heap (by simp) G5.out
            exact ⟨⟨⟨by rw [cell_of_row _ _ 0 _ _ _ g]; rfl, by rw [cell_of_row _ _ 1 _ _ _ g]; rfl⟩, by rw [cell_of_row _ _ 2 _ _ _ g]; rfl⟩, by rw [cell_of_row _ _ 3 _ _ _ g]; rfl⟩)
          have O5 := Lib.hid (ownsRow_fr O.out (Fr.ofKept k5 0 []) (by simp))
          have K5 := Lib.hid (K.out.trans k5 (by simp))
          have CR : Hid (∀ V, Kept W5 V [] → Calls Try.prog 10 #[] V fun e w' => e = .returned (.bool true) ∧ Kept W5 w' []) := Lib.hid (fun V hV => (row_any V).mono (by rintro e w' ⟨rfl, k⟩; exact ⟨rfl, hV.trans k (by simp)⟩))
          have CA : Hid (∀ V, Kept W5 V [] → Calls Try.prog 25 #[.agg #[.int .u8 (1 + (r : Int)), .int .i64 a1, .int .i64 a2, .string ⟨#[116]⟩], .slice al n cl] V fun e w' => ∃ v', e = .returned v' ∧ w'.ownsRow W5.heap.size 80 3 v' (opsL (1 + r) a2 ⟨#[116]⟩ R).length (ocl (opsL (1 + r) a2 ⟨#[116]⟩ R)) ∧ Kept V w' []) := Lib.hid (fun V hV =>
            (ops_any (1 + r) a1 a2 ⟨#[116]⟩ al n cl R (by have := ownsRow_fr O5.out (Fr.ofKept hV 0 []) (by simp); rw [HR.out]; exact this) (by have := HR.out; omega)).mono (by rintro e w' ⟨v', rfl, h1, h2⟩; exact ⟨v', rfl, ownsRow_low h1 hV.size, h2⟩))
          have CB : Hid (∀ V, Kept W5 V [] → Calls Try.prog 26 #[.agg #[.int .u8 (1 + (r : Int)), .int .i64 a1, .int .i64 a2, .string ⟨#[116]⟩], .slice al n cl] V fun e w' => ∃ v', e = .returned v' ∧ w'.ownsRow W5.heap.size 108 3 v' (opsL (1 + r) a2 ⟨#[116]⟩ R).length (ocl (opsL (1 + r) a2 ⟨#[116]⟩ R)) ∧ Kept V w' []) := Lib.hid (fun V hV =>
            (rops_any (1 + r) a1 a2 ⟨#[116]⟩ (.slice al n cl) R (by have := ownsRow_fr O5.out (Fr.ofKept hV 0 []) (by simp); rw [HR.out]; exact this) (by have := HR.out; omega)).mono (by rintro e w' ⟨v', rfl, h1, h2⟩; exact ⟨v', rfl, ownsRow_low h1 hV.size, h2⟩))
          have k8 : Kept W5 W5.drew [] := (Kept.refl W5 []).drew
          have y2 := FF.out _ k8
          clear g5 k5
          go_wp2_with fail
          rw [← hW5, ← hbx]
          clear hW5 hbx
          go_region_held3 (fun V => ((V.cell? ⟨bx, 0, none⟩ = some (.int .u8 (1 + (r : Int))) ∧ V.cell? ⟨bx, 1, none⟩ = some (.int .i64 a1)) ∧ V.cell? ⟨bx, 2, none⟩ = some (.int .i64 a2)) ∧ V.cell? ⟨bx, 3, none⟩ = some (.string ⟨#[116]⟩)) (exact y2)
            (first
              | (go_at_call 10; refine (CR.out _ ?_).mono ?_; exact k8; rintro e w8 ⟨rfl, k8⟩; have y2 := FF.out _ k8)
              | (go_at_call 25; refine (CA.out _ ?_).mono ?_; exact k8; rintro e w8 ⟨va, rfl, oa, ka⟩; have k8 := k8.trans ka (by simp); have y2 := FF.out _ k8)
              | (go_at_call 26; refine (CB.out _ ?_).mono ?_; exact k8; rintro e w8 ⟨vb, rfl, ob, kb⟩; have oa := ownsRow_fr oa (Fr.ofKept kb 0 []) (by simp); have k8 := k8.trans kb (by simp); have y2 := FF.out _ k8)
              | (go_at_call 24; refine (ops_same oa ob).mono ?_; rintro e w8 ⟨rfl, kc⟩; have k8 := k8.trans kc (by simp); have y2 := FF.out _ k8))
          have K8 := Lib.hid (K5.out.trans k8 (by simp))
          clear k8 y2
          go_wp2
          go_ret
          exact ⟨rfl, K8.out.below (Nat.le_refl _) (by simp)⟩
        · have x2 : ¬ (20 : Int) ≤ (q : Int) := by omega
          obtain ⟨W5, hW5⟩ : ∃ W5, W5 = wr.alloc (.cells #[.int .u8 (q : Int), .int .i64 a1, .int .i64 a2, .string ⟨#[116]⟩] 57) := ⟨_, rfl⟩
          obtain ⟨bx, hbx⟩ : ∃ bx, bx = wr.heap.size := ⟨_, rfl⟩
          have g5 : W5.heap[bx]? = some (.cells #[.int .u8 (q : Int), .int .i64 a1, .int .i64 a2, .string ⟨#[116]⟩] 57 (0, 0)) := by rw [hW5, hbx]; exact heap_alloc_new wr _
          have k5 : Kept wr W5 [] := by rw [hW5]; exact (Kept.refl wr []).alloc _
          have G5 := Lib.hid g5
          have FF : Hid (∀ V, Kept W5 V [] → ((V.cell? ⟨bx, 0, none⟩ = some (.int .u8 (q : Int)) ∧ V.cell? ⟨bx, 1, none⟩ = some (.int .i64 a1)) ∧ V.cell? ⟨bx, 2, none⟩ = some (.int .i64 a2)) ∧ V.cell? ⟨bx, 3, none⟩ = some (.string ⟨#[116]⟩)) := Lib.hid (fun V hV => by
            have g := hV.heap (by simp) G5.out
            exact ⟨⟨⟨by rw [cell_of_row _ _ 0 _ _ _ g]; rfl, by rw [cell_of_row _ _ 1 _ _ _ g]; rfl⟩, by rw [cell_of_row _ _ 2 _ _ _ g]; rfl⟩, by rw [cell_of_row _ _ 3 _ _ _ g]; rfl⟩)
          have O5 := Lib.hid (ownsRow_fr O.out (Fr.ofKept k5 0 []) (by simp))
          have K5 := Lib.hid (K.out.trans k5 (by simp))
          have CR : Hid (∀ V, Kept W5 V [] → Calls Try.prog 10 #[] V fun e w' => e = .returned (.bool true) ∧ Kept W5 w' []) := Lib.hid (fun V hV => (row_any V).mono (by rintro e w' ⟨rfl, k⟩; exact ⟨rfl, hV.trans k (by simp)⟩))
          have CA : Hid (∀ V, Kept W5 V [] → Calls Try.prog 25 #[.agg #[.int .u8 (q : Int), .int .i64 a1, .int .i64 a2, .string ⟨#[116]⟩], .slice al n cl] V fun e w' => ∃ v', e = .returned v' ∧ w'.ownsRow W5.heap.size 80 3 v' (opsL q a2 ⟨#[116]⟩ R).length (ocl (opsL q a2 ⟨#[116]⟩ R)) ∧ Kept V w' []) := Lib.hid (fun V hV =>
            (ops_any q a1 a2 ⟨#[116]⟩ al n cl R (by have := ownsRow_fr O5.out (Fr.ofKept hV 0 []) (by simp); rw [HR.out]; exact this) (by have := HR.out; omega)).mono (by rintro e w' ⟨v', rfl, h1, h2⟩; exact ⟨v', rfl, ownsRow_low h1 hV.size, h2⟩))
          have CB : Hid (∀ V, Kept W5 V [] → Calls Try.prog 26 #[.agg #[.int .u8 (q : Int), .int .i64 a1, .int .i64 a2, .string ⟨#[116]⟩], .slice al n cl] V fun e w' => ∃ v', e = .returned v' ∧ w'.ownsRow W5.heap.size 108 3 v' (opsL q a2 ⟨#[116]⟩ R).length (ocl (opsL q a2 ⟨#[116]⟩ R)) ∧ Kept V w' []) := Lib.hid (fun V hV =>
            (rops_any q a1 a2 ⟨#[116]⟩ (.slice al n cl) R (by have := ownsRow_fr O5.out (Fr.ofKept hV 0 []) (by simp); rw [HR.out]; exact this) (by have := HR.out; omega)).mono (by rintro e w' ⟨v', rfl, h1, h2⟩; exact ⟨v', rfl, ownsRow_low h1 hV.size, h2⟩))
          have k8 : Kept W5 W5.drew [] := (Kept.refl W5 []).drew
          have y2 := FF.out _ k8
          clear g5 k5
          go_wp2_with fail
          rw [← hW5, ← hbx]
          clear hW5 hbx
          go_region_held3 (fun V => ((V.cell? ⟨bx, 0, none⟩ = some (.int .u8 (q : Int)) ∧ V.cell? ⟨bx, 1, none⟩ = some (.int .i64 a1)) ∧ V.cell? ⟨bx, 2, none⟩ = some (.int .i64 a2)) ∧ V.cell? ⟨bx, 3, none⟩ = some (.string ⟨#[116]⟩)) (exact y2)
            (first
              | (go_at_call 10; refine (CR.out _ ?_).mono ?_; exact k8; rintro e w8 ⟨rfl, k8⟩; have y2 := FF.out _ k8)
              | (go_at_call 25; refine (CA.out _ ?_).mono ?_; exact k8; rintro e w8 ⟨va, rfl, oa, ka⟩; have k8 := k8.trans ka (by simp); have y2 := FF.out _ k8)
              | (go_at_call 26; refine (CB.out _ ?_).mono ?_; exact k8; rintro e w8 ⟨vb, rfl, ob, kb⟩; have oa := ownsRow_fr oa (Fr.ofKept kb 0 []) (by simp); have k8 := k8.trans kb (by simp); have y2 := FF.out _ k8)
              | (go_at_call 24; refine (ops_same oa ob).mono ?_; rintro e w8 ⟨rfl, kc⟩; have k8 := k8.trans kc (by simp); have y2 := FF.out _ k8))
          have K8 := Lib.hid (K5.out.trans k8 (by simp))
          clear k8 y2
          go_wp2
          go_ret
          exact ⟨rfl, K8.out.below (Nat.le_refl _) (by simp)⟩
set_option maxRecDepth 100000 in
theorem lifted (os : Os) (started : os.Started) (H : Type) (enc : TypeId × Value → H) :
    ReturnsInHanded {} Try.checked os 5 .any (Rows.relOpsSpec.pre6 enc Try.prog Try.f5 Rows.relOpsRow.domain false) (Rows.relOpsSpec.post enc Try.prog Try.f5 false true false false) := by
  refine returnsInHanded_of_change (C := Try.checked) own started (by kernel_rfl) Try.func5
    (ChangeSpec.witness6 (enc := enc) (C := Try.checked) false ⟨#[], #[.int .u8 0, .int .i64 0, .int .i64 0, .slice none 0 0], []⟩ 8 (by kernel_rfl) (by kernel_rfl) (by kernel_rfl) (by kernel_rfl)) ?_
  intro W base args ds gs before hval0 hW hcnd _
  have hval : ∀ (j : Nat) t v, Try.f5.params[j]? = some t → args[j]? = some v → Value.okWide Try.prog W .any base t v := hval0
  have hW' := hW
  obtain ⟨p, q, hA0, hV, rfl, hfz, hnd⟩ := hW
  have hA : DataW.TrodAll enc Try.prog W 0 (fun _ => true) true Try.f5.params.toList args.toList ds p := hA0
  rw [Try.params5] at hA hval
  obtain ⟨v0, vs0, d0, ds0, p0, q0, hargs, rfl, rfl, h0, r0⟩ := trodAll_cons hA
  obtain ⟨v1, vs1, d1, ds1, p1, q1, rfl, rfl, rfl, h1, r1⟩ := trodAll_cons r0
  obtain ⟨v2, vs2, d2, ds2, p2, q2, rfl, rfl, rfl, h2, r2⟩ := trodAll_cons r1
  obtain ⟨v3, vs3, d3, ds3, p3, q3, rfl, rfl, rfl, h3, r3⟩ := trodAll_cons r2
  obtain ⟨rfl, rfl, rfl⟩ := trodAll_nil r3
  obtain rfl : args = #[v0, v1, v2, v3] := by cases args; simp_all
  obtain ⟨rfl, rfl⟩ := trodVars_none hV
  obtain ⟨a0, rfl, rfl, rfl, w0⟩ := open_int Try.underlying5 (hval 0 5 v0 rfl rfl) h0
  obtain ⟨a1, rfl, rfl, rfl, w1⟩ := open_int Try.underlying3 (hval 1 3 v1 rfl rfl) h1
  obtain ⟨a2, rfl, rfl, rfl, w2⟩ := open_int Try.underlying2 (hval 2 2 v2 rfl rfl) h2
  obtain ⟨a3, len3, cap3, rfl⟩ := okWide_slice Try.underlying45 (hval 3 45 v3 rfl rfl)
  have k3 := h3
  have lt3 : ∀ x ∈ p3, x.block < W.heap.size := by obtain ⟨m, hm⟩ := k3; exact DataW.trod_lt m _ _ _ hm
  obtain ⟨z3, w3⟩ : ∃ zs, IsRow .i64 W a3 len3 cap3 zs := by
    obtain ⟨fuel, hf⟩ := h3
    rcases open_ints Try.underlying45 Try.underlying2 (by kernel_rfl) hf with ⟨hcs, _⟩ | ⟨x, l, c, zs, hcs, _, hl, hm, hz, _, hcell, hwz⟩
    · simp [Value.cells] at hcs
      obtain ⟨rfl, rfl, rfl⟩ := hcs
      exact ⟨[], .inl ⟨rfl, rfl, rfl, rfl⟩⟩
    · simp [Value.cells] at hcs
      obtain ⟨rfl, rfl, rfl⟩ := hcs
      exact ⟨zs, .inr ⟨_, rfl, hl, hm, by simpa using hz, hcell, hwz⟩⟩
  clear hA0 hval0
  refine (walk a0 a1 a2 a3 len3 cap3 z3 W w0 w1 w2 w3).mono fun e W' ⟨he, bel⟩ => ?_
  subst he
  exact ⟨_, rfl, _, _, _, [], _, [], hW', trodAll_mk1 (shut_bool Try.underlying4 _), (trodAll_cons_mk (shut_int Try.underlying5 w0) (trodAll_cons_mk (shut_int Try.underlying3 w1) (trodAll_cons_mk (shut_int Try.underlying2 w2) (trodAll_cons_mk (Below.trod laidOut (by kernel_rfl) (of_decide_eq_true (by kernel_rfl)) k3 bel lt3) trodAll_mk0)))), rfl, bel.frame _, fun h => by cases h⟩

theorem over : Rows.relOpsRow.holds Try.pinned (OpenSpec.ofChange Rows.relOpsSpec) :=
  OpenClaim.holds_of_wide 5 Try.f5 rfl rfl rfl rfl rfl rfl rfl ⟨rfl, rfl, rfl, rfl, rfl⟩ rfl rfl rfl rfl rfl (by kernel_rfl) Try.func5 (by kernel_rfl)
    (of_decide_eq_true (by kernel_rfl)) (by unfold Func.isWrapper; first | (rw [if_pos (by decide +kernel)]; kernel_rfl) | (rw [if_neg (by decide +kernel)]; exact ⟨rfl, rfl⟩))
    (fun os started H enc _ => lifted os started H enc)

theorem proved : Rows.RelOpsSaid :=
  over
end Go.Proofs.Ytdjhcdgehmpikaa.relOps

namespace Go.Proofs.Ytdjhcdgehmpikaa
theorem relOps_holds : Rows.RelOpsSaid := relOps.proved
#print axioms relOps_holds
end Go.Proofs.Ytdjhcdgehmpikaa

