/-
  Proved: whatever the arguments are, carrierlaw02.CodeOne answers true and leaves its arguments as they were. No condition.
-/
import Derived.Test.YtfmljoekfbnpiaaLaws
namespace Go.Proofs.Ytfmljoekfbnpiaa.codeOne
open Go.ChangeShapes Go.WideShapes Go.ChangeAt Go.RowKit
open Go.ChangeMaps (open_string shut_string)
set_option linter.unusedVariables false

theorem own : ownKnob Try.prog.godebug = none := by kernel_rfl
theorem laidOut : laidOutB Try.prog = true := by kernel_rfl

/-- Bytes of 128 or more, and a nought behind them, are no number. -/
theorem rn_bad (l : List UInt8) : ∀ i n, i ≤ 9 → 1 ≤ i + l.length → (∀ b ∈ l, 128 ≤ b.toNat) → rn i n (l ++ [0]) = (0, 0, 2) := by
  induction l with
  | nil =>
    intro i n h1 h2 _
    have : 0 < i := by simp at h2; omega
    rw [List.nil_append, rn, if_pos (.inr ⟨this, rfl⟩)]
  | cons b t ih =>
    intro i n h1 _ hb
    have h128 := hb b (by simp)
    rw [List.cons_append, rn]
    by_cases h9 : i = 9
    · rw [if_pos (.inl ⟨h9, by omega⟩)]
    · rw [if_neg (by omega), if_neg (by omega)]
      exact ih (i + 1) _ (by omega) (by omega) (fun x hx => hb x (by simp [hx]))

/-- A number's digits: all but the last are 128 or more. -/
theorem numL_split (n : Nat) : ∃ (a : List UInt8) (c : UInt8), numL n = a ++ [c] ∧ ∀ b ∈ a, 128 ≤ b.toNat := by
  induction n using Nat.strongRecOn with
  | _ n ih =>
    by_cases h : n < 128
    · exact ⟨[], UInt8.ofNat n, by rw [numL_small h]; rfl, by simp⟩
    · obtain ⟨a, c, h1, h2⟩ := ih (n / 128) (by omega)
      refine ⟨UInt8.ofNat (n % 128 + 128) :: a, c, by rw [numL_great (by omega), h1]; rfl, ?_⟩
      intro b hb
      rcases List.mem_cons.1 hb with rfl | hb
      · rw [UInt8.toNat_ofNat']
        omega
      · exact h2 b hb

theorem or128 (d : Nat) (hd : d < 256) : bits .or .u8 (d : Int) 128 = ((UInt8.ofNat (d ||| 128)).toNat : Int) ∧ 128 ≤ (UInt8.ofNat (d ||| 128)).toNat := by
  have h1 : d ||| 128 < 256 := Nat.or_lt_two_pow (n := 8) hd (by decide)
  have h2 : 128 ≤ d ||| 128 := Nat.right_le_or
  have h3 := u8_or_nat d 128 hd (by decide)
  rw [UInt8.toNat_ofNat', Nat.mod_eq_of_lt (by simpa using h1)]
  exact ⟨h3, h2⟩

theorem own_app {w : World} {base k : Nat} {e : TypeId} {v : Value} {l m : List UInt8} (h : w.ownsRow base e 1 v k (bc l ++ bc m)) : Own w base e v (l ++ m) := by
  have hk : k = (l ++ m).length := by have := h.1; rw [← bc_append, bc_length] at this; omega
  unfold Own
  rw [bc_append, ← hk]
  exact h

set_option maxHeartbeats 4000000 in
set_option maxRecDepth 100000 in
theorem walk (a0 a1 : Int) (w0 : (Lit.int .u64 a0).wf = true) (w1 : (Lit.int .u8 a1).wf = true) (w : World) :
    Calls Try.prog 5 #[.int .u64 a0, .int .u8 a1] w fun e w' => e = .returned (.bool true) ∧ Below w.heap.size w w' := by
  obtain ⟨h1, h2⟩ := bounds_u64 w0
  obtain ⟨h3, h4⟩ := bounds_u8 w1
  clear w0 w1
  obtain ⟨n, rfl⟩ := Int.eq_ofNat_of_zero_le h1
  obtain ⟨j, rfl⟩ := Int.eq_ofNat_of_zero_le h3
  obtain ⟨ini, las, hnum, hini⟩ := numL_split n
  have hten := numL_ten (n := n) (by omega)
  have hlast : las.toNat < 256 := UInt8.toNat_lt las
  obtain ⟨hor1, hor2⟩ := or128 las.toNat hlast
  obtain ⟨c, hc⟩ : ∃ c, c = UInt8.ofNat (las.toNat ||| 128) := ⟨_, rfl⟩
  rw [← hc] at hor1 hor2
  have hlen : (numL n).length = ini.length + 1 := by rw [hnum]; simp
  have Hnum := Lib.hid hnum; have Hini := Lib.hid hini; have Hor := Lib.hid hor1; have Hlen := Lib.hid hlen
  have hinil : ini.length ≤ 9 := by omega
  clear hnum hini hor1 hc h1 h3 hlen hten
  go_enter Try.func5, Try.ntmps5
  go_wp2_with fail
  refine (three_any w).mono ?_
  rintro e w1 ⟨rfl, hk⟩
  have hz1 := hk.size
  have Hk1 := Lib.hid hk; clear hk
  go_wp2_with fail
  refine (num_any w1.heap.size w1.heap.size (.slice none 0 0) [] n (w1.alloc (.cells #[.slice none 0 0] 54)) ⟨heap_alloc_new w1 _, Own.nil _ _ _⟩ (by simp) (by omega) (by simp)).mono ?_
  rintro e w2 ⟨rfl, v2, hw2, hs2⟩
  rw [List.nil_append] at hw2
  have hk2 : Kept w w2 [] := (Hk1.out.alloc _).trans hs2.1 (by intro x hx; simp [Value.ownBlock] at hx; exact .inr (by omega))
  have hz2 := hk2.size
  have Hw2 := Lib.hid hw2; have Hk2 := Lib.hid hk2; clear hw2 hs2 hk2
  go_wp2_with fail
  refine (bytes_any w1.heap.size w1.heap.size v2 _ w2 Hw2.out (by have := Hlen.out; omega)).mono ?_
  rintro e w3 ⟨v3, rfl, ho3, hk3⟩
  obtain ⟨a3, c3, hv3⟩ := ho3.shape
  rw [Hlen.out] at hv3
  have Ho3 := Lib.hid ho3; have Hk3 := Lib.hid (Hk2.out.trans hk3 (by simp)); clear ho3 hk3
  have hz3 := Hk3.out.size
  subst hv3
  have x0 : (((ini.length + 1 : Nat) : Int) == 0) = false := by simp; omega
  go_wp2_with fail
  refine (join_any _ (.slice none 0 0) (numL n) [] w3 Ho3.out.rd (Rd.nil _) (by have := Hlen.out; omega) (by simp)).mono ?_
  rintro e w4 ⟨v4, rfl, hq, hk4⟩
  rw [List.append_nil] at hq
  obtain ⟨a4, c4, hv4⟩ := hq.shape
  rw [Hlen.out] at hv4
  obtain ⟨g, rfl⟩ : ∃ g, a4 = some ⟨g, 0, none⟩ := by
    rcases hq.2 with ⟨h1, h2⟩ | ⟨g, cap, cur, h1, _⟩
    · have := Hlen.out; omega
    · rw [h1] at hv4; simp only [Value.slice.injEq] at hv4; exact ⟨g, hv4.1.symm⟩
  have Hk4 := Lib.hid hk4
  have hz4 := hk4.size
  subst hv4
  obtain ⟨q0, f0⟩ := own_at hq ini.length (by have := Hlen.out; omega)
  have hgl : ((numL n).getD ini.length 0) = las := by rw [Hnum.out]; simp [List.getD]
  rw [hgl] at q0
  have Hq := Lib.hid hq
  clear hq hk4 hgl
  go_wp2
  rw [Hor.out]
  have hset : (numL n).set ini.length c = ini ++ [c] := by rw [Hnum.out]; simp
  have hq5 : Own (w4.setCell ⟨g, ini.length, none⟩ (.int .u8 (c.toNat : Int))) w3.heap.size 5 (.slice (some ⟨g, 0, none⟩) (ini.length + 1) c4) (ini ++ [c]) := by
    rw [← hset]
    exact own_store Hq.out ini.length (by have := Hlen.out; omega) c
  have hk5 : Kept w3 (w4.setCell ⟨g, ini.length, none⟩ (.int .u8 (c.toNat : Int))) [] := Hk4.out.setCell (.inr (Hq.out.lt g rfl).1) _
  have Hq5 := Lib.hid hq5; have Hk5 := Lib.hid hk5
  obtain ⟨i0, hi, hz0, hz1', hz2'⟩ := info_parts Try.infoB
  clear hq5 hk5 hset
  have hjm : j % 12 ≤ 11 := by omega
  go_loopw [7, 8] (fun t i wr => ∃ (k : Nat) (x : Value), t = x ∧ i = .int .i64 k ∧ k ≤ j % 12 ∧ Own wr w3.heap.size 5 x (ini ++ [c] ++ List.replicate k 128) ∧ Kept w3 wr []) (fun _ i _ => 12 - (intOf i).toNat)
  case atStart => exact ⟨0, _, rfl, rfl, Nat.zero_le _, by simpa using Hq5.out, Hk5.out⟩
  case round =>
    obtain ⟨k, x, rfl, rfl, hk, hown, hkept⟩ := hrel
    have hbr : w3.heap.size ≤ wr.heap.size := hkept.size
    obtain ⟨Q, hQ⟩ : ∃ Q : List UInt8, Q = ini ++ [c] ++ List.replicate k 128 := ⟨_, rfl⟩
    have hll : Q.length = ini.length + 1 + k := by rw [hQ]; simp; omega
    rw [← hQ] at hown
    have Hown := Lib.hid hown; have Hkept := Lib.hid hkept; have Hll := Lib.hid hll; have HQ := Lib.hid hQ
    clear hown hkept hll hQ
    by_cases hlt : k < j % 12
    · have x1 : (k : Int) < (j : Int) % 12 := by omega
      go_wp2_with (at_builtin; refine wpList_append_src _ rfl (.tmp 40) (.tmp 41) 25 25 rfl w3.heap.size 5 i0 (.int .u8 0) 1 1 Try.underlying25 hi hz0 hz1' hz2' rfl _ Q.length (bc Q) rfl ?hown _ 1 [.int .u8 128] rfl (src_one Try.underlying25 wr _ rfl _) ?b1 ?b2 ?base ?next)
      case hown => exact World.ownsRow.alloc Hown.out _
      case b1 => rw [Hll.out]; unfold maxLen; omega
      case b2 => rw [Hll.out]; omega
      case base => simp; omega
      case next =>
        intro v5 w5 hown hgrow _ _
        have e1 : bc [128] = [Value.int .u8 128] := rfl
        rw [← e1] at hown
        have ho : Own w5 w3.heap.size 5 v5 (ini ++ [c] ++ List.replicate (k + 1) 128) := by
          have e : ini ++ [c] ++ List.replicate (k + 1) (128 : UInt8) = Q ++ [128] := by rw [HQ.out, List.replicate_succ']; simp
          rw [e]
          exact own_app hown
        have hk5 : Kept w3 w5 [] := (Hkept.out.alloc _).grown hgrow (fun k hk => .inr (Hown.out.lt k hk).1)
        have Ho := Lib.hid ho; have Hk6 := Lib.hid hk5
        clear ho hk5 hown hgrow e1
        go_wp2
        go_roundw
        case rel => exact ⟨k + 1, _, rfl, by go_num, by omega, Ho.out, Hk6.out⟩
        case measure => simp [intOf]; omega
    · have x1 : ¬ (k : Int) < (j : Int) % 12 := by omega
      obtain rfl : k = j % 12 := by omega
      clear hlt hk
      go_wp2_with (at_builtin; refine wpList_append_src _ rfl (.tmp 43) (.tmp 44) 25 25 rfl w3.heap.size 5 i0 (.int .u8 0) 1 1 Try.underlying25 hi hz0 hz1' hz2' rfl _ Q.length (bc Q) rfl ?hown _ 1 [.int .u8 0] rfl (src_one Try.underlying25 wr _ rfl _) ?b1 ?b2 ?base ?next)
      case hown => exact World.ownsRow.alloc Hown.out _
      case b1 => rw [Hll.out]; unfold maxLen; omega
      case b2 => rw [Hll.out]; omega
      case base => first | omega | (simp; omega)
      case next =>
        intro vq w5 hown hgrow _ _
        have e1 : bc [0] = [Value.int .u8 0] := rfl
        rw [← e1] at hown
        have ho : Own w5 w3.heap.size 5 vq (Q ++ [0]) := own_app hown
        have hk5 : Kept w3 w5 [] := (Hkept.out.alloc _).grown hgrow (fun k hk => .inr (Hown.out.lt k hk).1)
        have hQb : rdN (Q ++ [0]) = (0, 0, 2) := by
          refine rn_bad Q 0 0 (by omega) (by rw [Hll.out]; omega) ?_
          intro b hb
          rw [HQ.out] at hb
          rcases List.mem_append.1 hb with hb | hb
          · rcases List.mem_append.1 hb with hb | hb
            · exact Hini.out b hb
            · rw [List.mem_singleton.1 hb]; exact hor2
          · rw [(List.mem_replicate.1 hb).2]; decide
        have hrn : rNum 0 (Q ++ [0]) = (0, [], 2) := by rw [rNum, if_pos rfl, if_neg (by rw [hQb]; decide), hQb]
        have hQl : (Q ++ [0]).length ≤ 100 := by rw [List.length_append, Hll.out]; simp; omega
        have hz5 := hk5.size
        obtain ⟨P, hP⟩ : ∃ P, P = Q ++ [0] := ⟨_, rfl⟩
        rw [← hP] at ho hrn hQl
        obtain ⟨a5, n5, c5, hv5⟩ := ho.shape3
        have Ho := Lib.hid ho; have Hk6 := Lib.hid hk5; have Hrn := Lib.hid hrn
        clear ho hk5 hown hgrow e1 hQb hrn hP
        subst hv5
        go_wp2_with fail
        refine (new_any _ P w5 Ho.out.rd (by omega)).mono ?_
        rintro e wn ⟨r, vr, rfl, hr, hle, hbr2, hkn⟩
        have Hr := Lib.hid hr; have Hkn := Lib.hid (Hk6.out.trans hkn (by simp)); have Hqn := Lib.hid (Ho.out.rd.kept hkn (by simp))
        have hzn := hkn.size
        clear hr hkn
        go_wp2_with fail
        refine (refread_any _ 0 P wn Hqn.out (by omega)).mono ?_
        rintro e w6 ⟨vm, rfl, hrm, hk7, _⟩
        obtain ⟨am, nm, cm, hvm⟩ := hrm.shape3
        have Hr6 := Lib.hid (Hr.out.kept hk7 (by simp) (by simp)); have H36 := Lib.hid (Hkn.out.trans hk7 (by simp))
        have hz6 := hk7.size
        have hr6 : r < w6.heap.size := (Array.getElem?_eq_some_iff.1 Hr6.out.1).1
        rw [Hrn.out]
        clear hrm hk7
        subst hvm
        have HM : RowKit.Hid (∀ W, Kept w6 W [] → W.cell? ⟨w6.heap.size, 1, none⟩ = some (.int .i64 2) → Calls Try.prog 27 #[.int .u64 (n : Int)] W fun en w' => ∃ v', en = .returned v' ∧ Rd w' v' (numL n) ∧ Rd w' (.slice a3 (ini.length + 1) c3) (numL n) ∧ Rr w' r vr 0 P ∧ Kept w3 w' [] ∧ w'.cell? ⟨w6.heap.size, 1, none⟩ = some (.int .i64 2)) := Lib.hid (fun W hk hs => by
          refine (refnum_any n W (by omega)).mono ?_
          rintro en w' ⟨v', rfl, q1, q2⟩
          have k3 := (H36.out.trans hk (by simp)).trans q2 (by simp)
          exact ⟨v', rfl, q1.rd, Ho3.out.rd.kept k3 (by simp), (Hr6.out.kept hk (by simp) (by simp)).kept q2 (by simp) (by simp), k3, q2.cell (p := ⟨w6.heap.size, 1, none⟩) (by simp) hs⟩)
        have HA : RowKit.Hid (∀ W va vb, Rd W va (numL n) → Rd W vb (numL n) → W.cell? ⟨w6.heap.size, 1, none⟩ = some (.int .i64 2) → Calls Try.prog 16 #[va, vb] W fun en w' => en = .returned (.bool true) ∧ Kept W w' [] ∧ w'.cell? ⟨w6.heap.size, 1, none⟩ = some (.int .i64 2)) := Lib.hid (fun W va vb h1 h2 hs => by
          refine (alike_any va vb _ _ W h1 h2 (by have := Hlen.out; omega)).mono ?_
          rintro en w' ⟨rfl, q2⟩
          exact ⟨ret_bool (by simp), q2, q2.cell (p := ⟨w6.heap.size, 1, none⟩) (by simp) hs⟩)
        have HN : RowKit.Hid (∀ W, Rr W r vr 0 P → W.cell? ⟨w6.heap.size, 1, none⟩ = some (.int .i64 2) → Calls Try.prog 13 #[.pointer (some ⟨r, 0, none⟩)] W fun en w' => en = .returned (.int .u64 0) ∧ ∃ v', Rr w' r v' 2 [] ∧ Kept W w' [r] ∧ w'.cell? ⟨w6.heap.size, 1, none⟩ = some (.int .i64 2)) := Lib.hid (fun W h hs => by
          refine (rnum_any r vr 0 P W h (by omega)).mono ?_
          rw [Hrn.out]
          rintro en w' ⟨rfl, v', q1, q2, _⟩
          exact ⟨rfl, v', q1, q2, q2.cell (p := ⟨w6.heap.size, 1, none⟩) (by simp; omega) hs⟩)
        go_wp2_with fail
        go_region_held3 (fun W => W.cell? ⟨w6.heap.size, 1, none⟩ = some (.int .i64 2)) (first | assumption | go_keep)
          (first
            | (go_at_call 27; refine (HM.out _ ?_ ?_).mono ?_; exact ((Kept.refl w6 []).alloc _).drew; (simp); rintro e wx ⟨vx, rfl, qx, qp, qr, qk, sx⟩; have QX := Lib.hid qx; have QP := Lib.hid qp; have QR := Lib.hid qr; have QK := Lib.hid qk; clear qx qp qr qk)
            | (go_at_call 16; refine (HA.out _ _ vx QP.out QX.out sx).mono ?_; rintro e wy ⟨rfl, qy, sy⟩; have QY := Lib.hid qy; clear qy)
            | (go_at_call 13; refine (HN.out _ ?_ sy).mono ?_; exact QR.out.kept QY.out (by simp) (by simp); rintro e wz ⟨rfl, vz, q1, q2, sz⟩; have Q1 := Lib.hid q1; have Q2 := Lib.hid q2; clear q1 q2)
            | (go_at_call 22; refine (error_any r vz 2 [] _ Q1.out).mono ?_; rintro e w9 ⟨rfl, rfl⟩))
        all_goals go_wp2
        all_goals go_ret
        all_goals exact ⟨rfl, (((Hk3.out.trans QK.out (by simp)).trans QY.out (by simp)).trans Q2.out (by intro x hx; simp at hx; exact .inr (by omega))).below (Nat.le_refl _) (by simp)⟩

set_option maxRecDepth 100000 in
theorem lifted (os : Os) (started : os.Started) (H : Type) (enc : TypeId × Value → H) :
    ReturnsInHanded {} Try.checked os 5 .any (Rows.codeOneSpec.pre6 enc Try.prog Try.f5 Rows.codeOneRow.domain false) (Rows.codeOneSpec.post enc Try.prog Try.f5 false true false false) := by
  refine returnsInHanded_of_change (C := Try.checked) own started (by kernel_rfl) Try.func5
    (ChangeSpec.witness6 (enc := enc) (C := Try.checked) false ⟨#[], #[.int .u64 0, .int .u8 0], []⟩ 8 (by kernel_rfl) (by kernel_rfl) (by kernel_rfl) (by kernel_rfl)) ?_
  intro W base args ds gs before hval0 hW hcnd _
  have hval : ∀ (j : Nat) t v, Try.f5.params[j]? = some t → args[j]? = some v → Value.okWide Try.prog W .any base t v := hval0
  have hW' := hW
  obtain ⟨p, q, hA0, hV, rfl, hfz, hnd⟩ := hW
  have hA : DataW.TrodAll enc Try.prog W 0 (fun _ => true) true Try.f5.params.toList args.toList ds p := hA0
  rw [Try.params5] at hA hval
  obtain ⟨v0, vs0, d0, ds0, p0, q0, hargs, rfl, rfl, h0, r0⟩ := trodAll_cons hA
  obtain ⟨v1, vs1, d1, ds1, p1, q1, rfl, rfl, rfl, h1, r1⟩ := trodAll_cons r0
  obtain ⟨rfl, rfl, rfl⟩ := trodAll_nil r1
  obtain rfl : args = #[v0, v1] := by cases args; simp_all
  obtain ⟨rfl, rfl⟩ := trodVars_none hV
  obtain ⟨a0, rfl, rfl, rfl, w0⟩ := open_int Try.underlying30 (hval 0 30 v0 rfl rfl) h0
  obtain ⟨a1, rfl, rfl, rfl, w1⟩ := open_int Try.underlying5 (hval 1 5 v1 rfl rfl) h1
  clear hA0 hval0
  simp only [List.append_nil] at hW'
  refine (walk a0 a1 w0 w1 W).mono fun e W' ⟨he, bel⟩ => ?_
  subst he
  exact ⟨_, rfl, _, _, _, [], _, [], hW', trodAll_mk1 (shut_bool Try.underlying4 _), (trodAll_cons_mk (shut_int Try.underlying30 w0) (trodAll_cons_mk (shut_int Try.underlying5 w1) trodAll_mk0)), rfl, bel.frame _, fun h => by cases h⟩

theorem over : Rows.codeOneRow.holds Try.pinned (OpenSpec.ofChange Rows.codeOneSpec) :=
  OpenClaim.holds_of_wide 5 Try.f5 rfl rfl rfl rfl rfl rfl rfl ⟨rfl, rfl, rfl, rfl, rfl⟩ rfl rfl rfl rfl rfl (by kernel_rfl) Try.func5 (by kernel_rfl)
    (of_decide_eq_true (by kernel_rfl)) (by unfold Func.isWrapper; first | (rw [if_pos (by decide +kernel)]; kernel_rfl) | (rw [if_neg (by decide +kernel)]; exact ⟨rfl, rfl⟩))
    (fun os started H enc _ => lifted os started H enc)

theorem proved : Rows.CodeOneSaid :=
  over
end Go.Proofs.Ytfmljoekfbnpiaa.codeOne

namespace Go.Proofs.Ytfmljoekfbnpiaa
theorem codeOne_holds : Rows.CodeOneSaid := codeOne.proved
#print axioms codeOne_holds
end Go.Proofs.Ytfmljoekfbnpiaa
