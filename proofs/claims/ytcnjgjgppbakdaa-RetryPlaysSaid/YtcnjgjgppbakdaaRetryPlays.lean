/-
  Proved: whatever the arguments are, carrierlaw14.RetryPlays answers true and leaves its arguments as they were. No condition.
-/
import Derived.Test.YtcnjgjgppbakdaaRto
import Derived.Test.YtcnjgjgppbakdaaRows
import Derived.Test.YtcnjgjgppbakdaaChecked
import Derived.ProofKit
import Derived.OpenShut
import Derived.ChangeOld
import Derived.Below
namespace Go.Proofs.Ytcnjgjgppbakdaa.retryPlays
open Go.ChangeShapes Go.WideShapes Go.ChangeAt Go.RowKit
set_option linter.unusedVariables false

theorem own : ownKnob Try.prog.godebug = none := by kernel_rfl
theorem laidOut : laidOutB Try.prog = true := by kernel_rfl

theorem i64_mask (n m : Int) (k : Nat) (hk : k ≤ 62) (hm : m = ((2 ^ k - 1 : Nat) : Int)) : bits .and .i64 n m = n % ((2 ^ k : Nat) : Int) := by
  subst hm
  have hp : (2 : Nat) ^ k ≤ 2 ^ 62 := Nat.pow_le_pow_right (by decide) hk
  have h0 : 0 < (2 : Nat) ^ k := Nat.two_pow_pos k
  have hx : (2 : Nat) ^ k ∣ 2 ^ 64 := Nat.pow_dvd_pow 2 (by omega)
  have h1 : (BitVec.ofInt 64 ((2 ^ k - 1 : Nat) : Int)).toNat = 2 ^ k - 1 := by
    rw [BitVec.ofInt_natCast, BitVec.toNat_ofNat]
    omega
  have key : (BitVec.ofInt 64 n &&& BitVec.ofInt 64 ((2 ^ k - 1 : Nat) : Int)).toNat = (n % ((2 ^ 64 : Nat) : Int)).toNat % 2 ^ k := by
    rw [BitVec.toNat_and, BitVec.toNat_ofInt, h1, Nat.and_two_pow_sub_one_eq_mod]
  show IntKind.i64.wrap ((BitVec.ofInt 64 n &&& BitVec.ofInt 64 ((2 ^ k - 1 : Nat) : Int)).toNat : Nat) = _
  rw [key, IntKind.wrap_i64]
  have e : (((n % ((2 ^ 64 : Nat) : Int)).toNat % 2 ^ k : Nat) : Int) = n % ((2 ^ k : Nat) : Int) := by
    rw [Int.natCast_emod, Int.toNat_of_nonneg (Int.emod_nonneg _ (by decide))]
    exact Int.emod_emod_of_dvd n (by exact_mod_cast hx)
  rw [e]
  have h2 := Int.emod_nonneg n (show ((2 ^ k : Nat) : Int) ≠ 0 by omega)
  have h3 := Int.emod_lt_of_pos n (show (0 : Int) < ((2 ^ k : Nat) : Int) by omega)
  omega

/-- Both side by side, with the same list. -/
def Bt (W w : World) (p q : Nat) (l : List It) : Prop := OkI l ∧ ∃ V U, Ls encIt rtT rtE w W.heap.size p V l ∧ Lr encIt riT riE w W.heap.size q U l ∧ Kept W w []

section
variable {W w w1 w2 : World} {p q : Nat} {V U V' U' : Value} {l m : List It}
theorem Bt.keep (b : Bt W w p q l) (k : Kept w w1 []) : Bt W w1 p q l := by
  obtain ⟨ok, V, U, a, d, k0⟩ := b
  exact ⟨ok, V, U, a.keep k, d.keep k, k0.trans k (by simp)⟩
theorem Bt.kept (b : Bt W w p q l) : Kept W w [] := by
  obtain ⟨ok, V, U, a, d, k0⟩ := b
  exact k0
/-- A call on the code's: the document's stands. -/
theorem bd_step1 (a : Ls encIt rtT rtE w W.heap.size p V l) (d : Lr encIt riT riE w W.heap.size q U l) (k0 : Kept W w []) (s : Stp (lfoot p V) (lfoot p V') w w1) : Lr encIt riT riE w1 W.heap.size q U l ∧ Kept W w1 [] :=
  ⟨d.fo s.1 (fun k hq hp => a.dis d (by decide) (by decide) (by decide) (by decide) k hp hq), k0.foC s.1 (fun k hk => (a.lt k hk).1)⟩
/-- A call on the document's: the code's stands. -/
theorem bd_step2 (a : Ls encIt rtT rtE w W.heap.size p V m) (d : Lr encIt riT riE w W.heap.size q U l) (k0 : Kept W w []) (s : Stp (lfoot q U) (lfoot q U') w w1) : Ls encIt rtT rtE w1 W.heap.size p V m ∧ Kept W w1 [] :=
  ⟨a.fo s.1 (fun k hp hq => a.dis d (by decide) (by decide) (by decide) (by decide) k hp hq), k0.foC s.1 (fun k hk => (d.lt k hk).1)⟩
theorem bt_new (k : Kept W w []) : Calls Try.prog 10 #[] w fun e w' => ∃ p, e = .returned (.pointer (some ⟨p, 0, none⟩)) ∧ Bt W (w'.alloc (.cells #[.slice none 0 0] riT)) p w'.heap.size [] := by
  refine (tnew_any w).mono ?_
  rintro e w' ⟨rfl, a, k1⟩
  have k2 : Kept w' (w'.alloc (.cells #[.slice none 0 0] riT)) [] := (Kept.refl w' []).alloc _
  have k3 := k.trans k1 (by simp)
  have a2 : Ls encIt rtT rtE w' W.heap.size w.heap.size (.slice none 0 0) [] := ⟨a.hh, k.size, a.hT, OwnK.nil _ _ _⟩
  exact ⟨_, rfl, OkI.nil, _, _, a2.keep k2, ⟨heap_alloc_new w' _, k3.size, by decide, RdK.nil _, fun k hk => by simp [Value.ownBlock] at hk⟩, k3.trans k2 (by simp)⟩
theorem act_cells {w : World} {g : Nat} {u0 u1 u2 u3 u4 : Value} {T : TypeId} {fz : Nat × Nat} (h : w.heap[g]? = some (.cells #[u0, u1, u2, u3, u4] T fz)) :
    w.cell? ⟨g, 0, none⟩ = some u0 ∧ w.cell? ⟨g, 1, none⟩ = some u1 ∧ w.cell? ⟨g, 2, none⟩ = some u2 ∧ w.cell? ⟨g, 3, none⟩ = some u3 ∧ w.cell? ⟨g, 4, none⟩ = some u4 :=
  ⟨by rw [cell_of_row _ _ _ _ _ _ h]; rfl, by rw [cell_of_row _ _ _ _ _ _ h]; rfl, by rw [cell_of_row _ _ _ _ _ _ h]; rfl, by rw [cell_of_row _ _ _ _ _ _ h]; rfl, by rw [cell_of_row _ _ _ _ _ _ h]; rfl⟩
theorem ev8_cells {w : World} {g : Nat} {u0 u1 u2 u3 u4 u5 u6 u7 : Value} {T : TypeId} {fz : Nat × Nat} (h : w.heap[g]? = some (.cells #[u0, u1, u2, u3, u4, u5, u6, u7] T fz)) :
    w.cell? ⟨g, 0, none⟩ = some u0 ∧ w.cell? ⟨g, 1, none⟩ = some u1 ∧ w.cell? ⟨g, 2, none⟩ = some u2 ∧ w.cell? ⟨g, 3, none⟩ = some u3 ∧ w.cell? ⟨g, 4, none⟩ = some u4 ∧ w.cell? ⟨g, 5, none⟩ = some u5 ∧ w.cell? ⟨g, 6, none⟩ = some u6 ∧ w.cell? ⟨g, 7, none⟩ = some u7 :=
  ⟨by rw [cell_of_row _ _ _ _ _ _ h]; rfl, by rw [cell_of_row _ _ _ _ _ _ h]; rfl, by rw [cell_of_row _ _ _ _ _ _ h]; rfl, by rw [cell_of_row _ _ _ _ _ _ h]; rfl, by rw [cell_of_row _ _ _ _ _ _ h]; rfl, by rw [cell_of_row _ _ _ _ _ _ h]; rfl, by rw [cell_of_row _ _ _ _ _ _ h]; rfl, by rw [cell_of_row _ _ _ _ _ _ h]; rfl⟩
end

set_option maxHeartbeats 16000000 in
set_option maxRecDepth 100000 in
theorem walk (a0 : Option Addr) (len cap : Nat) (f : Nat → ActD) (W : World) (w0 : IsActs W W.heap.size a0 len f ∧ len ≤ maxLen) :
    Calls Try.prog 3 #[.slice a0 len cap] W fun e w' => e = .returned (.bool true) ∧ Below W.heap.size W w' := by
  have HA := Lib.hid w0.1
  have hlm : len ≤ 9223372036854775807 := by have := w0.2; unfold maxLen at this; omega
  clear w0
  by_cases hg : 80 < len
  · have xg : (80 : Int) < (len : Int) := by omega
    go_enter Try.func3, Try.ntmps3
    go_wp2_with fail
    refine (seven_any W).mono ?_
    rintro e w1 ⟨rfl, k1⟩
    have K1 := Lib.hid k1; clear k1
    go_wp2_with fail
    refine (seven_any w1).mono ?_
    rintro e w2 ⟨rfl, k2⟩
    have K2 := Lib.hid (K1.out.trans k2 (by simp)); clear k2
    go_wp2
    go_ret
    exact ⟨rfl, K2.out.below (Nat.le_refl _) (by simp)⟩
  · have xg : ¬ (80 : Int) < (len : Int) := by omega
    go_enter Try.func3, Try.ntmps3
    go_wp2_with fail
    refine (seven_any W).mono ?_
    rintro e w1 ⟨rfl, k1⟩
    have K1 := Lib.hid k1; clear k1
    go_wp2_with fail
    refine (bt_new K1.out).mono ?_
    rintro e w2 ⟨p, rfl, b2⟩
    obtain ⟨q, hq⟩ : ∃ q, q = w2.heap.size := ⟨_, rfl⟩
    obtain ⟨w3, hw3⟩ : ∃ w3, w3 = w2.alloc (.cells #[.slice none 0 0] riT) := ⟨_, rfl⟩
    rw [← hq, ← hw3] at b2
    have B3 := Lib.hid b2; have HW3 := Lib.hid hw3; have HQ := Lib.hid hq
    clear b2
    go_upto_region 4 with fail
    rw [← HW3.out, ← HQ.out]
    clear hq hw3
    go_wp2
    go_loopw [5] (fun s5 wr => ∃ i : Nat, s5 = .int .i64 i ∧ i ≤ len ∧ Hid (∃ l, Bt W wr p q l)) (fun s5 _ => len - (intOf s5).toNat)
    case atStart => exact ⟨0, rfl, Nat.zero_le _, Lib.hid ⟨[], B3.out⟩⟩
    case round =>
      obtain ⟨i, rfl, hi, BE⟩ := hrel
      obtain ⟨l, bl⟩ := BE.out
      obtain ⟨ok, V, U, a, d, k0⟩ := id bl
      have BK := Lib.hid bl.kept
      clear bl BE
      by_cases hlt : i < len
      · have x1 : (i : Int) < (len : Int) := by omega
        obtain ⟨b, o, e0, -, hf⟩ := HA.out.kept BK.out (by omega)
        subst e0
        have at0 := hf i hlt
        obtain ⟨D, hD⟩ : ∃ D, D = (f i).d := ⟨_, rfl⟩
        obtain ⟨ID, hID⟩ : ∃ D, D = (f i).id := ⟨_, rfl⟩
        obtain ⟨OW, hOW⟩ : ∃ D, D = (f i).ow := ⟨_, rfl⟩
        obtain ⟨AT, hAT⟩ : ∃ D, D = (f i).a := ⟨_, rfl⟩
        obtain ⟨TR, hTR⟩ : ∃ D, D = (f i).tr := ⟨_, rfl⟩
        obtain ⟨c0, c1, c2, c3, c4⟩ : wr.cell? ⟨b, o + i * 5, none⟩ = some (.int .u8 D) ∧ wr.cell? ⟨b, o + i * 5 + 1, none⟩ = some (.int .u8 ID) ∧ wr.cell? ⟨b, o + i * 5 + 2, none⟩ = some (.int .u8 OW) ∧ wr.cell? ⟨b, o + i * 5 + 3, none⟩ = some (.int .i64 AT) ∧ wr.cell? ⟨b, o + i * 5 + 4, none⟩ = some (.int .i64 TR) := by
          rw [hD, hID, hOW, hAT, hTR]; exact ⟨at0.c0, at0.c1, at0.c2, at0.c3, at0.c4⟩
        have d8 : D < 256 := by rw [hD]; exact at0.d8
        have i8 : ID < 256 := by rw [hID]; exact at0.i8
        have o8 : OW < 256 := by rw [hOW]; exact at0.o8
        have wi := bounds_i64 at0.wa
        rw [← hAT] at wi
        clear hf at0 hD hID hOW hAT hTR
        obtain ⟨xb, hxb⟩ : ∃ xb, xb = wr.heap.size := ⟨_, rfl⟩
        obtain ⟨W1, hW1⟩ : ∃ W1, W1 = wr.alloc (.cells #[.int .u8 D, .int .u8 ID, .int .u8 OW, .int .i64 AT, .int .i64 TR] 31) := ⟨_, rfl⟩
        have k1 : Kept wr W1 [] := by rw [hW1]; exact (Kept.refl wr []).alloc _
        have g1 : W1.heap[xb]? = some (.cells #[.int .u8 D, .int .u8 ID, .int .u8 OW, .int .i64 AT, .int .i64 TR] 31 (0, 0)) := by rw [hW1, hxb]; exact heap_alloc_new wr _
        have NX1 := Lib.hid (fun k (hk : wr.heap.size ≤ k) => And.intro (fun (h : lfoot p V k) => (show False by have := (a.lt k h).2; omega)) (fun (h : lfoot q U k) => (show False by have := (d.lt k h).2; omega)))
        have HW1 := Lib.hid hW1; have HXB := Lib.hid hxb; have G1 := Lib.hid g1; have K1' := Lib.hid k1
        have A1 := Lib.hid (a.keep k1); have D1 := Lib.hid (d.keep k1); have KA := Lib.hid (k0.trans k1 (by simp)); have OK := Lib.hid ok
        clear k1 g1 a d k0 ok
        go_upto_region 8 with fail
        rw [← HW1.out, ← HXB.out]
        clear hW1 hxb c0 c1 c2 c3 c4
        obtain ⟨z0, z1, z2, z3, z4⟩ := act_cells G1.out
        obtain ⟨r3, hr3⟩ : ∃ r3, r3 = D % 3 := ⟨_, rfl⟩
        have xr3 : (D : Int) % 3 = (r3 : Int) := by omega
        have xr3t : (D : Int).tmod 3 = (r3 : Int) := by rw [Int.tmod_eq_emod_of_nonneg (by omega)]; exact xr3
        have hr33 : r3 < 3 := by omega
        clear hr3
        go_upto_if 36 with fail
        go_cut [7] (fun s7 wx => ∃ at1 : Int, s7 = .int .i64 at1 ∧ W1 = wx)
        case first =>
          by_cases h3 : r3 = 0
          · subst h3
            go_wp2_with fail
            go_meet
            exact ⟨_, rfl, rfl⟩
          · have h3' : (0 : Int) < (r3 : Int) := by omega
            go_wp2_with fail
            go_meet
            exact ⟨_, rfl, rfl⟩
        case rest =>
          obtain ⟨at1, rfl, rfl⟩ := hcut
          clear xr3 xr3t
          obtain ⟨idm, hidm⟩ : ∃ idm : Nat, (ID : Int) % 12 = (idm : Int) := ⟨ID % 12, by omega⟩
          have hidmt : (ID : Int).tmod 12 = (idm : Int) := by rw [Int.tmod_eq_emod_of_nonneg (by omega)]; exact hidm
          have hidm12 : idm < 12 := by omega
          have m3 : bits .and .i64 TR 2147483647 = TR % 2147483648 := i64_mask TR 2147483647 31 (by decide) rfl
          obtain ⟨TRm, hTRm⟩ : ∃ t : Int, t = TR % 2147483648 := ⟨_, rfl⟩
          rw [← hTRm] at m3
          have t1 : 0 ≤ TRm := by omega
          have t2 : TRm < 2147483648 := by omega
          clear hTRm
          obtain ⟨eb, heb⟩ : ∃ eb, eb = W1.heap.size := ⟨_, rfl⟩
          obtain ⟨W2, hW2⟩ : ∃ W2, W2 = W1.alloc (.cells #[.int .i64 idm, .int .i64 0, .string ⟨#[113]⟩, .int .i64 TRm, .int .i64 ID, .int .u8 0, .int .i64 0, .string ⟨#[]⟩] evT) := ⟨_, rfl⟩
          have k2 : Kept W1 W2 [] := by rw [hW2]; exact (Kept.refl W1 []).alloc _
          have g2 : W2.heap[eb]? = some (.cells #[.int .i64 idm, .int .i64 0, .string ⟨#[113]⟩, .int .i64 TRm, .int .i64 ID, .int .u8 0, .int .i64 0, .string ⟨#[]⟩] evT (0, 0)) := by rw [hW2, heb]; exact heap_alloc_new W1 _
          have hsz : wr.heap.size ≤ eb := by rw [heb]; exact K1'.out.size
          have HW2 := Lib.hid hW2; have HEB := Lib.hid heb
          have BX := Lib.hid (And.intro (k2.heap (by simp) G1.out) g2)
          have nx := NX1.out xb (by rw [HXB.out]; exact Nat.le_refl _)
          have ne := NX1.out eb hsz
          have NX := Lib.hid (And.intro nx.1 ne.1); have NX2 := Lib.hid (And.intro nx.2 ne.2)
          have A2 := Lib.hid (A1.out.keep k2); have D2 := Lib.hid (D1.out.keep k2); have K2 := Lib.hid (KA.out.trans k2 (by simp))
          clear k2 g2 heb nx ne hsz
          go_upto_region 12 with fail
          rw [← HW2.out, ← HEB.out]
          clear hW2 z0 z1 z2 z3 z4 m3 hidm hidmt
          obtain ⟨z0, z1, z2, z3, z4⟩ := act_cells BX.out.1
          rcases (show D % 8 = 0 ∨ D % 8 = 1 ∨ D % 8 = 2 ∨ D % 8 = 3 ∨ D % 8 = 4 ∨ D % 8 = 5 ∨ D % 8 = 6 ∨ D % 8 = 7 by omega) with hr8 | hr8 | hr8 | hr8 | hr8 | hr8 | hr8 | hr8
          · as_aux_lemma =>
              have xr8 : (D : Int) % 8 = 0 := by omega
              obtain ⟨E, hE⟩ : ∃ E, E = adiE l idm (ownN OW) := ⟨_, rfl⟩
              obtain ⟨m, hm⟩ : ∃ m, m = adiL l ⟨idm, 0, ⟨#[113]⟩, TRm, ID, 0, 0, ⟨#[]⟩⟩ (ownN OW) at1 := ⟨_, rfl⟩
              have okm : OkI m := by rw [hm]; exact OK.out.add _ _ _
              have CA := Lib.hid (fun Z (kz : Kept W2 Z []) => tadd_any (A2.out.keep kz) OK.out ⟨idm, 0, ⟨#[113]⟩, TRm, ID, 0, 0, ⟨#[]⟩⟩ (by show -9223372036854775808 ≤ TRm; omega) (ownN OW) at1)
              have CD := Lib.hid (fun Z (d : Lr encIt riT riE Z W.heap.size q U l) => radd_any d OK.out ⟨idm, 0, ⟨#[113]⟩, TRm, ID, 0, 0, ⟨#[]⟩⟩ (by show -9223372036854775808 ≤ TRm; omega) (ownN OW) at1)
              rw [← hm, ← hE] at CA CD
              simp only [encEv, Ev.cs] at CA CD
              have OKM := Lib.hid okm
              clear hE hm okm
              go_upto_region 20 with fail
              refine wp_region_held_drew (S := fun Z => Z.heap[xb]? = some (.cells #[.int .u8 D, .int .u8 ID, .int .u8 OW, .int .i64 AT, .int .i64 TR] 31 (0, 0)) ∧ Z.heap[eb]? = some (.cells #[.int .i64 idm, .int .i64 0, .string ⟨#[113]⟩, .int .i64 TRm, .int .i64 ID, .int .u8 0, .int .i64 0, .string ⟨#[]⟩] evT (0, 0))) (by kernel_rfl) BX.out (fun hHeld => ?_)
              refine wpAnyH_take (i := 0) (oi := _) (v := .pointer (some ⟨p, 0, none⟩)) rfl (by kernel_rfl) (by kernel_rfl) (by kernel_rfl) (fun _ _ _ h => h) (Or.inl ⟨by rfl, fun V hV => by go_simp⟩) hHeld ?_
              change wpAnyH _ _ _ _ _ _ _ (Act.put _ (some 71) _) _
              simp only [Act.put, List.setIfInBounds_toArray, List.set_cons_zero, List.set_cons_succ]
              refine wpAnyH_take (i := 1) (oi := _) (v := .agg #[.int .i64 idm, .int .i64 0, .string ⟨#[113]⟩, .int .i64 TRm, .int .i64 ID, .int .u8 0, .int .i64 0, .string ⟨#[]⟩]) rfl (by kernel_rfl) (by kernel_rfl) (by kernel_rfl) (fun _ _ _ h => h) (Or.inl ⟨by rfl, fun V hV => by (obtain ⟨y0, y1, y2, y3, y4, y5, y6, y7⟩ := ev8_cells hV.2; clear hV; go_simp)⟩) hHeld ?_
              change wpAnyH _ _ _ _ _ _ _ (Act.put _ (some 72) _) _
              simp only [Act.put, List.setIfInBounds_toArray, List.set_cons_zero, List.set_cons_succ]
              refine wpAnyH_take (i := 2) (oi := _) (v := .pointer (some ⟨xb, 2, none⟩)) rfl (by kernel_rfl) (by kernel_rfl) (by kernel_rfl) (fun _ _ _ h => h) (Or.inl ⟨by rfl, fun V hV => by go_simp⟩) hHeld ?_
              change wpAnyH _ _ _ _ _ _ _ (Act.put _ (some 73) _) _
              simp only [Act.put, List.setIfInBounds_toArray, List.set_cons_zero, List.set_cons_succ]
              refine wpAnyH_take (i := 3) (oi := _) (v := .int .u8 OW) rfl (by kernel_rfl) (by kernel_rfl) (by kernel_rfl) (fun _ _ _ h => h) (Or.inl ⟨by rfl, fun V hV => by (have c9 := (act_cells hV.1).2.2.1; clear hV; go_simp)⟩) hHeld ?_
              change wpAnyH _ _ _ _ _ _ _ (Act.put _ (some 74) _) _
              simp only [Act.put, List.setIfInBounds_toArray, List.set_cons_zero, List.set_cons_succ]
              refine wpAnyH_take (i := 5) (oi := _) (v := .int .i64 at1) rfl (by kernel_rfl) (by kernel_rfl) (by kernel_rfl) (fun _ _ _ h => h) (Or.inl ⟨by rfl, fun V hV => by go_simp⟩) hHeld ?_
              change wpAnyH _ _ _ _ _ _ _ (Act.put _ (some 76) _) _
              simp only [Act.put, List.setIfInBounds_toArray, List.set_cons_zero, List.set_cons_succ]
              refine wpAnyH_take (i := 7) (oi := _) (v := .pointer (some ⟨q, 0, none⟩)) rfl (by kernel_rfl) (by kernel_rfl) (by kernel_rfl) (fun _ _ _ h => h) (Or.inl ⟨by rfl, fun V hV => by go_simp⟩) hHeld ?_
              change wpAnyH _ _ _ _ _ _ _ (Act.put _ (some 78) _) _
              simp only [Act.put, List.setIfInBounds_toArray, List.set_cons_zero, List.set_cons_succ]
              refine wpAnyH_take (i := 8) (oi := _) (v := .agg #[.int .i64 idm, .int .i64 0, .string ⟨#[113]⟩, .int .i64 TRm, .int .i64 ID, .int .u8 0, .int .i64 0, .string ⟨#[]⟩]) rfl (by kernel_rfl) (by kernel_rfl) (by kernel_rfl) (fun _ _ _ h => h) (Or.inl ⟨by rfl, fun V hV => by (obtain ⟨y0, y1, y2, y3, y4, y5, y6, y7⟩ := ev8_cells hV.2; clear hV; go_simp)⟩) hHeld ?_
              change wpAnyH _ _ _ _ _ _ _ (Act.put _ (some 79) _) _
              simp only [Act.put, List.setIfInBounds_toArray, List.set_cons_zero, List.set_cons_succ]
              refine wpAnyH_take (i := 9) (oi := _) (v := .pointer (some ⟨xb, 2, none⟩)) rfl (by kernel_rfl) (by kernel_rfl) (by kernel_rfl) (fun _ _ _ h => h) (Or.inl ⟨by rfl, fun V hV => by go_simp⟩) hHeld ?_
              change wpAnyH _ _ _ _ _ _ _ (Act.put _ (some 80) _) _
              simp only [Act.put, List.setIfInBounds_toArray, List.set_cons_zero, List.set_cons_succ]
              refine wpAnyH_take (i := 10) (oi := _) (v := .int .u8 OW) rfl (by kernel_rfl) (by kernel_rfl) (by kernel_rfl) (fun _ _ _ h => h) (Or.inl ⟨by rfl, fun V hV => by (have c9 := (act_cells hV.1).2.2.1; clear hV; go_simp)⟩) hHeld ?_
              change wpAnyH _ _ _ _ _ _ _ (Act.put _ (some 81) _) _
              simp only [Act.put, List.setIfInBounds_toArray, List.set_cons_zero, List.set_cons_succ]
              refine wpAnyH_take (i := 12) (oi := _) (v := .int .i64 at1) rfl (by kernel_rfl) (by kernel_rfl) (by kernel_rfl) (fun _ _ _ h => h) (Or.inl ⟨by rfl, fun V hV => by go_simp⟩) hHeld ?_
              change wpAnyH _ _ _ _ _ _ _ (Act.put _ (some 83) _) _
              simp only [Act.put, List.setIfInBounds_toArray, List.set_cons_zero, List.set_cons_succ]
              refine wpAnyH_ready (rs := [4]) (by kernel_rfl) (by simp) ?_
              refine AllReadyH.cons (o := _) rfl (fun K hK => ?_) AllReadyH.nil
              go_simp
              go_at_call 12
              refine (owner_any OW o8 _).mono ?_
              rintro r wa ⟨rfl, ka⟩
              have ka := (Kept.refl W2 []).drew.trans ka (by simp)
              have hS := And.intro (ka.heap (by simp) BX.out.1) (ka.heap (by simp) BX.out.2)
              go_wp2_with fail
              refine hK.out _ _ hS (fun hHeld => ?_)
              clear hK K
              refine wpAnyH_ready (rs := [6]) (by kernel_rfl) (by simp) ?_
              refine AllReadyH.cons (o := _) rfl (fun K hK => ?_) AllReadyH.nil
              go_simp
              go_at_call 11
              refine (CA.out wa ka).mono ?_
              rintro r wb ⟨rfl, V', a', s⟩
              obtain ⟨d1, k1⟩ := bd_step1 (A2.out.keep ka) (D2.out.keep ka) (K2.out.trans ka (by simp)) s
              have hS := And.intro (s.1.heap NX.out.1 (ka.heap (by simp) BX.out.1)) (s.1.heap NX.out.2 (ka.heap (by simp) BX.out.2))
              clear s
              go_wp2_with fail
              refine hK.out _ _ hS (fun hHeld => ?_)
              clear hK K
              refine wpAnyH_ready (rs := [11]) (by kernel_rfl) (by simp) ?_
              refine AllReadyH.cons (o := _) rfl (fun K hK => ?_) AllReadyH.nil
              go_simp
              go_at_call 12
              refine (owner_any OW o8 _).mono ?_
              rintro r wd ⟨rfl, kd⟩
              have kd := (Kept.refl wb []).trans kd (by simp)
              have hS := And.intro (kd.heap (by simp) hS.1) (kd.heap (by simp) hS.2)
              go_wp2_with fail
              refine hK.out _ _ hS (fun hHeld => ?_)
              clear hK K
              refine wpAnyH_ready (rs := [13]) (by kernel_rfl) (by simp) ?_
              refine AllReadyH.cons (o := _) rfl (fun K hK => ?_) AllReadyH.nil
              go_simp
              go_at_call 13
              refine (CD.out wd (d1.keep kd)).mono ?_
              rintro r we ⟨rfl, U', d', s2⟩
              obtain ⟨a2, k2⟩ := bd_step2 (a'.keep kd) (d1.keep kd) (k1.trans kd (by simp)) s2
              have b9 : Bt W we p q m := ⟨OKM.out, V', U', a2, d', k2⟩
              have hS2 := And.intro (s2.1.heap NX2.out.1 hS.1) (s2.1.heap NX2.out.2 hS.2)
              clear a' d1 k1 kd a2 k2 d' s2 hS ka
              go_wp2_with fail
              refine hK.out _ _ hS2 (fun hHeld => ?_)
              clear hK K hS2
              refine wpAnyH_take (i := 14) (oi := _) (v := .bool true) rfl (by kernel_rfl) (by kernel_rfl) (by kernel_rfl) (fun _ _ _ h => h) (Or.inl ⟨by rfl, fun V hV => by go_simp⟩) hHeld ?_
              change wpAnyH _ _ _ _ _ _ _ (Act.put _ (some 85) _) _
              simp only [Act.put, List.setIfInBounds_toArray, List.set_cons_zero, List.set_cons_succ]
              refine wpAnyH_take (i := 15) (oi := _) (v := .bool true) rfl (by kernel_rfl) (by kernel_rfl) (by kernel_rfl) (fun _ _ _ h => h) (Or.inl ⟨by rfl, fun V hV => by go_simp⟩) hHeld ?_
              change wpAnyH _ _ _ _ _ _ _ (Act.put _ (some 9) _) _
              simp only [Act.put, List.setIfInBounds_toArray, List.set_cons_zero, List.set_cons_succ]
              refine wpAnyH_done (by kernel_rfl) ?_ _
              clear hHeld
              have B9 := Lib.hid b9
              obtain ⟨ok9, V9, U9, a9, d9, k9⟩ := id b9
              have LK := Lib.hid (like_any a9 d9 ok9.few)
              clear b9 ok9 a9 d9 k9
              go_wp2_with fail
              refine LK.out.mono ?_
              rintro r wy ⟨rfl, ky⟩
              have B10 := Lib.hid (show ∃ l, Bt W wy p q l from ⟨_, B9.out.keep ky⟩)
              clear ky
              go_wp2
              go_roundw
              case rel => exact ⟨i + 1, by go_num, by omega, B10⟩
              case measure => simp [intOf]; omega
          · as_aux_lemma =>
              have xr8 : (D : Int) % 8 = 1 := by omega
              obtain ⟨E, hE⟩ : ∃ E, E = adiE l idm (ownN OW) := ⟨_, rfl⟩
              obtain ⟨m, hm⟩ : ∃ m, m = adiL l ⟨idm, 0, ⟨#[113]⟩, TRm, ID, 0, 0, ⟨#[]⟩⟩ (ownN OW) at1 := ⟨_, rfl⟩
              have okm : OkI m := by rw [hm]; exact OK.out.add _ _ _
              have CA := Lib.hid (fun Z (kz : Kept W2 Z []) => tadd_any (A2.out.keep kz) OK.out ⟨idm, 0, ⟨#[113]⟩, TRm, ID, 0, 0, ⟨#[]⟩⟩ (by show -9223372036854775808 ≤ TRm; omega) (ownN OW) at1)
              have CD := Lib.hid (fun Z (d : Lr encIt riT riE Z W.heap.size q U l) => radd_any d OK.out ⟨idm, 0, ⟨#[113]⟩, TRm, ID, 0, 0, ⟨#[]⟩⟩ (by show -9223372036854775808 ≤ TRm; omega) (ownN OW) at1)
              rw [← hm, ← hE] at CA CD
              simp only [encEv, Ev.cs] at CA CD
              have OKM := Lib.hid okm
              clear hE hm okm
              go_upto_region 20 with fail
              refine wp_region_held_drew (S := fun Z => Z.heap[xb]? = some (.cells #[.int .u8 D, .int .u8 ID, .int .u8 OW, .int .i64 AT, .int .i64 TR] 31 (0, 0)) ∧ Z.heap[eb]? = some (.cells #[.int .i64 idm, .int .i64 0, .string ⟨#[113]⟩, .int .i64 TRm, .int .i64 ID, .int .u8 0, .int .i64 0, .string ⟨#[]⟩] evT (0, 0))) (by kernel_rfl) BX.out (fun hHeld => ?_)
              refine wpAnyH_take (i := 0) (oi := _) (v := .pointer (some ⟨p, 0, none⟩)) rfl (by kernel_rfl) (by kernel_rfl) (by kernel_rfl) (fun _ _ _ h => h) (Or.inl ⟨by rfl, fun V hV => by go_simp⟩) hHeld ?_
              change wpAnyH _ _ _ _ _ _ _ (Act.put _ (some 71) _) _
              simp only [Act.put, List.setIfInBounds_toArray, List.set_cons_zero, List.set_cons_succ]
              refine wpAnyH_take (i := 1) (oi := _) (v := .agg #[.int .i64 idm, .int .i64 0, .string ⟨#[113]⟩, .int .i64 TRm, .int .i64 ID, .int .u8 0, .int .i64 0, .string ⟨#[]⟩]) rfl (by kernel_rfl) (by kernel_rfl) (by kernel_rfl) (fun _ _ _ h => h) (Or.inl ⟨by rfl, fun V hV => by (obtain ⟨y0, y1, y2, y3, y4, y5, y6, y7⟩ := ev8_cells hV.2; clear hV; go_simp)⟩) hHeld ?_
              change wpAnyH _ _ _ _ _ _ _ (Act.put _ (some 72) _) _
              simp only [Act.put, List.setIfInBounds_toArray, List.set_cons_zero, List.set_cons_succ]
              refine wpAnyH_take (i := 2) (oi := _) (v := .pointer (some ⟨xb, 2, none⟩)) rfl (by kernel_rfl) (by kernel_rfl) (by kernel_rfl) (fun _ _ _ h => h) (Or.inl ⟨by rfl, fun V hV => by go_simp⟩) hHeld ?_
              change wpAnyH _ _ _ _ _ _ _ (Act.put _ (some 73) _) _
              simp only [Act.put, List.setIfInBounds_toArray, List.set_cons_zero, List.set_cons_succ]
              refine wpAnyH_take (i := 3) (oi := _) (v := .int .u8 OW) rfl (by kernel_rfl) (by kernel_rfl) (by kernel_rfl) (fun _ _ _ h => h) (Or.inl ⟨by rfl, fun V hV => by (have c9 := (act_cells hV.1).2.2.1; clear hV; go_simp)⟩) hHeld ?_
              change wpAnyH _ _ _ _ _ _ _ (Act.put _ (some 74) _) _
              simp only [Act.put, List.setIfInBounds_toArray, List.set_cons_zero, List.set_cons_succ]
              refine wpAnyH_take (i := 5) (oi := _) (v := .int .i64 at1) rfl (by kernel_rfl) (by kernel_rfl) (by kernel_rfl) (fun _ _ _ h => h) (Or.inl ⟨by rfl, fun V hV => by go_simp⟩) hHeld ?_
              change wpAnyH _ _ _ _ _ _ _ (Act.put _ (some 76) _) _
              simp only [Act.put, List.setIfInBounds_toArray, List.set_cons_zero, List.set_cons_succ]
              refine wpAnyH_take (i := 7) (oi := _) (v := .pointer (some ⟨q, 0, none⟩)) rfl (by kernel_rfl) (by kernel_rfl) (by kernel_rfl) (fun _ _ _ h => h) (Or.inl ⟨by rfl, fun V hV => by go_simp⟩) hHeld ?_
              change wpAnyH _ _ _ _ _ _ _ (Act.put _ (some 78) _) _
              simp only [Act.put, List.setIfInBounds_toArray, List.set_cons_zero, List.set_cons_succ]
              refine wpAnyH_take (i := 8) (oi := _) (v := .agg #[.int .i64 idm, .int .i64 0, .string ⟨#[113]⟩, .int .i64 TRm, .int .i64 ID, .int .u8 0, .int .i64 0, .string ⟨#[]⟩]) rfl (by kernel_rfl) (by kernel_rfl) (by kernel_rfl) (fun _ _ _ h => h) (Or.inl ⟨by rfl, fun V hV => by (obtain ⟨y0, y1, y2, y3, y4, y5, y6, y7⟩ := ev8_cells hV.2; clear hV; go_simp)⟩) hHeld ?_
              change wpAnyH _ _ _ _ _ _ _ (Act.put _ (some 79) _) _
              simp only [Act.put, List.setIfInBounds_toArray, List.set_cons_zero, List.set_cons_succ]
              refine wpAnyH_take (i := 9) (oi := _) (v := .pointer (some ⟨xb, 2, none⟩)) rfl (by kernel_rfl) (by kernel_rfl) (by kernel_rfl) (fun _ _ _ h => h) (Or.inl ⟨by rfl, fun V hV => by go_simp⟩) hHeld ?_
              change wpAnyH _ _ _ _ _ _ _ (Act.put _ (some 80) _) _
              simp only [Act.put, List.setIfInBounds_toArray, List.set_cons_zero, List.set_cons_succ]
              refine wpAnyH_take (i := 10) (oi := _) (v := .int .u8 OW) rfl (by kernel_rfl) (by kernel_rfl) (by kernel_rfl) (fun _ _ _ h => h) (Or.inl ⟨by rfl, fun V hV => by (have c9 := (act_cells hV.1).2.2.1; clear hV; go_simp)⟩) hHeld ?_
              change wpAnyH _ _ _ _ _ _ _ (Act.put _ (some 81) _) _
              simp only [Act.put, List.setIfInBounds_toArray, List.set_cons_zero, List.set_cons_succ]
              refine wpAnyH_take (i := 12) (oi := _) (v := .int .i64 at1) rfl (by kernel_rfl) (by kernel_rfl) (by kernel_rfl) (fun _ _ _ h => h) (Or.inl ⟨by rfl, fun V hV => by go_simp⟩) hHeld ?_
              change wpAnyH _ _ _ _ _ _ _ (Act.put _ (some 83) _) _
              simp only [Act.put, List.setIfInBounds_toArray, List.set_cons_zero, List.set_cons_succ]
              refine wpAnyH_ready (rs := [4]) (by kernel_rfl) (by simp) ?_
              refine AllReadyH.cons (o := _) rfl (fun K hK => ?_) AllReadyH.nil
              go_simp
              go_at_call 12
              refine (owner_any OW o8 _).mono ?_
              rintro r wa ⟨rfl, ka⟩
              have ka := (Kept.refl W2 []).drew.trans ka (by simp)
              have hS := And.intro (ka.heap (by simp) BX.out.1) (ka.heap (by simp) BX.out.2)
              go_wp2_with fail
              refine hK.out _ _ hS (fun hHeld => ?_)
              clear hK K
              refine wpAnyH_ready (rs := [6]) (by kernel_rfl) (by simp) ?_
              refine AllReadyH.cons (o := _) rfl (fun K hK => ?_) AllReadyH.nil
              go_simp
              go_at_call 11
              refine (CA.out wa ka).mono ?_
              rintro r wb ⟨rfl, V', a', s⟩
              obtain ⟨d1, k1⟩ := bd_step1 (A2.out.keep ka) (D2.out.keep ka) (K2.out.trans ka (by simp)) s
              have hS := And.intro (s.1.heap NX.out.1 (ka.heap (by simp) BX.out.1)) (s.1.heap NX.out.2 (ka.heap (by simp) BX.out.2))
              clear s
              go_wp2_with fail
              refine hK.out _ _ hS (fun hHeld => ?_)
              clear hK K
              refine wpAnyH_ready (rs := [11]) (by kernel_rfl) (by simp) ?_
              refine AllReadyH.cons (o := _) rfl (fun K hK => ?_) AllReadyH.nil
              go_simp
              go_at_call 12
              refine (owner_any OW o8 _).mono ?_
              rintro r wd ⟨rfl, kd⟩
              have kd := (Kept.refl wb []).trans kd (by simp)
              have hS := And.intro (kd.heap (by simp) hS.1) (kd.heap (by simp) hS.2)
              go_wp2_with fail
              refine hK.out _ _ hS (fun hHeld => ?_)
              clear hK K
              refine wpAnyH_ready (rs := [13]) (by kernel_rfl) (by simp) ?_
              refine AllReadyH.cons (o := _) rfl (fun K hK => ?_) AllReadyH.nil
              go_simp
              go_at_call 13
              refine (CD.out wd (d1.keep kd)).mono ?_
              rintro r we ⟨rfl, U', d', s2⟩
              obtain ⟨a2, k2⟩ := bd_step2 (a'.keep kd) (d1.keep kd) (k1.trans kd (by simp)) s2
              have b9 : Bt W we p q m := ⟨OKM.out, V', U', a2, d', k2⟩
              have hS2 := And.intro (s2.1.heap NX2.out.1 hS.1) (s2.1.heap NX2.out.2 hS.2)
              clear a' d1 k1 kd a2 k2 d' s2 hS ka
              go_wp2_with fail
              refine hK.out _ _ hS2 (fun hHeld => ?_)
              clear hK K hS2
              refine wpAnyH_take (i := 14) (oi := _) (v := .bool true) rfl (by kernel_rfl) (by kernel_rfl) (by kernel_rfl) (fun _ _ _ h => h) (Or.inl ⟨by rfl, fun V hV => by go_simp⟩) hHeld ?_
              change wpAnyH _ _ _ _ _ _ _ (Act.put _ (some 85) _) _
              simp only [Act.put, List.setIfInBounds_toArray, List.set_cons_zero, List.set_cons_succ]
              refine wpAnyH_take (i := 15) (oi := _) (v := .bool true) rfl (by kernel_rfl) (by kernel_rfl) (by kernel_rfl) (fun _ _ _ h => h) (Or.inl ⟨by rfl, fun V hV => by go_simp⟩) hHeld ?_
              change wpAnyH _ _ _ _ _ _ _ (Act.put _ (some 9) _) _
              simp only [Act.put, List.setIfInBounds_toArray, List.set_cons_zero, List.set_cons_succ]
              refine wpAnyH_done (by kernel_rfl) ?_ _
              clear hHeld
              have B9 := Lib.hid b9
              obtain ⟨ok9, V9, U9, a9, d9, k9⟩ := id b9
              have LK := Lib.hid (like_any a9 d9 ok9.few)
              clear b9 ok9 a9 d9 k9
              go_wp2_with fail
              refine LK.out.mono ?_
              rintro r wy ⟨rfl, ky⟩
              have B10 := Lib.hid (show ∃ l, Bt W wy p q l from ⟨_, B9.out.keep ky⟩)
              clear ky
              go_wp2
              go_roundw
              case rel => exact ⟨i + 1, by go_num, by omega, B10⟩
              case measure => simp [intOf]; omega
          · as_aux_lemma =>
              have xr8 : (D : Int) % 8 = 2 := by omega
              obtain ⟨E, hE⟩ : ∃ E, E = adiE l idm (ownN OW) := ⟨_, rfl⟩
              obtain ⟨m, hm⟩ : ∃ m, m = adiL l ⟨idm, 0, ⟨#[113]⟩, TRm, ID, 0, 0, ⟨#[]⟩⟩ (ownN OW) at1 := ⟨_, rfl⟩
              have okm : OkI m := by rw [hm]; exact OK.out.add _ _ _
              have CA := Lib.hid (fun Z (kz : Kept W2 Z []) => tadd_any (A2.out.keep kz) OK.out ⟨idm, 0, ⟨#[113]⟩, TRm, ID, 0, 0, ⟨#[]⟩⟩ (by show -9223372036854775808 ≤ TRm; omega) (ownN OW) at1)
              have CD := Lib.hid (fun Z (d : Lr encIt riT riE Z W.heap.size q U l) => radd_any d OK.out ⟨idm, 0, ⟨#[113]⟩, TRm, ID, 0, 0, ⟨#[]⟩⟩ (by show -9223372036854775808 ≤ TRm; omega) (ownN OW) at1)
              rw [← hm, ← hE] at CA CD
              simp only [encEv, Ev.cs] at CA CD
              have OKM := Lib.hid okm
              clear hE hm okm
              go_upto_region 20 with fail
              refine wp_region_held_drew (S := fun Z => Z.heap[xb]? = some (.cells #[.int .u8 D, .int .u8 ID, .int .u8 OW, .int .i64 AT, .int .i64 TR] 31 (0, 0)) ∧ Z.heap[eb]? = some (.cells #[.int .i64 idm, .int .i64 0, .string ⟨#[113]⟩, .int .i64 TRm, .int .i64 ID, .int .u8 0, .int .i64 0, .string ⟨#[]⟩] evT (0, 0))) (by kernel_rfl) BX.out (fun hHeld => ?_)
              refine wpAnyH_take (i := 0) (oi := _) (v := .pointer (some ⟨p, 0, none⟩)) rfl (by kernel_rfl) (by kernel_rfl) (by kernel_rfl) (fun _ _ _ h => h) (Or.inl ⟨by rfl, fun V hV => by go_simp⟩) hHeld ?_
              change wpAnyH _ _ _ _ _ _ _ (Act.put _ (some 71) _) _
              simp only [Act.put, List.setIfInBounds_toArray, List.set_cons_zero, List.set_cons_succ]
              refine wpAnyH_take (i := 1) (oi := _) (v := .agg #[.int .i64 idm, .int .i64 0, .string ⟨#[113]⟩, .int .i64 TRm, .int .i64 ID, .int .u8 0, .int .i64 0, .string ⟨#[]⟩]) rfl (by kernel_rfl) (by kernel_rfl) (by kernel_rfl) (fun _ _ _ h => h) (Or.inl ⟨by rfl, fun V hV => by (obtain ⟨y0, y1, y2, y3, y4, y5, y6, y7⟩ := ev8_cells hV.2; clear hV; go_simp)⟩) hHeld ?_
              change wpAnyH _ _ _ _ _ _ _ (Act.put _ (some 72) _) _
              simp only [Act.put, List.setIfInBounds_toArray, List.set_cons_zero, List.set_cons_succ]
              refine wpAnyH_take (i := 2) (oi := _) (v := .pointer (some ⟨xb, 2, none⟩)) rfl (by kernel_rfl) (by kernel_rfl) (by kernel_rfl) (fun _ _ _ h => h) (Or.inl ⟨by rfl, fun V hV => by go_simp⟩) hHeld ?_
              change wpAnyH _ _ _ _ _ _ _ (Act.put _ (some 73) _) _
              simp only [Act.put, List.setIfInBounds_toArray, List.set_cons_zero, List.set_cons_succ]
              refine wpAnyH_take (i := 3) (oi := _) (v := .int .u8 OW) rfl (by kernel_rfl) (by kernel_rfl) (by kernel_rfl) (fun _ _ _ h => h) (Or.inl ⟨by rfl, fun V hV => by (have c9 := (act_cells hV.1).2.2.1; clear hV; go_simp)⟩) hHeld ?_
              change wpAnyH _ _ _ _ _ _ _ (Act.put _ (some 74) _) _
              simp only [Act.put, List.setIfInBounds_toArray, List.set_cons_zero, List.set_cons_succ]
              refine wpAnyH_take (i := 5) (oi := _) (v := .int .i64 at1) rfl (by kernel_rfl) (by kernel_rfl) (by kernel_rfl) (fun _ _ _ h => h) (Or.inl ⟨by rfl, fun V hV => by go_simp⟩) hHeld ?_
              change wpAnyH _ _ _ _ _ _ _ (Act.put _ (some 76) _) _
              simp only [Act.put, List.setIfInBounds_toArray, List.set_cons_zero, List.set_cons_succ]
              refine wpAnyH_take (i := 7) (oi := _) (v := .pointer (some ⟨q, 0, none⟩)) rfl (by kernel_rfl) (by kernel_rfl) (by kernel_rfl) (fun _ _ _ h => h) (Or.inl ⟨by rfl, fun V hV => by go_simp⟩) hHeld ?_
              change wpAnyH _ _ _ _ _ _ _ (Act.put _ (some 78) _) _
              simp only [Act.put, List.setIfInBounds_toArray, List.set_cons_zero, List.set_cons_succ]
              refine wpAnyH_take (i := 8) (oi := _) (v := .agg #[.int .i64 idm, .int .i64 0, .string ⟨#[113]⟩, .int .i64 TRm, .int .i64 ID, .int .u8 0, .int .i64 0, .string ⟨#[]⟩]) rfl (by kernel_rfl) (by kernel_rfl) (by kernel_rfl) (fun _ _ _ h => h) (Or.inl ⟨by rfl, fun V hV => by (obtain ⟨y0, y1, y2, y3, y4, y5, y6, y7⟩ := ev8_cells hV.2; clear hV; go_simp)⟩) hHeld ?_
              change wpAnyH _ _ _ _ _ _ _ (Act.put _ (some 79) _) _
              simp only [Act.put, List.setIfInBounds_toArray, List.set_cons_zero, List.set_cons_succ]
              refine wpAnyH_take (i := 9) (oi := _) (v := .pointer (some ⟨xb, 2, none⟩)) rfl (by kernel_rfl) (by kernel_rfl) (by kernel_rfl) (fun _ _ _ h => h) (Or.inl ⟨by rfl, fun V hV => by go_simp⟩) hHeld ?_
              change wpAnyH _ _ _ _ _ _ _ (Act.put _ (some 80) _) _
              simp only [Act.put, List.setIfInBounds_toArray, List.set_cons_zero, List.set_cons_succ]
              refine wpAnyH_take (i := 10) (oi := _) (v := .int .u8 OW) rfl (by kernel_rfl) (by kernel_rfl) (by kernel_rfl) (fun _ _ _ h => h) (Or.inl ⟨by rfl, fun V hV => by (have c9 := (act_cells hV.1).2.2.1; clear hV; go_simp)⟩) hHeld ?_
              change wpAnyH _ _ _ _ _ _ _ (Act.put _ (some 81) _) _
              simp only [Act.put, List.setIfInBounds_toArray, List.set_cons_zero, List.set_cons_succ]
              refine wpAnyH_take (i := 12) (oi := _) (v := .int .i64 at1) rfl (by kernel_rfl) (by kernel_rfl) (by kernel_rfl) (fun _ _ _ h => h) (Or.inl ⟨by rfl, fun V hV => by go_simp⟩) hHeld ?_
              change wpAnyH _ _ _ _ _ _ _ (Act.put _ (some 83) _) _
              simp only [Act.put, List.setIfInBounds_toArray, List.set_cons_zero, List.set_cons_succ]
              refine wpAnyH_ready (rs := [4]) (by kernel_rfl) (by simp) ?_
              refine AllReadyH.cons (o := _) rfl (fun K hK => ?_) AllReadyH.nil
              go_simp
              go_at_call 12
              refine (owner_any OW o8 _).mono ?_
              rintro r wa ⟨rfl, ka⟩
              have ka := (Kept.refl W2 []).drew.trans ka (by simp)
              have hS := And.intro (ka.heap (by simp) BX.out.1) (ka.heap (by simp) BX.out.2)
              go_wp2_with fail
              refine hK.out _ _ hS (fun hHeld => ?_)
              clear hK K
              refine wpAnyH_ready (rs := [6]) (by kernel_rfl) (by simp) ?_
              refine AllReadyH.cons (o := _) rfl (fun K hK => ?_) AllReadyH.nil
              go_simp
              go_at_call 11
              refine (CA.out wa ka).mono ?_
              rintro r wb ⟨rfl, V', a', s⟩
              obtain ⟨d1, k1⟩ := bd_step1 (A2.out.keep ka) (D2.out.keep ka) (K2.out.trans ka (by simp)) s
              have hS := And.intro (s.1.heap NX.out.1 (ka.heap (by simp) BX.out.1)) (s.1.heap NX.out.2 (ka.heap (by simp) BX.out.2))
              clear s
              go_wp2_with fail
              refine hK.out _ _ hS (fun hHeld => ?_)
              clear hK K
              refine wpAnyH_ready (rs := [11]) (by kernel_rfl) (by simp) ?_
              refine AllReadyH.cons (o := _) rfl (fun K hK => ?_) AllReadyH.nil
              go_simp
              go_at_call 12
              refine (owner_any OW o8 _).mono ?_
              rintro r wd ⟨rfl, kd⟩
              have kd := (Kept.refl wb []).trans kd (by simp)
              have hS := And.intro (kd.heap (by simp) hS.1) (kd.heap (by simp) hS.2)
              go_wp2_with fail
              refine hK.out _ _ hS (fun hHeld => ?_)
              clear hK K
              refine wpAnyH_ready (rs := [13]) (by kernel_rfl) (by simp) ?_
              refine AllReadyH.cons (o := _) rfl (fun K hK => ?_) AllReadyH.nil
              go_simp
              go_at_call 13
              refine (CD.out wd (d1.keep kd)).mono ?_
              rintro r we ⟨rfl, U', d', s2⟩
              obtain ⟨a2, k2⟩ := bd_step2 (a'.keep kd) (d1.keep kd) (k1.trans kd (by simp)) s2
              have b9 : Bt W we p q m := ⟨OKM.out, V', U', a2, d', k2⟩
              have hS2 := And.intro (s2.1.heap NX2.out.1 hS.1) (s2.1.heap NX2.out.2 hS.2)
              clear a' d1 k1 kd a2 k2 d' s2 hS ka
              go_wp2_with fail
              refine hK.out _ _ hS2 (fun hHeld => ?_)
              clear hK K hS2
              refine wpAnyH_take (i := 14) (oi := _) (v := .bool true) rfl (by kernel_rfl) (by kernel_rfl) (by kernel_rfl) (fun _ _ _ h => h) (Or.inl ⟨by rfl, fun V hV => by go_simp⟩) hHeld ?_
              change wpAnyH _ _ _ _ _ _ _ (Act.put _ (some 85) _) _
              simp only [Act.put, List.setIfInBounds_toArray, List.set_cons_zero, List.set_cons_succ]
              refine wpAnyH_take (i := 15) (oi := _) (v := .bool true) rfl (by kernel_rfl) (by kernel_rfl) (by kernel_rfl) (fun _ _ _ h => h) (Or.inl ⟨by rfl, fun V hV => by go_simp⟩) hHeld ?_
              change wpAnyH _ _ _ _ _ _ _ (Act.put _ (some 9) _) _
              simp only [Act.put, List.setIfInBounds_toArray, List.set_cons_zero, List.set_cons_succ]
              refine wpAnyH_done (by kernel_rfl) ?_ _
              clear hHeld
              have B9 := Lib.hid b9
              obtain ⟨ok9, V9, U9, a9, d9, k9⟩ := id b9
              have LK := Lib.hid (like_any a9 d9 ok9.few)
              clear b9 ok9 a9 d9 k9
              go_wp2_with fail
              refine LK.out.mono ?_
              rintro r wy ⟨rfl, ky⟩
              have B10 := Lib.hid (show ∃ l, Bt W wy p q l from ⟨_, B9.out.keep ky⟩)
              clear ky
              go_wp2
              go_roundw
              case rel => exact ⟨i + 1, by go_num, by omega, B10⟩
              case measure => simp [intOf]; omega
          · as_aux_lemma =>
              have xr8 : (D : Int) % 8 = 3 := by omega
              obtain ⟨E, hE⟩ : ∃ E, E = adiE l idm (ownN OW) := ⟨_, rfl⟩
              obtain ⟨m, hm⟩ : ∃ m, m = adiL l ⟨idm, 0, ⟨#[113]⟩, TRm, ID, 0, 0, ⟨#[]⟩⟩ (ownN OW) at1 := ⟨_, rfl⟩
              have okm : OkI m := by rw [hm]; exact OK.out.add _ _ _
              have CA := Lib.hid (fun Z (kz : Kept W2 Z []) => tadd_any (A2.out.keep kz) OK.out ⟨idm, 0, ⟨#[113]⟩, TRm, ID, 0, 0, ⟨#[]⟩⟩ (by show -9223372036854775808 ≤ TRm; omega) (ownN OW) at1)
              have CD := Lib.hid (fun Z (d : Lr encIt riT riE Z W.heap.size q U l) => radd_any d OK.out ⟨idm, 0, ⟨#[113]⟩, TRm, ID, 0, 0, ⟨#[]⟩⟩ (by show -9223372036854775808 ≤ TRm; omega) (ownN OW) at1)
              rw [← hm, ← hE] at CA CD
              simp only [encEv, Ev.cs] at CA CD
              have OKM := Lib.hid okm
              clear hE hm okm
              go_upto_region 20 with fail
              refine wp_region_held_drew (S := fun Z => Z.heap[xb]? = some (.cells #[.int .u8 D, .int .u8 ID, .int .u8 OW, .int .i64 AT, .int .i64 TR] 31 (0, 0)) ∧ Z.heap[eb]? = some (.cells #[.int .i64 idm, .int .i64 0, .string ⟨#[113]⟩, .int .i64 TRm, .int .i64 ID, .int .u8 0, .int .i64 0, .string ⟨#[]⟩] evT (0, 0))) (by kernel_rfl) BX.out (fun hHeld => ?_)
              refine wpAnyH_take (i := 0) (oi := _) (v := .pointer (some ⟨p, 0, none⟩)) rfl (by kernel_rfl) (by kernel_rfl) (by kernel_rfl) (fun _ _ _ h => h) (Or.inl ⟨by rfl, fun V hV => by go_simp⟩) hHeld ?_
              change wpAnyH _ _ _ _ _ _ _ (Act.put _ (some 71) _) _
              simp only [Act.put, List.setIfInBounds_toArray, List.set_cons_zero, List.set_cons_succ]
              refine wpAnyH_take (i := 1) (oi := _) (v := .agg #[.int .i64 idm, .int .i64 0, .string ⟨#[113]⟩, .int .i64 TRm, .int .i64 ID, .int .u8 0, .int .i64 0, .string ⟨#[]⟩]) rfl (by kernel_rfl) (by kernel_rfl) (by kernel_rfl) (fun _ _ _ h => h) (Or.inl ⟨by rfl, fun V hV => by (obtain ⟨y0, y1, y2, y3, y4, y5, y6, y7⟩ := ev8_cells hV.2; clear hV; go_simp)⟩) hHeld ?_
              change wpAnyH _ _ _ _ _ _ _ (Act.put _ (some 72) _) _
              simp only [Act.put, List.setIfInBounds_toArray, List.set_cons_zero, List.set_cons_succ]
              refine wpAnyH_take (i := 2) (oi := _) (v := .pointer (some ⟨xb, 2, none⟩)) rfl (by kernel_rfl) (by kernel_rfl) (by kernel_rfl) (fun _ _ _ h => h) (Or.inl ⟨by rfl, fun V hV => by go_simp⟩) hHeld ?_
              change wpAnyH _ _ _ _ _ _ _ (Act.put _ (some 73) _) _
              simp only [Act.put, List.setIfInBounds_toArray, List.set_cons_zero, List.set_cons_succ]
              refine wpAnyH_take (i := 3) (oi := _) (v := .int .u8 OW) rfl (by kernel_rfl) (by kernel_rfl) (by kernel_rfl) (fun _ _ _ h => h) (Or.inl ⟨by rfl, fun V hV => by (have c9 := (act_cells hV.1).2.2.1; clear hV; go_simp)⟩) hHeld ?_
              change wpAnyH _ _ _ _ _ _ _ (Act.put _ (some 74) _) _
              simp only [Act.put, List.setIfInBounds_toArray, List.set_cons_zero, List.set_cons_succ]
              refine wpAnyH_take (i := 5) (oi := _) (v := .int .i64 at1) rfl (by kernel_rfl) (by kernel_rfl) (by kernel_rfl) (fun _ _ _ h => h) (Or.inl ⟨by rfl, fun V hV => by go_simp⟩) hHeld ?_
              change wpAnyH _ _ _ _ _ _ _ (Act.put _ (some 76) _) _
              simp only [Act.put, List.setIfInBounds_toArray, List.set_cons_zero, List.set_cons_succ]
              refine wpAnyH_take (i := 7) (oi := _) (v := .pointer (some ⟨q, 0, none⟩)) rfl (by kernel_rfl) (by kernel_rfl) (by kernel_rfl) (fun _ _ _ h => h) (Or.inl ⟨by rfl, fun V hV => by go_simp⟩) hHeld ?_
              change wpAnyH _ _ _ _ _ _ _ (Act.put _ (some 78) _) _
              simp only [Act.put, List.setIfInBounds_toArray, List.set_cons_zero, List.set_cons_succ]
              refine wpAnyH_take (i := 8) (oi := _) (v := .agg #[.int .i64 idm, .int .i64 0, .string ⟨#[113]⟩, .int .i64 TRm, .int .i64 ID, .int .u8 0, .int .i64 0, .string ⟨#[]⟩]) rfl (by kernel_rfl) (by kernel_rfl) (by kernel_rfl) (fun _ _ _ h => h) (Or.inl ⟨by rfl, fun V hV => by (obtain ⟨y0, y1, y2, y3, y4, y5, y6, y7⟩ := ev8_cells hV.2; clear hV; go_simp)⟩) hHeld ?_
              change wpAnyH _ _ _ _ _ _ _ (Act.put _ (some 79) _) _
              simp only [Act.put, List.setIfInBounds_toArray, List.set_cons_zero, List.set_cons_succ]
              refine wpAnyH_take (i := 9) (oi := _) (v := .pointer (some ⟨xb, 2, none⟩)) rfl (by kernel_rfl) (by kernel_rfl) (by kernel_rfl) (fun _ _ _ h => h) (Or.inl ⟨by rfl, fun V hV => by go_simp⟩) hHeld ?_
              change wpAnyH _ _ _ _ _ _ _ (Act.put _ (some 80) _) _
              simp only [Act.put, List.setIfInBounds_toArray, List.set_cons_zero, List.set_cons_succ]
              refine wpAnyH_take (i := 10) (oi := _) (v := .int .u8 OW) rfl (by kernel_rfl) (by kernel_rfl) (by kernel_rfl) (fun _ _ _ h => h) (Or.inl ⟨by rfl, fun V hV => by (have c9 := (act_cells hV.1).2.2.1; clear hV; go_simp)⟩) hHeld ?_
              change wpAnyH _ _ _ _ _ _ _ (Act.put _ (some 81) _) _
              simp only [Act.put, List.setIfInBounds_toArray, List.set_cons_zero, List.set_cons_succ]
              refine wpAnyH_take (i := 12) (oi := _) (v := .int .i64 at1) rfl (by kernel_rfl) (by kernel_rfl) (by kernel_rfl) (fun _ _ _ h => h) (Or.inl ⟨by rfl, fun V hV => by go_simp⟩) hHeld ?_
              change wpAnyH _ _ _ _ _ _ _ (Act.put _ (some 83) _) _
              simp only [Act.put, List.setIfInBounds_toArray, List.set_cons_zero, List.set_cons_succ]
              refine wpAnyH_ready (rs := [4]) (by kernel_rfl) (by simp) ?_
              refine AllReadyH.cons (o := _) rfl (fun K hK => ?_) AllReadyH.nil
              go_simp
              go_at_call 12
              refine (owner_any OW o8 _).mono ?_
              rintro r wa ⟨rfl, ka⟩
              have ka := (Kept.refl W2 []).drew.trans ka (by simp)
              have hS := And.intro (ka.heap (by simp) BX.out.1) (ka.heap (by simp) BX.out.2)
              go_wp2_with fail
              refine hK.out _ _ hS (fun hHeld => ?_)
              clear hK K
              refine wpAnyH_ready (rs := [6]) (by kernel_rfl) (by simp) ?_
              refine AllReadyH.cons (o := _) rfl (fun K hK => ?_) AllReadyH.nil
              go_simp
              go_at_call 11
              refine (CA.out wa ka).mono ?_
              rintro r wb ⟨rfl, V', a', s⟩
              obtain ⟨d1, k1⟩ := bd_step1 (A2.out.keep ka) (D2.out.keep ka) (K2.out.trans ka (by simp)) s
              have hS := And.intro (s.1.heap NX.out.1 (ka.heap (by simp) BX.out.1)) (s.1.heap NX.out.2 (ka.heap (by simp) BX.out.2))
              clear s
              go_wp2_with fail
              refine hK.out _ _ hS (fun hHeld => ?_)
              clear hK K
              refine wpAnyH_ready (rs := [11]) (by kernel_rfl) (by simp) ?_
              refine AllReadyH.cons (o := _) rfl (fun K hK => ?_) AllReadyH.nil
              go_simp
              go_at_call 12
              refine (owner_any OW o8 _).mono ?_
              rintro r wd ⟨rfl, kd⟩
              have kd := (Kept.refl wb []).trans kd (by simp)
              have hS := And.intro (kd.heap (by simp) hS.1) (kd.heap (by simp) hS.2)
              go_wp2_with fail
              refine hK.out _ _ hS (fun hHeld => ?_)
              clear hK K
              refine wpAnyH_ready (rs := [13]) (by kernel_rfl) (by simp) ?_
              refine AllReadyH.cons (o := _) rfl (fun K hK => ?_) AllReadyH.nil
              go_simp
              go_at_call 13
              refine (CD.out wd (d1.keep kd)).mono ?_
              rintro r we ⟨rfl, U', d', s2⟩
              obtain ⟨a2, k2⟩ := bd_step2 (a'.keep kd) (d1.keep kd) (k1.trans kd (by simp)) s2
              have b9 : Bt W we p q m := ⟨OKM.out, V', U', a2, d', k2⟩
              have hS2 := And.intro (s2.1.heap NX2.out.1 hS.1) (s2.1.heap NX2.out.2 hS.2)
              clear a' d1 k1 kd a2 k2 d' s2 hS ka
              go_wp2_with fail
              refine hK.out _ _ hS2 (fun hHeld => ?_)
              clear hK K hS2
              refine wpAnyH_take (i := 14) (oi := _) (v := .bool true) rfl (by kernel_rfl) (by kernel_rfl) (by kernel_rfl) (fun _ _ _ h => h) (Or.inl ⟨by rfl, fun V hV => by go_simp⟩) hHeld ?_
              change wpAnyH _ _ _ _ _ _ _ (Act.put _ (some 85) _) _
              simp only [Act.put, List.setIfInBounds_toArray, List.set_cons_zero, List.set_cons_succ]
              refine wpAnyH_take (i := 15) (oi := _) (v := .bool true) rfl (by kernel_rfl) (by kernel_rfl) (by kernel_rfl) (fun _ _ _ h => h) (Or.inl ⟨by rfl, fun V hV => by go_simp⟩) hHeld ?_
              change wpAnyH _ _ _ _ _ _ _ (Act.put _ (some 9) _) _
              simp only [Act.put, List.setIfInBounds_toArray, List.set_cons_zero, List.set_cons_succ]
              refine wpAnyH_done (by kernel_rfl) ?_ _
              clear hHeld
              have B9 := Lib.hid b9
              obtain ⟨ok9, V9, U9, a9, d9, k9⟩ := id b9
              have LK := Lib.hid (like_any a9 d9 ok9.few)
              clear b9 ok9 a9 d9 k9
              go_wp2_with fail
              refine LK.out.mono ?_
              rintro r wy ⟨rfl, ky⟩
              have B10 := Lib.hid (show ∃ l, Bt W wy p q l from ⟨_, B9.out.keep ky⟩)
              clear ky
              go_wp2
              go_roundw
              case rel => exact ⟨i + 1, by go_num, by omega, B10⟩
              case measure => simp [intOf]; omega
          · as_aux_lemma =>
              have xr8 : (D : Int) % 8 = 4 := by omega
              obtain ⟨E, hE⟩ : ∃ E, E = adiE l idm (ownN OW) := ⟨_, rfl⟩
              obtain ⟨m, hm⟩ : ∃ m, m = adiL l ⟨idm, 0, ⟨#[113]⟩, TRm, ID, 0, 0, ⟨#[]⟩⟩ (ownN OW) at1 := ⟨_, rfl⟩
              have okm : OkI m := by rw [hm]; exact OK.out.add _ _ _
              have CA := Lib.hid (fun Z (kz : Kept W2 Z []) => tadd_any (A2.out.keep kz) OK.out ⟨idm, 0, ⟨#[113]⟩, TRm, ID, 0, 0, ⟨#[]⟩⟩ (by show -9223372036854775808 ≤ TRm; omega) (ownN OW) at1)
              have CD := Lib.hid (fun Z (d : Lr encIt riT riE Z W.heap.size q U l) => radd_any d OK.out ⟨idm, 0, ⟨#[113]⟩, TRm, ID, 0, 0, ⟨#[]⟩⟩ (by show -9223372036854775808 ≤ TRm; omega) (ownN OW) at1)
              rw [← hm, ← hE] at CA CD
              simp only [encEv, Ev.cs] at CA CD
              have OKM := Lib.hid okm
              clear hE hm okm
              go_upto_region 20 with fail
              refine wp_region_held_drew (S := fun Z => Z.heap[xb]? = some (.cells #[.int .u8 D, .int .u8 ID, .int .u8 OW, .int .i64 AT, .int .i64 TR] 31 (0, 0)) ∧ Z.heap[eb]? = some (.cells #[.int .i64 idm, .int .i64 0, .string ⟨#[113]⟩, .int .i64 TRm, .int .i64 ID, .int .u8 0, .int .i64 0, .string ⟨#[]⟩] evT (0, 0))) (by kernel_rfl) BX.out (fun hHeld => ?_)
              refine wpAnyH_take (i := 0) (oi := _) (v := .pointer (some ⟨p, 0, none⟩)) rfl (by kernel_rfl) (by kernel_rfl) (by kernel_rfl) (fun _ _ _ h => h) (Or.inl ⟨by rfl, fun V hV => by go_simp⟩) hHeld ?_
              change wpAnyH _ _ _ _ _ _ _ (Act.put _ (some 71) _) _
              simp only [Act.put, List.setIfInBounds_toArray, List.set_cons_zero, List.set_cons_succ]
              refine wpAnyH_take (i := 1) (oi := _) (v := .agg #[.int .i64 idm, .int .i64 0, .string ⟨#[113]⟩, .int .i64 TRm, .int .i64 ID, .int .u8 0, .int .i64 0, .string ⟨#[]⟩]) rfl (by kernel_rfl) (by kernel_rfl) (by kernel_rfl) (fun _ _ _ h => h) (Or.inl ⟨by rfl, fun V hV => by (obtain ⟨y0, y1, y2, y3, y4, y5, y6, y7⟩ := ev8_cells hV.2; clear hV; go_simp)⟩) hHeld ?_
              change wpAnyH _ _ _ _ _ _ _ (Act.put _ (some 72) _) _
              simp only [Act.put, List.setIfInBounds_toArray, List.set_cons_zero, List.set_cons_succ]
              refine wpAnyH_take (i := 2) (oi := _) (v := .pointer (some ⟨xb, 2, none⟩)) rfl (by kernel_rfl) (by kernel_rfl) (by kernel_rfl) (fun _ _ _ h => h) (Or.inl ⟨by rfl, fun V hV => by go_simp⟩) hHeld ?_
              change wpAnyH _ _ _ _ _ _ _ (Act.put _ (some 73) _) _
              simp only [Act.put, List.setIfInBounds_toArray, List.set_cons_zero, List.set_cons_succ]
              refine wpAnyH_take (i := 3) (oi := _) (v := .int .u8 OW) rfl (by kernel_rfl) (by kernel_rfl) (by kernel_rfl) (fun _ _ _ h => h) (Or.inl ⟨by rfl, fun V hV => by (have c9 := (act_cells hV.1).2.2.1; clear hV; go_simp)⟩) hHeld ?_
              change wpAnyH _ _ _ _ _ _ _ (Act.put _ (some 74) _) _
              simp only [Act.put, List.setIfInBounds_toArray, List.set_cons_zero, List.set_cons_succ]
              refine wpAnyH_take (i := 5) (oi := _) (v := .int .i64 at1) rfl (by kernel_rfl) (by kernel_rfl) (by kernel_rfl) (fun _ _ _ h => h) (Or.inl ⟨by rfl, fun V hV => by go_simp⟩) hHeld ?_
              change wpAnyH _ _ _ _ _ _ _ (Act.put _ (some 76) _) _
              simp only [Act.put, List.setIfInBounds_toArray, List.set_cons_zero, List.set_cons_succ]
              refine wpAnyH_take (i := 7) (oi := _) (v := .pointer (some ⟨q, 0, none⟩)) rfl (by kernel_rfl) (by kernel_rfl) (by kernel_rfl) (fun _ _ _ h => h) (Or.inl ⟨by rfl, fun V hV => by go_simp⟩) hHeld ?_
              change wpAnyH _ _ _ _ _ _ _ (Act.put _ (some 78) _) _
              simp only [Act.put, List.setIfInBounds_toArray, List.set_cons_zero, List.set_cons_succ]
              refine wpAnyH_take (i := 8) (oi := _) (v := .agg #[.int .i64 idm, .int .i64 0, .string ⟨#[113]⟩, .int .i64 TRm, .int .i64 ID, .int .u8 0, .int .i64 0, .string ⟨#[]⟩]) rfl (by kernel_rfl) (by kernel_rfl) (by kernel_rfl) (fun _ _ _ h => h) (Or.inl ⟨by rfl, fun V hV => by (obtain ⟨y0, y1, y2, y3, y4, y5, y6, y7⟩ := ev8_cells hV.2; clear hV; go_simp)⟩) hHeld ?_
              change wpAnyH _ _ _ _ _ _ _ (Act.put _ (some 79) _) _
              simp only [Act.put, List.setIfInBounds_toArray, List.set_cons_zero, List.set_cons_succ]
              refine wpAnyH_take (i := 9) (oi := _) (v := .pointer (some ⟨xb, 2, none⟩)) rfl (by kernel_rfl) (by kernel_rfl) (by kernel_rfl) (fun _ _ _ h => h) (Or.inl ⟨by rfl, fun V hV => by go_simp⟩) hHeld ?_
              change wpAnyH _ _ _ _ _ _ _ (Act.put _ (some 80) _) _
              simp only [Act.put, List.setIfInBounds_toArray, List.set_cons_zero, List.set_cons_succ]
              refine wpAnyH_take (i := 10) (oi := _) (v := .int .u8 OW) rfl (by kernel_rfl) (by kernel_rfl) (by kernel_rfl) (fun _ _ _ h => h) (Or.inl ⟨by rfl, fun V hV => by (have c9 := (act_cells hV.1).2.2.1; clear hV; go_simp)⟩) hHeld ?_
              change wpAnyH _ _ _ _ _ _ _ (Act.put _ (some 81) _) _
              simp only [Act.put, List.setIfInBounds_toArray, List.set_cons_zero, List.set_cons_succ]
              refine wpAnyH_take (i := 12) (oi := _) (v := .int .i64 at1) rfl (by kernel_rfl) (by kernel_rfl) (by kernel_rfl) (fun _ _ _ h => h) (Or.inl ⟨by rfl, fun V hV => by go_simp⟩) hHeld ?_
              change wpAnyH _ _ _ _ _ _ _ (Act.put _ (some 83) _) _
              simp only [Act.put, List.setIfInBounds_toArray, List.set_cons_zero, List.set_cons_succ]
              refine wpAnyH_ready (rs := [4]) (by kernel_rfl) (by simp) ?_
              refine AllReadyH.cons (o := _) rfl (fun K hK => ?_) AllReadyH.nil
              go_simp
              go_at_call 12
              refine (owner_any OW o8 _).mono ?_
              rintro r wa ⟨rfl, ka⟩
              have ka := (Kept.refl W2 []).drew.trans ka (by simp)
              have hS := And.intro (ka.heap (by simp) BX.out.1) (ka.heap (by simp) BX.out.2)
              go_wp2_with fail
              refine hK.out _ _ hS (fun hHeld => ?_)
              clear hK K
              refine wpAnyH_ready (rs := [6]) (by kernel_rfl) (by simp) ?_
              refine AllReadyH.cons (o := _) rfl (fun K hK => ?_) AllReadyH.nil
              go_simp
              go_at_call 11
              refine (CA.out wa ka).mono ?_
              rintro r wb ⟨rfl, V', a', s⟩
              obtain ⟨d1, k1⟩ := bd_step1 (A2.out.keep ka) (D2.out.keep ka) (K2.out.trans ka (by simp)) s
              have hS := And.intro (s.1.heap NX.out.1 (ka.heap (by simp) BX.out.1)) (s.1.heap NX.out.2 (ka.heap (by simp) BX.out.2))
              clear s
              go_wp2_with fail
              refine hK.out _ _ hS (fun hHeld => ?_)
              clear hK K
              refine wpAnyH_ready (rs := [11]) (by kernel_rfl) (by simp) ?_
              refine AllReadyH.cons (o := _) rfl (fun K hK => ?_) AllReadyH.nil
              go_simp
              go_at_call 12
              refine (owner_any OW o8 _).mono ?_
              rintro r wd ⟨rfl, kd⟩
              have kd := (Kept.refl wb []).trans kd (by simp)
              have hS := And.intro (kd.heap (by simp) hS.1) (kd.heap (by simp) hS.2)
              go_wp2_with fail
              refine hK.out _ _ hS (fun hHeld => ?_)
              clear hK K
              refine wpAnyH_ready (rs := [13]) (by kernel_rfl) (by simp) ?_
              refine AllReadyH.cons (o := _) rfl (fun K hK => ?_) AllReadyH.nil
              go_simp
              go_at_call 13
              refine (CD.out wd (d1.keep kd)).mono ?_
              rintro r we ⟨rfl, U', d', s2⟩
              obtain ⟨a2, k2⟩ := bd_step2 (a'.keep kd) (d1.keep kd) (k1.trans kd (by simp)) s2
              have b9 : Bt W we p q m := ⟨OKM.out, V', U', a2, d', k2⟩
              have hS2 := And.intro (s2.1.heap NX2.out.1 hS.1) (s2.1.heap NX2.out.2 hS.2)
              clear a' d1 k1 kd a2 k2 d' s2 hS ka
              go_wp2_with fail
              refine hK.out _ _ hS2 (fun hHeld => ?_)
              clear hK K hS2
              refine wpAnyH_take (i := 14) (oi := _) (v := .bool true) rfl (by kernel_rfl) (by kernel_rfl) (by kernel_rfl) (fun _ _ _ h => h) (Or.inl ⟨by rfl, fun V hV => by go_simp⟩) hHeld ?_
              change wpAnyH _ _ _ _ _ _ _ (Act.put _ (some 85) _) _
              simp only [Act.put, List.setIfInBounds_toArray, List.set_cons_zero, List.set_cons_succ]
              refine wpAnyH_take (i := 15) (oi := _) (v := .bool true) rfl (by kernel_rfl) (by kernel_rfl) (by kernel_rfl) (fun _ _ _ h => h) (Or.inl ⟨by rfl, fun V hV => by go_simp⟩) hHeld ?_
              change wpAnyH _ _ _ _ _ _ _ (Act.put _ (some 9) _) _
              simp only [Act.put, List.setIfInBounds_toArray, List.set_cons_zero, List.set_cons_succ]
              refine wpAnyH_done (by kernel_rfl) ?_ _
              clear hHeld
              have B9 := Lib.hid b9
              obtain ⟨ok9, V9, U9, a9, d9, k9⟩ := id b9
              have LK := Lib.hid (like_any a9 d9 ok9.few)
              clear b9 ok9 a9 d9 k9
              go_wp2_with fail
              refine LK.out.mono ?_
              rintro r wy ⟨rfl, ky⟩
              have B10 := Lib.hid (show ∃ l, Bt W wy p q l from ⟨_, B9.out.keep ky⟩)
              clear ky
              go_wp2
              go_roundw
              case rel => exact ⟨i + 1, by go_num, by omega, B10⟩
              case measure => simp [intOf]; omega
          · as_aux_lemma =>
              have xr8 : (D : Int) % 8 = 5 := by omega
              have few5 := OK.out.few
              have HLE := Lib.hid (show (evs (dueI l at1)).length < 1000000 by have := List.length_filter_le (fun x : It => decide (x.a ≤ at1)) l; rw [evs_length, dueI]; omega)
              go_wp2_with fail
              refine (tdue_any A2.out OK.out at1).mono ?_
              rintro r w3 ⟨v3, rfl, o3, k3⟩
              have O3 := Lib.hid o3; have K3 := Lib.hid k3
              clear o3 k3
              go_wp2_with fail
              refine (rdue_any (D2.out.keep K3.out) OK.out at1).mono ?_
              rintro r w4 ⟨v4, rfl, o4, k4⟩
              have RA := Lib.hid (O3.out.rd.keep k4); have RB := Lib.hid o4.rd; have K4 := Lib.hid (K3.out.trans k4 (by simp))
              clear o4 k4
              go_wp2_with fail
              refine (same_any RA.out RB.out HLE.out).mono ?_
              rintro r w5 ⟨rfl, k5⟩
              have k6 := K4.out.trans k5 (by simp)
              have b9 : Bt W w5 p q l := ⟨OK.out, V, U, A2.out.keep k6, D2.out.keep k6, K2.out.trans k6 (by simp)⟩
              clear k5 k6
              have B9 := Lib.hid b9
              obtain ⟨ok9, V9, U9, a9, d9, k9⟩ := id b9
              have LK := Lib.hid (like_any a9 d9 ok9.few)
              clear b9 ok9 a9 d9 k9
              go_wp2_with fail
              refine LK.out.mono ?_
              rintro r wy ⟨rfl, ky⟩
              have B10 := Lib.hid (show ∃ l, Bt W wy p q l from ⟨_, B9.out.keep ky⟩)
              clear ky
              go_wp2
              go_roundw
              case rel => exact ⟨i + 1, by go_num, by omega, B10⟩
              case measure => simp [intOf]; omega
          · as_aux_lemma =>
              have xr8 : (D : Int) % 8 = 6 := by omega
              have few5 := OK.out.few
              have HLE := Lib.hid (show (evs (dueI l at1)).length < 1000000 by have := List.length_filter_le (fun x : It => decide (x.a ≤ at1)) l; rw [evs_length, dueI]; omega)
              go_wp2_with fail
              refine (ttake_any A2.out OK.out at1).mono ?_
              rintro r w3 ⟨v3, rfl, o3, V', a3, s3⟩
              obtain ⟨d3, k3⟩ := bd_step1 A2.out D2.out K2.out s3
              have hdis := fun k (hk1 : v3.ownBlock = some k) (hk2 : lfoot q U k) => (show False by have := (o3.lt k hk1).1; have := (D2.out.lt k hk2).2; omega)
              have O3 := Lib.hid o3; have D3 := Lib.hid d3; have A3 := Lib.hid a3; have K3 := Lib.hid k3; have DIS := Lib.hid hdis
              clear o3 d3 a3 k3 s3 hdis
              go_wp2_with fail
              refine (rtake_any D3.out OK.out at1).mono ?_
              rintro r w4 ⟨v4, rfl, o4, U', d4, s4⟩
              obtain ⟨a4, k4⟩ := bd_step2 A3.out D3.out K3.out s4
              have o34 := O3.out.fo s4.1 (fun k hk1 hk2 => DIS.out k hk1 hk2)
              have b4 : Bt W w4 p q (lftI l at1) := ⟨OK.out.lft _, V', U', a4, d4, k4⟩
              have RA := Lib.hid o34.rd; have RB := Lib.hid o4.rd; have B4 := Lib.hid b4
              clear o4 o34 d4 a4 k4 s4 b4
              go_wp2_with fail
              refine (same_any RA.out RB.out HLE.out).mono ?_
              rintro r w5 ⟨rfl, k5⟩
              have b9 := B4.out.keep k5
              clear k5
              have B9 := Lib.hid b9
              obtain ⟨ok9, V9, U9, a9, d9, k9⟩ := id b9
              have LK := Lib.hid (like_any a9 d9 ok9.few)
              clear b9 ok9 a9 d9 k9
              go_wp2_with fail
              refine LK.out.mono ?_
              rintro r wy ⟨rfl, ky⟩
              have B10 := Lib.hid (show ∃ l, Bt W wy p q l from ⟨_, B9.out.keep ky⟩)
              clear ky
              go_wp2
              go_roundw
              case rel => exact ⟨i + 1, by go_num, by omega, B10⟩
              case measure => simp [intOf]; omega
          · as_aux_lemma =>
              have xr8 : (D : Int) % 8 = 7 := by omega
              obtain ⟨E, hE⟩ : ∃ E : Int, E = (l.length : Int) - (drpI l (ownN OW)).length := ⟨_, rfl⟩
              obtain ⟨m, hm⟩ : ∃ m, m = drpI l (ownN OW) := ⟨_, rfl⟩
              have okm : OkI m := by rw [hm]; exact OK.out.drp _
              have CA := Lib.hid (fun Z (kz : Kept W2 Z []) => tdrop_any (A2.out.keep kz) OK.out (ownN OW))
              have CD := Lib.hid (fun Z (d : Lr encIt riT riE Z W.heap.size q U l) => rdrop_any d OK.out (ownN OW))
              rw [← hE, ← hm] at CA CD
              have OKM := Lib.hid okm
              clear hE hm okm
              go_upto_region 14 with fail
              refine wp_region_held_drew (S := fun Z => Z.heap[xb]? = some (.cells #[.int .u8 D, .int .u8 ID, .int .u8 OW, .int .i64 AT, .int .i64 TR] 31 (0, 0)) ∧ Z.heap[eb]? = some (.cells #[.int .i64 idm, .int .i64 0, .string ⟨#[113]⟩, .int .i64 TRm, .int .i64 ID, .int .u8 0, .int .i64 0, .string ⟨#[]⟩] evT (0, 0))) (by kernel_rfl) BX.out (fun hHeld => ?_)
              refine wpAnyH_take (i := 0) (oi := _) (v := .pointer (some ⟨p, 0, none⟩)) rfl (by kernel_rfl) (by kernel_rfl) (by kernel_rfl) (fun _ _ _ h => h) (Or.inl ⟨by rfl, fun V hV => by go_simp⟩) hHeld ?_
              change wpAnyH _ _ _ _ _ _ _ (Act.put _ (some 54) _) _
              simp only [Act.put, List.setIfInBounds_toArray, List.set_cons_zero, List.set_cons_succ]
              refine wpAnyH_take (i := 1) (oi := _) (v := .pointer (some ⟨xb, 2, none⟩)) rfl (by kernel_rfl) (by kernel_rfl) (by kernel_rfl) (fun _ _ _ h => h) (Or.inl ⟨by rfl, fun V hV => by go_simp⟩) hHeld ?_
              change wpAnyH _ _ _ _ _ _ _ (Act.put _ (some 55) _) _
              simp only [Act.put, List.setIfInBounds_toArray, List.set_cons_zero, List.set_cons_succ]
              refine wpAnyH_take (i := 2) (oi := _) (v := .int .u8 OW) rfl (by kernel_rfl) (by kernel_rfl) (by kernel_rfl) (fun _ _ _ h => h) (Or.inl ⟨by rfl, fun V hV => by (have c9 := (act_cells hV.1).2.2.1; clear hV; go_simp)⟩) hHeld ?_
              change wpAnyH _ _ _ _ _ _ _ (Act.put _ (some 56) _) _
              simp only [Act.put, List.setIfInBounds_toArray, List.set_cons_zero, List.set_cons_succ]
              refine wpAnyH_take (i := 5) (oi := _) (v := .pointer (some ⟨q, 0, none⟩)) rfl (by kernel_rfl) (by kernel_rfl) (by kernel_rfl) (fun _ _ _ h => h) (Or.inl ⟨by rfl, fun V hV => by go_simp⟩) hHeld ?_
              change wpAnyH _ _ _ _ _ _ _ (Act.put _ (some 59) _) _
              simp only [Act.put, List.setIfInBounds_toArray, List.set_cons_zero, List.set_cons_succ]
              refine wpAnyH_take (i := 6) (oi := _) (v := .pointer (some ⟨xb, 2, none⟩)) rfl (by kernel_rfl) (by kernel_rfl) (by kernel_rfl) (fun _ _ _ h => h) (Or.inl ⟨by rfl, fun V hV => by go_simp⟩) hHeld ?_
              change wpAnyH _ _ _ _ _ _ _ (Act.put _ (some 60) _) _
              simp only [Act.put, List.setIfInBounds_toArray, List.set_cons_zero, List.set_cons_succ]
              refine wpAnyH_take (i := 7) (oi := _) (v := .int .u8 OW) rfl (by kernel_rfl) (by kernel_rfl) (by kernel_rfl) (fun _ _ _ h => h) (Or.inl ⟨by rfl, fun V hV => by (have c9 := (act_cells hV.1).2.2.1; clear hV; go_simp)⟩) hHeld ?_
              change wpAnyH _ _ _ _ _ _ _ (Act.put _ (some 61) _) _
              simp only [Act.put, List.setIfInBounds_toArray, List.set_cons_zero, List.set_cons_succ]
              refine wpAnyH_ready (rs := [3]) (by kernel_rfl) (by simp) ?_
              refine AllReadyH.cons (o := _) rfl (fun K hK => ?_) AllReadyH.nil
              go_simp
              go_at_call 12
              refine (owner_any OW o8 _).mono ?_
              rintro r wa ⟨rfl, ka⟩
              have ka := (Kept.refl W2 []).drew.trans ka (by simp)
              have hS := And.intro (ka.heap (by simp) BX.out.1) (ka.heap (by simp) BX.out.2)
              go_wp2_with fail
              refine hK.out _ _ hS (fun hHeld => ?_)
              clear hK K
              refine wpAnyH_ready (rs := [4]) (by kernel_rfl) (by simp) ?_
              refine AllReadyH.cons (o := _) rfl (fun K hK => ?_) AllReadyH.nil
              go_simp
              go_at_call 19
              refine (CA.out wa ka).mono ?_
              rintro r wb ⟨rfl, V', a', s⟩
              obtain ⟨d1, k1⟩ := bd_step1 (A2.out.keep ka) (D2.out.keep ka) (K2.out.trans ka (by simp)) s
              have hS := And.intro (s.1.heap NX.out.1 (ka.heap (by simp) BX.out.1)) (s.1.heap NX.out.2 (ka.heap (by simp) BX.out.2))
              clear s
              go_wp2_with fail
              refine hK.out _ _ hS (fun hHeld => ?_)
              clear hK K
              refine wpAnyH_ready (rs := [8]) (by kernel_rfl) (by simp) ?_
              refine AllReadyH.cons (o := _) rfl (fun K hK => ?_) AllReadyH.nil
              go_simp
              go_at_call 12
              refine (owner_any OW o8 _).mono ?_
              rintro r wd ⟨rfl, kd⟩
              have kd := (Kept.refl wb []).trans kd (by simp)
              have hS := And.intro (kd.heap (by simp) hS.1) (kd.heap (by simp) hS.2)
              go_wp2_with fail
              refine hK.out _ _ hS (fun hHeld => ?_)
              clear hK K
              refine wpAnyH_ready (rs := [9]) (by kernel_rfl) (by simp) ?_
              refine AllReadyH.cons (o := _) rfl (fun K hK => ?_) AllReadyH.nil
              go_simp
              go_at_call 20
              refine (CD.out wd (d1.keep kd)).mono ?_
              rintro r we ⟨rfl, U', d', s2⟩
              obtain ⟨a2, k2⟩ := bd_step2 (a'.keep kd) (d1.keep kd) (k1.trans kd (by simp)) s2
              have b9 : Bt W we p q m := ⟨OKM.out, V', U', a2, d', k2⟩
              have hS2 := And.intro (s2.1.heap NX2.out.1 hS.1) (s2.1.heap NX2.out.2 hS.2)
              clear a' d1 k1 kd a2 k2 d' s2 hS ka
              go_wp2_with fail
              refine hK.out _ _ hS2 (fun hHeld => ?_)
              clear hK K hS2
              refine wpAnyH_take (i := 10) (oi := _) (v := .bool true) rfl (by kernel_rfl) (by kernel_rfl) (by kernel_rfl) (fun _ _ _ h => h) (Or.inl ⟨by rfl, fun V hV => by go_simp⟩) hHeld ?_
              change wpAnyH _ _ _ _ _ _ _ (Act.put _ (some 64) _) _
              simp only [Act.put, List.setIfInBounds_toArray, List.set_cons_zero, List.set_cons_succ]
              refine wpAnyH_take (i := 11) (oi := _) (v := .bool true) rfl (by kernel_rfl) (by kernel_rfl) (by kernel_rfl) (fun _ _ _ h => h) (Or.inl ⟨by rfl, fun V hV => by go_simp⟩) hHeld ?_
              change wpAnyH _ _ _ _ _ _ _ (Act.put _ (some 9) _) _
              simp only [Act.put, List.setIfInBounds_toArray, List.set_cons_zero, List.set_cons_succ]
              refine wpAnyH_done (by kernel_rfl) ?_ _
              clear hHeld
              have B9 := Lib.hid b9
              obtain ⟨ok9, V9, U9, a9, d9, k9⟩ := id b9
              have LK := Lib.hid (like_any a9 d9 ok9.few)
              clear b9 ok9 a9 d9 k9
              go_wp2_with fail
              refine LK.out.mono ?_
              rintro r wy ⟨rfl, ky⟩
              have B10 := Lib.hid (show ∃ l, Bt W wy p q l from ⟨_, B9.out.keep ky⟩)
              clear ky
              go_wp2
              go_roundw
              case rel => exact ⟨i + 1, by go_num, by omega, B10⟩
              case measure => simp [intOf]; omega
      · have x1 : ¬ (i : Int) < (len : Int) := by omega
        go_wp2
        go_ret
        exact ⟨rfl, BK.out.below (Nat.le_refl _) (by simp)⟩

set_option maxRecDepth 100000 in
theorem lifted (os : Os) (started : os.Started) (H : Type) (enc : TypeId × Value → H) :
    ReturnsInHanded {} Try.checked os 3 .any (Rows.retryPlaysSpec.pre6 enc Try.prog Try.f3 Rows.retryPlaysRow.domain false) (Rows.retryPlaysSpec.post enc Try.prog Try.f3 false true false false) := by
  refine returnsInHanded_of_change (C := Try.checked) own started (by kernel_rfl) Try.func3
    (ChangeSpec.witness6 (enc := enc) (C := Try.checked) false ⟨#[], #[.slice none 0 0], []⟩ 8 (by kernel_rfl) (by kernel_rfl) (by kernel_rfl) (by kernel_rfl)) ?_
  intro W base args ds gs before hval0 hW hcnd _
  have hval : ∀ (j : Nat) t v, Try.f3.params[j]? = some t → args[j]? = some v → Value.okWide Try.prog W .any base t v := hval0
  have hW' := hW
  obtain ⟨p, q, hA0, hV, rfl, hfz, hnd⟩ := hW
  have hA : DataW.TrodAll enc Try.prog W 0 (fun _ => true) true Try.f3.params.toList args.toList ds p := hA0
  rw [Try.params3] at hA hval
  obtain ⟨v0, vs0, d0, ds0, p0, q0, hargs, rfl, rfl, h0, r0⟩ := trodAll_cons hA
  obtain ⟨rfl, rfl, rfl⟩ := trodAll_nil r0
  obtain rfl : args = #[v0] := by cases args; simp_all
  obtain ⟨rfl, rfl⟩ := trodVars_none hV
  obtain ⟨a0, len0, cap0, rfl⟩ := okWide_slice Try.underlying22 (hval 0 22 v0 rfl rfl)
  have k0 := h0
  have lt0 : ∀ x ∈ p0, x.block < W.heap.size := by obtain ⟨m, hm⟩ := k0; exact DataW.trod_lt m _ _ _ hm
  obtain ⟨z0, w0⟩ : ∃ f, IsActs W W.heap.size a0 len0 f ∧ len0 ≤ maxLen := by
    obtain ⟨fuel, hf⟩ := h0
    exact acts_open (by simpa [Value.cells] using hf)
  clear hA0 hval0
  refine (walk a0 len0 cap0 z0 W w0).mono fun e W' ⟨he, bel⟩ => ?_
  subst he
  exact ⟨_, rfl, _, _, _, [], _, [], hW', trodAll_mk1 (shut_bool Try.underlying4 _), (trodAll_cons_mk (Below.trod laidOut (by kernel_rfl) (of_decide_eq_true (by kernel_rfl)) k0 bel lt0) trodAll_mk0), rfl, bel.frame _, fun h => by cases h⟩

theorem over : Rows.retryPlaysRow.holds Try.pinned (OpenSpec.ofChange Rows.retryPlaysSpec) :=
  OpenClaim.holds_of_wide 3 Try.f3 rfl rfl rfl rfl rfl rfl rfl ⟨rfl, rfl, rfl, rfl, rfl⟩ rfl rfl rfl rfl rfl (by kernel_rfl) Try.func3 (by kernel_rfl)
    (of_decide_eq_true (by kernel_rfl)) (by unfold Func.isWrapper; first | (rw [if_pos (by decide +kernel)]; kernel_rfl) | (rw [if_neg (by decide +kernel)]; exact ⟨rfl, rfl⟩))
    (fun os started H enc _ => lifted os started H enc)

theorem proved : Rows.RetryPlaysSaid :=
  over
end Go.Proofs.Ytcnjgjgppbakdaa.retryPlays

namespace Go.Proofs.Ytcnjgjgppbakdaa
theorem retryPlays_holds : Rows.RetryPlaysSaid := retryPlays.proved
#print axioms retryPlays_holds
end Go.Proofs.Ytcnjgjgppbakdaa

