/-
  Proved: whatever the arguments are, carrierlaw05.SnapRises answers true and leaves its arguments as they were. No condition.
-/
import Derived.Test.YtfmgjmedmbieeaaSnJ
import Derived.Deep.RegionHeld3
namespace Go.Proofs.Ytfmgjmedmbieeaa.snapRises
open Go.ChangeShapes Go.WideShapes Go.ChangeAt Go.RowKit
set_option linter.unusedVariables false

theorem own : ownKnob Try.prog.godebug = none := by kernel_rfl
theorem laidOut : laidOutB Try.prog = true := by kernel_rfl

theorem upB_low {M : Int} {b c : Int} (h : b ≤ c) {l : List Int} (hl : upB M c l = true) : upB M b l = true := by
  cases l with
  | nil => rfl
  | cons y r =>
    simp only [upB, Bool.and_eq_true, decide_eq_true_eq] at hl ⊢
    exact ⟨by omega, hl.2⟩

theorem upB_sub {M : Int} {l m : List Int} (h : m.Sublist l) : ∀ {b : Int}, upB M b l = true → upB M b m = true := by
  induction h with
  | slnil => intro b h; exact h
  | cons y _ ih =>
    intro b h
    simp only [upB, Bool.and_eq_true, decide_eq_true_eq] at h
    exact upB_low (by omega) (ih h.2.2)
  | cons_cons y _ ih =>
    intro b h
    simp only [upB, Bool.and_eq_true, decide_eq_true_eq] at h ⊢
    exact ⟨h.1, h.2.1, ih h.2.2⟩

theorem rise_right {M k : Int} {l m : List Int} (h : rightB M l = true) (hm : m.Sublist l) (hk : 0 ≤ k) : rightB (M + k) m = true := by
  simp only [rightB, Bool.and_eq_true, decide_eq_true_eq] at h ⊢
  exact ⟨by omega, upB_sub hm (upB_up (by omega) h.2)⟩

theorem rise_cover {M k : Int} {l m : List Int} (hm : m.Sublist l) (hk : 0 ≤ k) : Cover (M + k) M m l := by
  intro x hx
  rw [seesB_iff] at hx ⊢
  exact ⟨hx.1, by omega, fun h => hx.2.2 (hm.subset h)⟩

theorem least_mem {M y : Int} {l : List Int} (h : rightB M l = true) (hy : y ∈ l) : leastI M l ≤ y := by
  cases l with
  | nil => simp at hy
  | cons z r =>
    obtain ⟨j, hj, e⟩ := mem_getD hy
    show z ≤ y
    cases j with
    | zero => simp at e; omega
    | succ j => have := right_inc h 0 (j + 1) (by omega) hj; simp only [List.getD_cons_zero] at this; omega

theorem rise_least {M k : Int} {l m : List Int} (h : rightB M l = true) (hm : m.Sublist l) (hk : 0 ≤ k) : leastI M l ≤ leastI (M + k) m := by
  have h1 := (least_bounds h).2
  cases m with
  | nil => show leastI M l ≤ M + k; omega
  | cons y r =>
    show leastI M l ≤ y
    exact least_mem h (hm.subset (by simp))

theorem sub_keep {l m : List Int} {i : Nat} (hi : i < l.length) (h : m.Sublist (l.take i)) : (m ++ [l[i]]).Sublist (l.take (i + 1)) := by
  rw [List.take_succ_eq_append_getElem hi]
  exact h.append (List.Sublist.refl _)

theorem sub_skip {l m : List Int} {i : Nat} (hi : i < l.length) (h : m.Sublist (l.take i)) : m.Sublist (l.take (i + 1)) := by
  rw [List.take_succ_eq_append_getElem hi]
  exact h.trans (List.sublist_append_left _ _)

/-- The list of a snapshot is laid anew, in a region. -/
theorem rise_put {W3 w w5 : World} {p : Nat} {M x : Int} {v v5 : Value} {l : List Int} {S : World → Prop} (D : Sd w p p M v l) (F : Fr p [2, 25] W3 w) (ho : w5.ownsRow p 2 1 v5 (l.length + 1) (ic l ++ [.int .i64 x])) (hf : Fr p [2] w w5)
    (hS : ∀ V, Fr p [2, 25] W3 V → S V) :
    ∃ a5 c5, v5 = .slice a5 (l.length + 1) c5 ∧ w5.frozen? ⟨p, 1, none⟩ = false ∧ w5.cell? ⟨p, 1, none⟩ = some v ∧ Sd (w5.setCell ⟨p, 1, none⟩ v5) p p M v5 (l ++ [x]) ∧ Fr p [2, 25] W3 (w5.setCell ⟨p, 1, none⟩ v5) ∧ S w5 ∧ S (w5.setCell ⟨p, 1, none⟩ v5) := by
  have ho2 : w5.ownsRow p 2 1 v5 (l ++ [x]).length (ic (l ++ [x])) := by rw [List.length_append, ic, List.map_append]; exact ho
  have hp := hf.heap D.hp (by decide)
  obtain ⟨h1, h2⟩ := D.put hf ho2
  obtain ⟨a5, c5, hv, _⟩ := owns_rdI ho2
  rw [List.length_append] at hv
  exact ⟨a5, c5, hv, frozen_of_row _ _ _ _ _ hp, (two_cells hp).2, h1, F.trans h2, hS _ (F.trans (hf.mono (Nat.le_refl _) (by simp))), hS _ (F.trans h2)⟩

set_option maxHeartbeats 4000000 in
set_option maxRecDepth 100000 in
theorem walk (a0 : Int) (a1 : Int) (a2 : Option Addr) (len2 cap2 : Nat) (z2 : List Int) (a3 : Option Addr) (len3 cap3 : Nat) (ks : List Bool) (W : World) (w0 : (Lit.int .u8 a0).wf = true) (w1 : (Lit.int .u8 a1).wf = true) (w2 : IsRow .u8 W a2 len2 cap2 z2) (w3 : RbB W W.heap.size 4 (.slice a3 len3 cap3) ks) :
    Calls Try.prog 8 #[.int .u8 a0, .int .u8 a1, .slice a2 len2 cap2, .slice a3 len3 cap3] W fun e w' => e = .returned (.bool true) ∧ Below W.heap.size W w' := by
  obtain ⟨a, rfl, ha⟩ := u8_nat w0
  obtain ⟨b, rfl, hb⟩ := u8_nat w1
  obtain ⟨os, rfl, hro⟩ := isRow_rd w2
  have Ro := Lib.hid hro; have Rk := Lib.hid w3
  obtain ⟨a3', c3', e3, _⟩ := w3
  simp only [Value.slice.injEq] at e3
  obtain ⟨rfl, rfl, rfl⟩ := e3
  clear w0 w1 w2 hro
  obtain ⟨i0, hi, hz0, hz1, hz2⟩ := info_parts Try.infoI
  by_cases h1 : (10 : Int) < (os.length : Int)
  · skip
    go_enter Try.func8, Try.ntmps8
    go_wp2_with fail
    refine (five_any W).mono ?_
    rintro e w1 ⟨rfl, hk⟩
    have K := Lib.hid hk; clear hk
    go_wp2
    go_ret
    exact ⟨rfl, K.out.below (Nat.le_refl _) (by simp)⟩
  by_cases h2 : (20 : Int) < (ks.length : Int)
  · skip
    go_enter Try.func8, Try.ntmps8
    go_wp2_with fail
    refine (five_any W).mono ?_
    rintro e w1 ⟨rfl, hk⟩
    have K := Lib.hid hk; clear hk
    go_wp2
    go_ret
    exact ⟨rfl, K.out.below (Nat.le_refl _) (by simp)⟩
  go_enter Try.func8, Try.ntmps8
  go_wp2_with fail
  refine (of_any a _ os W Ro.out (by omega)).mono ?_
  rintro e w1 ⟨M, v, l, rfl, hM, hR, _, hrd, hk⟩
  have R1 := Lib.hid hrd; have K1 := Lib.hid hk; have G1 := Lib.hid hR
  obtain ⟨av, cv, rfl⟩ := hrd.slice
  have hM40 : 1 ≤ M ∧ M ≤ 40 := by omega
  have hll : l.length ≤ 1000 := by
    have h := hR
    simp only [rightB, Bool.and_eq_true, decide_eq_true_eq] at h
    have := upB_len h.2 (by omega)
    omega
  clear hR hk hrd hM
  obtain ⟨k, hk10⟩ : ∃ k : Nat, (b : Int) % 10 = (k : Int) := ⟨b % 10, by omega⟩
  have hk9 : k ≤ 9 := by omega
  obtain ⟨Mk, hMk⟩ : ∃ Mk : Int, Mk = M + (k : Int) := ⟨_, rfl⟩
  have HMk := Lib.hid hMk
  obtain ⟨W2, hW2⟩ : ∃ W2, W2 = w1.alloc (.cells #[.int .i64 M, .slice av l.length cv] 25) := ⟨_, rfl⟩
  have hz2' : W2.heap.size = w1.heap.size + 1 := by rw [hW2]; simp
  have S := Lib.hid (show Sr W2 w1.heap.size M (.slice av l.length cv) l by rw [hW2]; exact Sr.new R1.out _)
  have K2 : Hid (Kept W W2 []) := Lib.hid (by rw [hW2]; exact K1.out.alloc _)
  obtain ⟨W3, hW3⟩ : ∃ W3, W3 = W2.alloc (.cells #[.int .i64 Mk, .slice none 0 0] 25) := ⟨_, rfl⟩
  have D3 : Hid (Sd W3 (w1.heap.size + 1) (w1.heap.size + 1) Mk (.slice none 0 0) []) := Lib.hid { hp := by rw [hW3, ← hz2']; exact heap_alloc_new _ _, hv := World.ownsRow_nil _ _ _ _, bp := Nat.le_refl _ }
  have K3 : Hid (Kept W2 W3 []) := Lib.hid (by rw [hW3]; exact (Kept.refl W2 []).alloc _)
  have hz3 : W3.heap.size = w1.heap.size + 1 + 1 := by rw [hW3]; simp [hz2']
  rw [hMk] at hW3
  go_wp2
  rw [← hW2, ← hW3]
  clear hW2 hW3 R1 hk10 hMk
  go_loopw [11] (fun t11 wr => ∃ (i : Nat) (v2 : Value) (l2 : List Int), t11 = .int .i64 i ∧ i ≤ l.length ∧ Sd wr (w1.heap.size + 1) (w1.heap.size + 1) Mk v2 l2 ∧ l2.Sublist (l.take i) ∧ Fr (w1.heap.size + 1) [2, 25] W3 wr) (fun t11 _ => l.length - (intOf t11).toNat)
  case atStart => exact ⟨0, _, [], rfl, Nat.zero_le _, D3.out, by simp, Fr.refl _ _ _⟩
  case round =>
    obtain ⟨i, v2, l2, rfl, hil, hd, hs, hf⟩ := hrel
    have D := Lib.hid hd; have F := Lib.hid hf; have Hs := Lib.hid hs
    have hl2 : l2.length ≤ 1000 := by have := hs.length_le; simp at this; omega
    obtain ⟨a2, c2, hv2⟩ := (owns_rdI hd.hv).slice
    subst hv2
    clear hd hf hs
    have hwr := F.out.size
    have K2r := Lib.hid (((Fr.ofKept K3.out 0 []).later F.out (by omega)).kept)
    have S1 := Lib.hid (S.out.keep K2r.out)
    have z0 := S1.out.c0; have z1 := S1.out.c1
    obtain ⟨y0, y1⟩ := D.out.cells
    by_cases hlt : i < l.length
    · have Sk := Lib.hid (sub_skip hlt Hs.out)
      by_cases hik : i < ks.length
      · have x2 : (i : Int) < (ks.length : Int) := by omega
        obtain ⟨a3', c3', e3, hkc⟩ := Rk.out
        simp only [Value.slice.injEq, true_and] at e3
        obtain ⟨rfl, rfl⟩ := e3
        obtain ⟨kb, ko, rfl, _, hcell⟩ := hkc (by rintro rfl; simp at hik)
        have ck := (K2.out.trans K2r.out (by simp)).cell (p := ⟨kb, ko + i, none⟩) (by simp) (hcell i hik)
        obtain ⟨q, hq⟩ : ∃ q, q = ks.getD i false := ⟨_, rfl⟩
        rw [← hq] at ck
        clear hq hcell hkc
        cases q with
        | false =>
          go_wp2
          go_roundw
          case rel => exact ⟨i + 1, _, l2, by go_num, by omega, D.out, Sk.out, F.out⟩
          case measure => simp [intOf]; omega
        | true =>
          obtain ⟨a', c', e1, _, _, _, hla⟩ := S1.out.rd
          simp only [Value.slice.injEq, true_and] at e1
          obtain ⟨rfl, rfl⟩ := e1
          obtain ⟨ab, ao, rfl, _⟩ := hla (by rintro rfl; simp at hlt)
          obtain ⟨a', c', e1, _, _, _, hla⟩ := S.out.rd
          simp only [Value.slice.injEq, true_and] at e1
          obtain ⟨rfl, rfl⟩ := e1
          obtain ⟨ab', ao', e1, hcell⟩ := hla (by rintro rfl; simp at hlt)
          simp only [Option.some.injEq, Addr.mk.injEq, and_true] at e1
          obtain ⟨rfl, rfl⟩ := e1
          have ce := hcell i hlt
          obtain ⟨x, hx⟩ : ∃ x, x = l.getD i 0 := ⟨_, rfl⟩
          have hx2 : l[i] = x := by rw [hx]; simp [List.getD, hlt]
          have Sub := Lib.hid (sub_keep hlt Hs.out)
          rw [hx2] at Sub
          rw [← hx] at ce
          have Ce := Lib.hid ce
          clear hx hx2 hcell hla ce
          have x1 : (i : Int) < (l.length : Int) := by omega
          have Fin : Hid (∀ V, Fr (w1.heap.size + 1) [2, 25] W3 V → V.cell? ⟨w1.heap.size, 1, none⟩ = some (.slice (some ⟨ab, ao, none⟩) l.length cv) ∧ V.cell? ⟨ab, ao + i, none⟩ = some (.int .i64 x)) := Lib.hid (fun V hV => by
            have kv := ((Fr.ofKept K3.out 0 []).later hV (by omega)).kept
            exact ⟨kv.cell (p := ⟨w1.heap.size, 1, none⟩) (by simp) S.out.c1, kv.cell (p := ⟨ab, ao + i, none⟩) (by simp) Ce.out⟩)
          have S0 := Lib.hid (Fin.out wr.drew F.out.drew)
          have FB := Lib.hid (F.out.drew.alloc (.cells #[.int .i64 x] 2))
          have SB := Lib.hid (Fin.out _ FB.out)
          have DB := Lib.hid ((D.out.keep (Kept.refl wr []).drew).keep ((Kept.refl wr.drew []).alloc (.cells #[.int .i64 x] 2)))
          have XB := Lib.hid DB.out.hv
          have hbB : w1.heap.size + 1 ≤ (wr.drew.alloc (.cells #[.int .i64 x] 2)).heap.size := by simp; omega
          have y1d : wr.drew.cell? ⟨w1.heap.size + 1, 1, none⟩ = some (.slice a2 l2.length c2) := y1
          have y1e : (wr.alloc (.cells #[.int .i64 x] 2)).cell? ⟨w1.heap.size + 1, 1, none⟩ = some (.slice a2 l2.length c2) := DB.out.cells.2
          go_wp2_with fail
          refine wp_region_held_drew (S := fun V => V.cell? ⟨w1.heap.size, 1, none⟩ = some (.slice (some ⟨ab, ao, none⟩) l.length cv) ∧ V.cell? ⟨ab, ao + i, none⟩ = some (.int .i64 x)) (by kernel_rfl) S0.out (fun hHeld => ?_)
          refine wpAnyH_take (i := 0) (oi := _) (v := .pointer (some ⟨w1.heap.size + 1, 1, none⟩)) rfl (by kernel_rfl) (by kernel_rfl) (by kernel_rfl) (fun _ _ _ h => h) (Or.inl ⟨by rfl, fun w hSw => by (try dsimp only at hSw); go_simp⟩) hHeld ?_
          refine wpAnyH_take (i := 2) (oi := _) (v := .pointer (some ⟨w1.heap.size, 1, none⟩)) rfl (by kernel_rfl) (by kernel_rfl) (by kernel_rfl) (fun _ _ _ h => h) (Or.inl ⟨by rfl, fun w hSw => by (try dsimp only at hSw); go_simp⟩) hHeld ?_
          refine wpAnyH_take (i := 3) (oi := _) (v := .slice (some ⟨ab, ao, none⟩) l.length cv) rfl (by kernel_rfl) (by kernel_rfl) (by kernel_rfl) (fun _ _ _ h => h) (Or.inl ⟨by rfl, fun w hSw => by (try dsimp only at hSw); go_simp⟩) hHeld ?_
          refine wpAnyH_take (i := 4) (oi := _) (v := .int .i64 i) rfl (by kernel_rfl) (by kernel_rfl) (by kernel_rfl) (fun _ _ _ h => h) (Or.inl ⟨by rfl, fun w hSw => by (try dsimp only at hSw); go_simp⟩) hHeld ?_
          refine wpAnyH_take (i := 5) (oi := _) (v := .pointer (some ⟨ab, ao + i, none⟩)) rfl (by kernel_rfl) (by kernel_rfl) (by kernel_rfl) (fun _ _ _ h => h) (Or.inl ⟨by rfl, fun w hSw => by (try dsimp only at hSw); go_simp⟩) hHeld ?_
          refine wpAnyH_take (i := 6) (oi := _) (v := .int .i64 x) rfl (by kernel_rfl) (by kernel_rfl) (by kernel_rfl) (fun _ _ _ h => h) (Or.inl ⟨by rfl, fun w hSw => by (try dsimp only at hSw); go_simp⟩) hHeld ?_
          refine wpAnyH_ready (rs := [1, 7]) (by kernel_rfl) (by simp) ?_
          refine AllReadyH.cons (o := _) rfl (fun K hK => ?wayA) (AllReadyH.cons (o := _) rfl (fun K hK => ?wayB) AllReadyH.nil)
          case wayA =>
            go_simp
            refine hK.out _ _ S0.out (fun hHeld => ?_)
            clear hK K
            refine wpAnyH_ready (rs := [7]) (by kernel_rfl) (by simp) ?_
            refine AllReadyH.cons (o := _) rfl (fun K hK => ?_) AllReadyH.nil
            go_simp
            refine hK.out _ _ SB.out (fun hHeld => ?_)
            clear hK K
            refine wpAnyH_ready (rs := [8]) (by kernel_rfl) (by simp) ?_
            refine AllReadyH.cons (o := _) rfl (fun K hK => ?_) AllReadyH.nil
            refine step_append_fr _ rfl (.tmp 49) (.tmp 55) 22 22 rfl (w1.heap.size + 1) 2 i0 (.int .i64 0) 1 8 Try.underlying22 hi hz0 hz1 hz2 rfl (.slice a2 l2.length c2) l2.length (ic l2) rfl XB.out _ 1 [.int .i64 x] rfl (src_one Try.underlying22 wr.drew _ rfl _) (by unfold maxLen; omega) (by omega) hbB ?_
            intro v5 w5 ho5 hf5 _
            obtain ⟨a5, c5, rfl, f5, y5, D5, F5, S5, S6⟩ := rise_put DB.out FB.out ho5 hf5 Fin.out
            have D5 := Lib.hid D5; have F5 := Lib.hid F5; have S6 := Lib.hid S6
            clear ho5 hf5
            refine hK.out _ _ S5 (fun hHeld => ?_)
            clear hK K
            refine wpAnyH_take (i := 9) (oi := _) (v := .pointer (some ⟨w1.heap.size + 1, 1, none⟩)) rfl (by kernel_rfl) (by kernel_rfl) (by kernel_rfl) (fun _ _ _ h => h) (Or.inl ⟨by rfl, fun w hSw => by go_simp⟩) hHeld ?_
            refine wpAnyH_ready (rs := [10]) (by kernel_rfl) (by simp) ?_
            refine AllReadyH.cons (o := _) rfl (fun K hK => ?_) AllReadyH.nil
            go_simp
            refine hK.out _ _ S6.out (fun hHeld => ?_)
            clear hK K
            refine wpAnyH_done (by kernel_rfl) ?_ _
            go_wp2
            go_roundw
            case rel => exact ⟨i + 1, _, l2 ++ [x], by go_num, by omega, D5.out, Sub.out, F5.out⟩
            case measure => simp [intOf]; omega
          case wayB =>
            go_simp
            refine hK.out _ _ SB.out (fun hHeld => ?_)
            clear hK K
            refine wpAnyH_ready (rs := [1]) (by kernel_rfl) (by simp) ?_
            refine AllReadyH.cons (o := _) rfl (fun K hK => ?_) AllReadyH.nil
            go_simp
            refine hK.out _ _ SB.out (fun hHeld => ?_)
            clear hK K
            refine wpAnyH_ready (rs := [8]) (by kernel_rfl) (by simp) ?_
            refine AllReadyH.cons (o := _) rfl (fun K hK => ?_) AllReadyH.nil
            refine step_append_fr _ rfl (.tmp 49) (.tmp 55) 22 22 rfl (w1.heap.size + 1) 2 i0 (.int .i64 0) 1 8 Try.underlying22 hi hz0 hz1 hz2 rfl (.slice a2 l2.length c2) l2.length (ic l2) rfl XB.out _ 1 [.int .i64 x] rfl (src_one Try.underlying22 wr.drew _ rfl _) (by unfold maxLen; omega) (by omega) hbB ?_
            intro v5 w5 ho5 hf5 _
            obtain ⟨a5, c5, rfl, f5, y5, D5, F5, S5, S6⟩ := rise_put DB.out FB.out ho5 hf5 Fin.out
            have D5 := Lib.hid D5; have F5 := Lib.hid F5; have S6 := Lib.hid S6
            clear ho5 hf5
            refine hK.out _ _ S5 (fun hHeld => ?_)
            clear hK K
            refine wpAnyH_take (i := 9) (oi := _) (v := .pointer (some ⟨w1.heap.size + 1, 1, none⟩)) rfl (by kernel_rfl) (by kernel_rfl) (by kernel_rfl) (fun _ _ _ h => h) (Or.inl ⟨by rfl, fun w hSw => by go_simp⟩) hHeld ?_
            refine wpAnyH_ready (rs := [10]) (by kernel_rfl) (by simp) ?_
            refine AllReadyH.cons (o := _) rfl (fun K hK => ?_) AllReadyH.nil
            go_simp
            refine hK.out _ _ S6.out (fun hHeld => ?_)
            clear hK K
            refine wpAnyH_done (by kernel_rfl) ?_ _
            go_wp2
            go_roundw
            case rel => exact ⟨i + 1, _, l2 ++ [x], by go_num, by omega, D5.out, Sub.out, F5.out⟩
            case measure => simp [intOf]; omega
      · have x2 : ¬ (i : Int) < (ks.length : Int) := by omega
        go_wp2
        go_roundw
        case rel => exact ⟨i + 1, _, l2, by go_num, by omega, D.out, Sk.out, F.out⟩
        case measure => simp [intOf]; omega
    · have hsub : l2.Sublist l := by have := Hs.out; rwa [List.take_of_length_le (by omega)] at this
      have vr := rise_right G1.out hsub (show 0 ≤ (k : Int) by omega)
      have vc := Lib.hid (rise_cover (M := M) hsub (show 0 ≤ (k : Int) by omega))
      have vl := rise_least G1.out hsub (show 0 ≤ (k : Int) by omega)
      have hMb : Mk ≤ 9223372036854775807 := by have := HMk.out; omega
      rw [← HMk.out] at vr vc vl
      have x1 : ¬ (i : Int) < (l.length : Int) := by omega
      have rd2 := Lib.hid (owns_rdI D.out.hv)
      have Z := Lib.hid (And.intro (And.intro y0 y1) (And.intro z0 z1))
      have H5 : Hid (∀ V, Kept wr V [] → Calls Try.prog 9 #[] V fun e w' => e = .returned (.bool true) ∧ Kept wr w' []) := Lib.hid (fun V hV => by
        refine (five_any V).mono ?_
        rintro e w' ⟨rfl, h⟩
        exact ⟨rfl, hV.trans h (by simp)⟩)
      have HR : Hid (∀ V, Kept wr V [] → Calls Try.prog 12 #[.agg #[.int .i64 Mk, .slice a2 l2.length c2]] V fun e w' => e = .returned (.bool true) ∧ Kept wr w' []) := Lib.hid (fun V hV => by
        refine (right_any _ _ l2 V (rd2.out.keep hV)).mono ?_
        rintro e w' ⟨rfl, h⟩
        exact ⟨by rw [vr], hV.trans h (by simp)⟩)
      have HC : Hid (∀ V, Kept wr V [] → Calls Try.prog 18 #[.agg #[.int .i64 Mk, .slice a2 l2.length c2], .agg #[.int .i64 M, .slice av l.length cv]] V fun e w' => e = .returned (.bool true) ∧ Kept wr w' []) := Lib.hid (fun V hV => by
        refine (covers_any _ M _ _ l2 l V (rd2.out.keep hV) (S1.out.rd.keep hV) vr G1.out hMb (by omega) hl2 hll).mono ?_
        rintro e w' ⟨r, rfl, hr, h⟩
        exact ⟨by rw [hr.2 vc.out], hV.trans h (by simp)⟩)
      have HL : Hid (∀ V (Mx : Int) (a : Option Addr) (l : List Int) (c : Nat), RdI wr (.slice a l.length c) l → Kept wr V [] → Calls Try.prog 16 #[.agg #[.int .i64 Mx, .slice a l.length c]] V fun e w' => e = .returned (.int .i64 (leastI Mx l)) ∧ Kept wr w' []) := Lib.hid (fun V Mx a l c hr hV => by
        refine (least_any _ _ l V (hr.keep hV)).mono ?_
        rintro e w' ⟨rfl, h⟩
        exact ⟨rfl, hV.trans h (by simp)⟩)
      have rr1 := S1.out.rd
      have rr2 := rd2.out
      have KW := Lib.hid (K2.out.trans K2r.out (by simp))
      have k8 := (Kept.refl wr []).drew
      have y2 := And.intro (k8.two Z.out.1) (k8.two Z.out.2)
      clear vr hsub z0 y0 y1
      go_wp2_with fail
      go_region_held3 (fun V => (V.cell? ⟨w1.heap.size + 1, 0, none⟩ = some (.int .i64 Mk) ∧ V.cell? ⟨w1.heap.size + 1, 1, none⟩ = some (.slice a2 l2.length c2)) ∧ (V.cell? ⟨w1.heap.size, 0, none⟩ = some (.int .i64 M) ∧ V.cell? ⟨w1.heap.size, 1, none⟩ = some (.slice av l.length cv))) (exact y2)
        (first
          | (go_at_call 9; refine (H5.out _ ?_).mono ?_; assumption; rintro e w8 ⟨rfl, k8⟩; have y2 := And.intro (k8.two Z.out.1) (k8.two Z.out.2))
          | (go_at_call 12; refine (HR.out _ ?_).mono ?_; assumption; rintro e w8 ⟨rfl, k8⟩; have y2 := And.intro (k8.two Z.out.1) (k8.two Z.out.2))
          | (go_at_call 18; refine (HC.out _ ?_).mono ?_; assumption; rintro e w8 ⟨rfl, k8⟩; have y2 := And.intro (k8.two Z.out.1) (k8.two Z.out.2))
          | (go_at_call 16; refine (HL.out _ _ _ _ _ ?_ ?_).mono ?_; assumption; assumption; rintro e w8 ⟨rfl, k8⟩; have y2 := And.intro (k8.two Z.out.1) (k8.two Z.out.2)))
      all_goals go_wp2
      all_goals go_ret
      all_goals exact ⟨rfl, (KW.out.trans k8 (by simp)).below (Nat.le_refl _) (by simp)⟩

set_option maxRecDepth 100000 in
theorem lifted (os : Os) (started : os.Started) (H : Type) (enc : TypeId × Value → H) :
    ReturnsInHanded {} Try.checked os 8 .any (Rows.snapRisesSpec.pre6 enc Try.prog Try.f8 Rows.snapRisesRow.domain false) (Rows.snapRisesSpec.post enc Try.prog Try.f8 false true false false) := by
  refine returnsInHanded_of_change (C := Try.checked) own started (by kernel_rfl) Try.func8
    (ChangeSpec.witness6 (enc := enc) (C := Try.checked) false ⟨#[], #[.int .u8 0, .int .u8 0, .slice none 0 0, .slice none 0 0], []⟩ 8 (by kernel_rfl) (by kernel_rfl) (by kernel_rfl) (by kernel_rfl)) ?_
  intro W base args ds gs before hval0 hW hcnd _
  have hval : ∀ (j : Nat) t v, Try.f8.params[j]? = some t → args[j]? = some v → Value.okWide Try.prog W .any base t v := hval0
  have hW' := hW
  obtain ⟨p, q, hA0, hV, rfl, hfz, hnd⟩ := hW
  have hA : DataW.TrodAll enc Try.prog W 0 (fun _ => true) true Try.f8.params.toList args.toList ds p := hA0
  rw [Try.params8] at hA hval
  obtain ⟨v0, vs0, d0, ds0, p0, q0, hargs, rfl, rfl, h0, r0⟩ := trodAll_cons hA
  obtain ⟨v1, vs1, d1, ds1, p1, q1, rfl, rfl, rfl, h1, r1⟩ := trodAll_cons r0
  obtain ⟨v2, vs2, d2, ds2, p2, q2, rfl, rfl, rfl, h2, r2⟩ := trodAll_cons r1
  obtain ⟨v3, vs3, d3, ds3, p3, q3, rfl, rfl, rfl, h3, r3⟩ := trodAll_cons r2
  obtain ⟨rfl, rfl, rfl⟩ := trodAll_nil r3
  obtain rfl : args = #[v0, v1, v2, v3] := by cases args; simp_all
  obtain ⟨rfl, rfl⟩ := trodVars_none hV
  obtain ⟨a0, rfl, rfl, rfl, w0⟩ := open_int Try.underlying5 (hval 0 5 v0 rfl rfl) h0
  obtain ⟨a1, rfl, rfl, rfl, w1⟩ := open_int Try.underlying5 (hval 1 5 v1 rfl rfl) h1
  obtain ⟨a2, len2, cap2, rfl⟩ := okWide_slice Try.underlying30 (hval 2 30 v2 rfl rfl)
  have k2 := h2
  have lt2 : ∀ x ∈ p2, x.block < W.heap.size := by obtain ⟨m, hm⟩ := k2; exact DataW.trod_lt m _ _ _ hm
  obtain ⟨z2, w2⟩ : ∃ zs, IsRow .u8 W a2 len2 cap2 zs := by
    obtain ⟨fuel, hf⟩ := h2
    rcases open_ints Try.underlying30 Try.underlying5 (by kernel_rfl) hf with ⟨hcs, _⟩ | ⟨x, l, c, zs, hcs, _, hl, hm, hz, _, hcell, hwz⟩
    · simp [Value.cells] at hcs
      obtain ⟨rfl, rfl, rfl⟩ := hcs
      exact ⟨[], .inl ⟨rfl, rfl, rfl, rfl⟩⟩
    · simp [Value.cells] at hcs
      obtain ⟨rfl, rfl, rfl⟩ := hcs
      exact ⟨zs, .inr ⟨_, rfl, hl, hm, by simpa using hz, hcell, hwz⟩⟩
  obtain ⟨a3, len3, cap3, rfl⟩ := okWide_slice Try.underlying37 (hval 3 37 v3 rfl rfl)
  have k3 := h3
  have lt3 : ∀ x ∈ p3, x.block < W.heap.size := by obtain ⟨m, hm⟩ := k3; exact DataW.trod_lt m _ _ _ hm
  obtain ⟨z3, w3⟩ : ∃ l, RbB W W.heap.size 4 (.slice a3 len3 cap3) l := by
    obtain ⟨fuel, hf⟩ := h3
    exact bools_open (by simpa [Value.cells] using hf)
  clear hA0 hval0
  refine (walk a0 a1 a2 len2 cap2 z2 a3 len3 cap3 z3 W w0 w1 w2 w3).mono fun e W' ⟨he, bel⟩ => ?_
  subst he
  exact ⟨_, rfl, _, _, _, [], _, [], hW', trodAll_mk1 (shut_bool Try.underlying4 _), (trodAll_cons_mk (shut_int Try.underlying5 w0) (trodAll_cons_mk (shut_int Try.underlying5 w1) (trodAll_cons_mk (Below.trod laidOut (by kernel_rfl) (of_decide_eq_true (by kernel_rfl)) k2 bel lt2) (trodAll_cons_mk (Below.trod laidOut (by kernel_rfl) (of_decide_eq_true (by kernel_rfl)) k3 bel lt3) trodAll_mk0)))), rfl, bel.frame _, fun h => by cases h⟩

theorem over : Rows.snapRisesRow.holds Try.pinned (OpenSpec.ofChange Rows.snapRisesSpec) :=
  OpenClaim.holds_of_wide 8 Try.f8 rfl rfl rfl rfl rfl rfl rfl ⟨rfl, rfl, rfl, rfl, rfl⟩ rfl rfl rfl rfl rfl (by kernel_rfl) Try.func8 (by kernel_rfl)
    (of_decide_eq_true (by kernel_rfl)) (by unfold Func.isWrapper; first | (rw [if_pos (by decide +kernel)]; kernel_rfl) | (rw [if_neg (by decide +kernel)]; exact ⟨rfl, rfl⟩))
    (fun os started H enc _ => lifted os started H enc)

theorem proved : Rows.SnapRisesSaid :=
  over
end Go.Proofs.Ytfmgjmedmbieeaa.snapRises

namespace Go.Proofs.Ytfmgjmedmbieeaa
theorem snapRises_holds : Rows.SnapRisesSaid := snapRises.proved
#print axioms snapRises_holds
end Go.Proofs.Ytfmgjmedmbieeaa

