/-
  Proved: whatever the arguments are, carrierlaw10.SpoolPlays answers true and leaves its arguments as they were. No condition.
-/
import Derived.Test.YtalplhhmghnggaaSpj
import Derived.Test.YtalplhhmghnggaaSrc
import Derived.Deep.DeepCutAuto
import Derived.Deep.CutBlock
namespace Go.Proofs.Ytalplhhmghnggaa.spoolPlays
open Go.ChangeShapes Go.WideShapes Go.ChangeAt Go.RowKit
set_option linter.unusedVariables false

theorem own : ownKnob Try.prog.godebug = none := by kernel_rfl
theorem laidOut : laidOutB Try.prog = true := by kernel_rfl

/-- The code's spools and the document's, side by side. -/
structure Bo2 (W w : World) (B h hm : Nat) (V U : Nat → Value) (l : Nat → List Ev) (c : Nat) (l2 : Nat → List Ev) (c2 : Nat) : Prop where
  sp : Sp spT w B h V l c
  ds : Dst V
  sr : Sp spR w B hm U l2 c2
  dj : ∀ k, sfoot h V k → ¬ sfoot hm U k
  kw : Kept W w []
  wb : W.heap.size ≤ B

theorem Bo2.keep {W w w' : World} {B h hm c c2 : Nat} {V U : Nat → Value} {l l2 : Nat → List Ev} (a : Bo2 W w B h hm V U l c l2 c2) (k : Kept w w' []) : Bo2 W w' B h hm V U l c l2 c2 :=
  ⟨a.sp.keep k, a.ds, a.sr.keep k, a.dj, a.kw.trans k (by simp), a.wb⟩
theorem Bo2.code {W w w' : World} {B h hm c c2 c' : Nat} {V U V' : Nat → Value} {l l2 l' : Nat → List Ev} (a : Bo2 W w B h hm V U l c l2 c2) (s1 : Sp spT w' B h V' l' c') (s2 : Dst V') (s3 : Stp (sfoot h V) (sfoot h V') w w') : Bo2 W w' B h hm V' U l' c' l2 c2 :=
  ⟨s1, s2, a.sr.fo s3.1 (fun k hk hh => a.dj k hh hk), fun k hk hh => by
    rcases s3.2 k hk with h1 | h1
    · exact a.dj k h1 hh
    · have := (a.sr.lt k hh).2; omega, a.kw.sp a.sp a.wb s3, a.wb⟩
theorem Bo2.doc {W w w' : World} {B h hm c c2 c' : Nat} {V U U' : Nat → Value} {l l2 l' : Nat → List Ev} (a : Bo2 W w B h hm V U l c l2 c2) (s1 : Sp spR w' B hm U' l' c') (s3 : Stp (sfoot hm U) (sfoot hm U') w w') : Bo2 W w' B h hm V U' l c l' c' :=
  ⟨a.sp.fo s3.1 (fun k hk hh => a.dj k hk hh), a.ds, s1, fun k hk hh => by
    rcases s3.2 k hh with h1 | h1
    · exact a.dj k hk h1
    · have := (a.sp.lt k hk).2; omega, a.kw.sp a.sr a.wb s3, a.wb⟩

def few (l : Nat → List Ev) (i : Nat) : Prop := ∀ j, j < 3 → (l j).length ≤ i
theorem few_add {l : Nat → List Ev} {i t : Nat} {e : Ev} (h : few l i) (ht : t < 3) : few (upd l t (l t ++ [e])) (i + 1) := by
  intro j hj
  by_cases e1 : j = t
  · subst e1
    rw [upd_same, List.length_append]
    have := h j hj
    simp only [List.length_cons, List.length_nil]
    omega
  · rw [upd_ne _ _ e1]
    have := h j hj
    omega
theorem few_more {l : Nat → List Ev} {i : Nat} (h : few l i) : few l (i + 1) := fun j hj => by have := h j hj; omega
theorem few_for {l : Nat → List Ev} {i : Nat} (x : Int) (h : few l i) : few (forL x l) (i + 1) := by
  intro j hj
  have h1 := h j hj
  have := List.length_filter_le (fun r => !ofX x r) (l j)
  unfold forL
  omega
theorem few_rot {l : Nat → List Ev} {i c : Nat} {free : Bool} (h : few l i) : few (rotS l c free).2.2.1 (i + 1) := by
  unfold rotS
  split
  · exact few_more h
  · split
    · intro j hj
      by_cases e : j = nxt c
      · show (upd l (nxt c) [] j).length ≤ i + 1
        rw [e, upd_same]
        simp
      · show (upd l (nxt c) [] j).length ≤ i + 1
        rw [upd_ne _ _ e]
        have := h j hj
        omega
    · exact few_more h
theorem few_pre {l : Nat → List Ev} {i : Nat} (h : few l i) : (pre l 3).length ≤ 3 * i := by
  have h0 := h 0 (by omega); have h1 := h 1 (by omega); have h2 := h 2 (by omega)
  simp only [pre, List.nil_append, List.length_append]
  omega
def SwPost (W : World) (B h hm i : Nat) (s8 : Value) (wx : World) : Prop := s8 = .bool true ∧ ∃ V U l c, Bo2 W wx B h hm V U l c l c ∧ few l (i + 1)

set_option maxHeartbeats 16000000 in
set_option maxRecDepth 100000 in
theorem walk (a0 : Option Addr) (len cap : Nat) (f : Nat → ActD) (W : World) (w0 : IsActs W W.heap.size a0 len f ∧ len ≤ maxLen) :
    Calls Try.prog 3 #[.slice a0 len cap] W fun e w' => e = .returned (.bool true) ∧ Below W.heap.size W w' := by
  have HA := Lib.hid w0.1
  have hlm : len ≤ 9223372036854775807 := by have := w0.2; unfold maxLen at this; omega
  clear w0
  by_cases h60 : 100 < len
  · have x0 : (100 : Int) < (len : Int) := by omega
    go_enter Try.func3, Try.ntmps3
    go_wp2_with fail
    refine (turns_any W).mono ?_
    rintro e w1 ⟨rfl, k1⟩
    have K1 := Lib.hid k1; clear k1
    go_wp2_with fail
    refine (turns_any w1).mono ?_
    rintro e w2 ⟨rfl, k2⟩
    have K2 := Lib.hid (K1.out.trans k2 (by simp)); clear k2
    go_wp2
    go_ret
    exact ⟨rfl, K2.out.below (Nat.le_refl _) (by simp)⟩
  · have x0 : ¬ (100 : Int) < (len : Int) := by omega
    go_enter Try.func3, Try.ntmps3
    go_wp2_with fail
    refine (turns_any W).mono ?_
    rintro e w1 ⟨rfl, k1⟩
    have K1 := Lib.hid k1; clear k1
    go_wp2_with fail
    refine (new_any w1).mono ?_
    rintro e w2 ⟨h, rfl, a2, k2⟩
    have HB : RowKit.Hid (W.heap.size ≤ w1.heap.size) := Lib.hid K1.out.size
    obtain ⟨hm, hhm⟩ : ∃ p, p = w2.heap.size := ⟨_, rfl⟩
    obtain ⟨w3, hw3⟩ : ∃ w3, w3 = w2.alloc (.cells #[.slice none 0 0, .slice none 0 0, .slice none 0 0, .int .i64 0] 30) := ⟨_, rfl⟩
    have k3 : Kept w2 w3 [] := by rw [hw3]; exact (Kept.refl w2 []).alloc _
    have A2 := Lib.hid (show Bo2 W w3 w1.heap.size h hm noV noV noE 0 noE 0 ∧ few noE 0 from by
      have g3 : w3.heap[hm]? = some (.cells #[.slice none 0 0, .slice none 0 0, .slice none 0 0, .int .i64 0] 30 (0, 0)) := by rw [hw3, hhm]; exact heap_alloc_new w2 _
      refine ⟨⟨(show Sp spT w2 w1.heap.size h noV noE 0 from a2).keep k3, dst_no, ⟨g3, by rw [hhm]; exact k2.size, by omega, fun i _ => OwnE.nil _ _ _⟩, ?_, (K1.out.trans k2 (by simp)).trans k3 (by simp), HB.out⟩, fun j _ => by simp [noE]⟩
      rintro k (rfl | ⟨j, _, hk⟩) (hh | ⟨j', _, hk'⟩)
      · have := heap_lt a2.hh
        omega
      · simp [noV, Value.ownBlock] at hk'
      · simp [noV, Value.ownBlock] at hk
      · simp [noV, Value.ownBlock] at hk)
    clear a2 k2
    go_upto_region 4 with fail
    rw [← hw3, ← hhm]
    clear hw3 hhm k3
    obtain ⟨B, hB⟩ : ∃ B, B = w1.heap.size := ⟨_, rfl⟩
    rw [← hB] at A2 HB
    clear hB
    go_wp2
    go_loopg [5, 6, 7, 8, 9, 10, 11, 12, 13, 14] len (fun kx s5 _ _ _ _ _ _ _ _ _ wr => ∃ (i : Nat) (V U : Nat → Value) (l : Nat → List Ev) (c : Nat), s5 = .int .i64 i ∧ i ≤ len ∧ len - i ≤ kx ∧ RowKit.Hid (Bo2 W wr B h hm V U l c l c ∧ few l i))
    case atStart => exact ⟨0, noV, noV, noE, 0, rfl, by omega, by omega, A2⟩
    case round =>
      clear A2
      obtain ⟨i, V, U, l, c, rfl, hik, hkx, HS⟩ := hrel
      obtain ⟨wo, hwo⟩ : ∃ wo, wo = wr := ⟨_, rfl⟩
      subst hwo
      by_cases hlt : i < len
      · have x1 : (i : Int) < (len : Int) := by omega
        obtain ⟨bb, oo, rfl, hbb, hact⟩ := HA.out (by omega)
        have ac := (hact i hlt).kept HS.out.1.kw (by simp)
        obtain ⟨D, hD⟩ : ∃ D, D = (f i).d := ⟨_, rfl⟩
        obtain ⟨I, hI⟩ : ∃ I, I = (f i).i := ⟨_, rfl⟩
        obtain ⟨ID, hID⟩ : ∃ ID, ID = (f i).id := ⟨_, rfl⟩
        obtain ⟨X, hX⟩ : ∃ X, X = (f i).x := ⟨_, rfl⟩
        obtain ⟨TB, hTB⟩ : ∃ TB, TB = (f i).tb := ⟨_, rfl⟩
        have c0 := ac.c0; have c1 := ac.c1; have c2 := ac.c2; have c3 := ac.c3; have c4 := ac.c4
        have WI := Lib.hid ac.wi
        have d8 := ac.d8; have x8 := ac.x8; have t8 := ac.t8
        rw [← hD] at c0 d8
        rw [← hI] at c1 WI
        rw [← hID] at c2
        rw [← hX] at c3 x8
        rw [← hTB] at c4 t8
        clear ac hact hD hI hID hX hTB
        obtain ⟨E0, hE0⟩ : ∃ E0, ID.tmod 30 = E0 := ⟨_, rfl⟩
        obtain ⟨y, hy⟩ : ∃ y, y = X % 6 := ⟨_, rfl⟩
        have hy6 : y < 6 := by omega
        have y6 : (X : Int).tmod 6 = y := by rw [Int.tmod_eq_emod_of_nonneg (by omega)]; omega
        have y6' : (X : Int) % 6 = y := by omega
        have my : IntKind.i64.wrap (y : Int) = y := by rw [IntKind.wrap_i64]; omega
        have mtb : IntKind.i64.wrap (TB : Int) = TB := by rw [IntKind.wrap_i64]; omega
        clear hy
        go_upto_region 9 with fail
        clear c0 c1 c2 c3 c4
        obtain ⟨p6, hp6⟩ : ∃ p, p = wo.heap.size := ⟨_, rfl⟩
        obtain ⟨p7, hp7⟩ : ∃ p, p = wo.heap.size + 1 := ⟨_, rfl⟩
        obtain ⟨w8, hw8⟩ : ∃ w8, w8 = (wo.alloc (.cells #[.int .u8 D, .int .i64 I, .int .i64 ID, .int .u8 X, .int .u8 TB] 32)).alloc (.cells #[.int .i64 E0, .int .i64 (y : Int), .string ⟨#[]⟩, .int .i64 0, .int .i64 (TB : Int), .int .u8 0, .int .i64 0, .string ⟨#[]⟩] 36) := ⟨_, rfl⟩
        have k8 : Kept wo w8 [] := by rw [hw8]; exact ((Kept.refl wo []).alloc _).alloc _
        have g6 : w8.heap[p6]? = some (.cells #[.int .u8 D, .int .i64 I, .int .i64 ID, .int .u8 X, .int .u8 TB] 32 (0, 0)) := by rw [hw8, hp6]; exact ((Kept.refl _ []).alloc _).heap (by simp) (heap_alloc_new wo _)
        have g7 : w8.heap[p7]? = some (.cells #[.int .i64 E0, .int .i64 (y : Int), .string ⟨#[]⟩, .int .i64 0, .int .i64 (TB : Int), .int .u8 0, .int .i64 0, .string ⟨#[]⟩] 36 (0, 0)) := by
          rw [hw8, hp7]
          have := heap_alloc_new (wo.alloc (.cells #[.int .u8 D, .int .i64 I, .int .i64 ID, .int .u8 X, .int .u8 TB] 32)) (.cells #[.int .i64 E0, .int .i64 (y : Int), .string ⟨#[]⟩, .int .i64 0, .int .i64 (TB : Int), .int .u8 0, .int .i64 0, .string ⟨#[]⟩] 36)
          simpa using this
        have BS := Lib.hid (And.intro g6 g7)
        have Q := Lib.hid (HS.out.1.keep k8)
        have FW := Lib.hid HS.out.2
        have NP := Lib.hid (show ¬ sfoot h V p6 ∧ ¬ sfoot h V p7 ∧ ¬ sfoot hm U p6 ∧ ¬ sfoot hm U p7 from ⟨fun hk => by have := (HS.out.1.sp.lt _ hk).2; omega, fun hk => by have := (HS.out.1.sp.lt _ hk).2; omega, fun hk => by have := (HS.out.1.sr.lt _ hk).2; omega, fun hk => by have := (HS.out.1.sr.lt _ hk).2; omega⟩)
        rw [← hw8, ← hp7, ← hp6]
        clear hw8 k8 g6 g7 hp6 hp7 HS
        have hi100 : i < 100 := by omega
        obtain ⟨z0, z1, z2, z3, z4⟩ := (show w8.cell? ⟨p6, 0, none⟩ = some (.int .u8 D) ∧ w8.cell? ⟨p6, 1, none⟩ = some (.int .i64 I) ∧ w8.cell? ⟨p6, 2, none⟩ = some (.int .i64 ID) ∧ w8.cell? ⟨p6, 3, none⟩ = some (.int .u8 X) ∧ w8.cell? ⟨p6, 4, none⟩ = some (.int .u8 TB) from ⟨cell_of_row _ _ 0 _ _ _ BS.out.1, cell_of_row _ _ 1 _ _ _ BS.out.1, cell_of_row _ _ 2 _ _ _ BS.out.1, cell_of_row _ _ 3 _ _ _ BS.out.1, cell_of_row _ _ 4 _ _ _ BS.out.1⟩)
        obtain ⟨v0, v1, v2, v3, v4, v5, v6, v7⟩ := ev_cells BS.out.2
        obtain ⟨t, ht10, ht, ht'⟩ : ∃ t : Nat, t < 10 ∧ (D : Int) % 10 = t ∧ (D : Int).tmod 10 = t := ⟨D % 10, by omega, by omega, by rw [Int.tmod_eq_emod_of_nonneg (by omega)]; omega⟩
        go_upto_block 2 with fail
        go_cut [8, 9, 10, 11, 12, 76, 91, 104, 119] (fun s8 _ _ _ _ _ _ _ _ wx => SwPost W B h hm i s8 wx)
        case first =>
          rcases (show t = 0 ∨ t = 1 ∨ t = 2 ∨ t = 3 ∨ t = 4 ∨ t = 5 ∨ t = 6 ∨ t = 7 ∨ t = 8 ∨ t = 9 by omega) with rfl | rfl | rfl | rfl | rfl | rfl | rfl | rfl | rfl | rfl
          · as_aux_lemma =>
              have hc := add_any Q.out.sp Q.out.ds (by have := FW.out c Q.out.sp.c3; omega) ⟨E0, y, ⟨#[]⟩, 0, TB, 0, 0, ⟨#[]⟩⟩
              simp only [Ev.cs] at hc
              have HC := Lib.hid hc
              clear hc
              go_wp2_with fail
              refine HC.out.mono ?_
              rintro e w9 ⟨rfl, V9, q1, q2, q3⟩
              have BS9 := Lib.hid (q3.1.heap NP.out.2.1 BS.out.2)
              have R9 := Lib.hid (Q.out.code q1 q2 q3)
              clear q1 q2 q3 HC v0 v1 v2 v3 v4 v5 v6 v7 z0 z1 z2 z3 z4
              have hc := raddto_any (R9.out.sr.keep (Kept.refl w9 []).drew) c R9.out.sr.c3 (by have := FW.out c R9.out.sr.c3; omega) ⟨E0, y, ⟨#[]⟩, 0, TB, 0, 0, ⟨#[]⟩⟩
              simp only [Ev.cs] at hc
              have HC := Lib.hid hc
              have CM := Lib.hid (R9.out.sr.cur.1)
              clear hc
              go_wp2_with fail
              refine wp_region_held_drew (S := fun Z => Z.cell? ⟨hm, 3, none⟩ = some (.int .i64 c) ∧ Z.heap[p7]? = some (.cells #[.int .i64 E0, .int .i64 (y : Int), .string ⟨#[]⟩, .int .i64 0, .int .i64 (TB : Int), .int .u8 0, .int .i64 0, .string ⟨#[]⟩] 36 (0, 0))) (by kernel_rfl) ⟨CM.out, BS9.out⟩ (fun hHeld => ?_)
              refine wpAnyH_take (i := 0) (oi := _) (v := .pointer (some ⟨hm, 0, none⟩)) rfl (by kernel_rfl) (by kernel_rfl) (by kernel_rfl) (fun _ _ _ h => h) (Or.inl ⟨by rfl, fun V hV => by go_simp⟩) hHeld ?_
              change wpAnyH _ _ _ _ _ _ _ (Act.put _ (some 84) _) _
              simp only [Act.put, List.setIfInBounds_toArray, List.set_cons_zero, List.set_cons_succ]
              refine wpAnyH_take (i := 1) (oi := _) (v := .pointer (some ⟨hm, 0, none⟩)) rfl (by kernel_rfl) (by kernel_rfl) (by kernel_rfl) (fun _ _ _ h => h) (Or.inl ⟨by rfl, fun V hV => by go_simp⟩) hHeld ?_
              change wpAnyH _ _ _ _ _ _ _ (Act.put _ (some 85) _) _
              simp only [Act.put, List.setIfInBounds_toArray, List.set_cons_zero, List.set_cons_succ]
              refine wpAnyH_take (i := 2) (oi := _) (v := .pointer (some ⟨hm, 0, none⟩)) rfl (by kernel_rfl) (by kernel_rfl) (by kernel_rfl) (fun _ _ _ h => h) (Or.inl ⟨by rfl, fun V hV => by go_simp⟩) hHeld ?_
              change wpAnyH _ _ _ _ _ _ _ (Act.put _ (some 86) _) _
              simp only [Act.put, List.setIfInBounds_toArray, List.set_cons_zero, List.set_cons_succ]
              refine wpAnyH_take (i := 3) (oi := _) (v := .pointer (some ⟨hm, 3, none⟩)) rfl (by kernel_rfl) (by kernel_rfl) (by kernel_rfl) (fun _ _ _ h => h) (Or.inl ⟨by rfl, fun V hV => by go_simp⟩) hHeld ?_
              change wpAnyH _ _ _ _ _ _ _ (Act.put _ (some 87) _) _
              simp only [Act.put, List.setIfInBounds_toArray, List.set_cons_zero, List.set_cons_succ]
              refine wpAnyH_take (i := 4) (oi := _) (v := .int .i64 c) rfl (by kernel_rfl) (by kernel_rfl) (by kernel_rfl) (fun _ _ _ h => h) (Or.inl ⟨by rfl, fun V hV => by (have q0 := hV.1; clear hV; go_simp)⟩) hHeld ?_
              change wpAnyH _ _ _ _ _ _ _ (Act.put _ (some 88) _) _
              simp only [Act.put, List.setIfInBounds_toArray, List.set_cons_zero, List.set_cons_succ]
              refine wpAnyH_take (i := 5) (oi := _) (v := .agg #[.int .i64 E0, .int .i64 (y : Int), .string ⟨#[]⟩, .int .i64 0, .int .i64 (TB : Int), .int .u8 0, .int .i64 0, .string ⟨#[]⟩]) rfl (by kernel_rfl) (by kernel_rfl) (by kernel_rfl) (fun _ _ _ h => h) (Or.inl ⟨by rfl, fun V hV => by (obtain ⟨q0, q1, q2, q3, q4, q5, q6, q7⟩ := ev_cells hV.2; clear hV; go_simp)⟩) hHeld ?_
              change wpAnyH _ _ _ _ _ _ _ (Act.put _ (some 89) _) _
              simp only [Act.put, List.setIfInBounds_toArray, List.set_cons_zero, List.set_cons_succ]
              refine wpAnyH_ready (rs := [6]) (by kernel_rfl) (by simp) ?_
              refine AllReadyH.cons (o := _) rfl (fun K hK => ?_) AllReadyH.nil
              go_simp
              go_at_call 12
              refine HC.out.mono ?_
              rintro e wA ⟨rfl, U9, q1, q3⟩
              have R10 := Lib.hid ((R9.out.keep (Kept.refl w9 []).drew).doc q1 q3)
              have S10 := Lib.hid (show wA.cell? ⟨hm, 3, none⟩ = some (.int .i64 c) ∧ wA.heap[p7]? = some (.cells #[.int .i64 E0, .int .i64 (y : Int), .string ⟨#[]⟩, .int .i64 0, .int .i64 (TB : Int), .int .u8 0, .int .i64 0, .string ⟨#[]⟩] 36 (0, 0)) from ⟨q1.cur.1, q3.1.heap NP.out.2.2.2 BS9.out⟩)
              clear q1 q3
              go_wp2_with fail
              refine hK.out _ _ S10.out (fun hHeld => ?_)
              clear hK K
              refine wpAnyH_done (by kernel_rfl) ?_ _
              go_wp2_with fail
              go_meet
              exact ⟨rfl, V9, U9, _, _, R10.out, few_add FW.out R10.out.sr.c3⟩
          · as_aux_lemma =>
              have hc := add_any Q.out.sp Q.out.ds (by have := FW.out c Q.out.sp.c3; omega) ⟨E0, y, ⟨#[]⟩, 0, TB, 0, 0, ⟨#[]⟩⟩
              simp only [Ev.cs] at hc
              have HC := Lib.hid hc
              clear hc
              go_wp2_with fail
              refine HC.out.mono ?_
              rintro e w9 ⟨rfl, V9, q1, q2, q3⟩
              have BS9 := Lib.hid (q3.1.heap NP.out.2.1 BS.out.2)
              have R9 := Lib.hid (Q.out.code q1 q2 q3)
              clear q1 q2 q3 HC v0 v1 v2 v3 v4 v5 v6 v7 z0 z1 z2 z3 z4
              have hc := raddto_any (R9.out.sr.keep (Kept.refl w9 []).drew) c R9.out.sr.c3 (by have := FW.out c R9.out.sr.c3; omega) ⟨E0, y, ⟨#[]⟩, 0, TB, 0, 0, ⟨#[]⟩⟩
              simp only [Ev.cs] at hc
              have HC := Lib.hid hc
              have CM := Lib.hid (R9.out.sr.cur.1)
              clear hc
              go_wp2_with fail
              refine wp_region_held_drew (S := fun Z => Z.cell? ⟨hm, 3, none⟩ = some (.int .i64 c) ∧ Z.heap[p7]? = some (.cells #[.int .i64 E0, .int .i64 (y : Int), .string ⟨#[]⟩, .int .i64 0, .int .i64 (TB : Int), .int .u8 0, .int .i64 0, .string ⟨#[]⟩] 36 (0, 0))) (by kernel_rfl) ⟨CM.out, BS9.out⟩ (fun hHeld => ?_)
              refine wpAnyH_take (i := 0) (oi := _) (v := .pointer (some ⟨hm, 0, none⟩)) rfl (by kernel_rfl) (by kernel_rfl) (by kernel_rfl) (fun _ _ _ h => h) (Or.inl ⟨by rfl, fun V hV => by go_simp⟩) hHeld ?_
              change wpAnyH _ _ _ _ _ _ _ (Act.put _ (some 84) _) _
              simp only [Act.put, List.setIfInBounds_toArray, List.set_cons_zero, List.set_cons_succ]
              refine wpAnyH_take (i := 1) (oi := _) (v := .pointer (some ⟨hm, 0, none⟩)) rfl (by kernel_rfl) (by kernel_rfl) (by kernel_rfl) (fun _ _ _ h => h) (Or.inl ⟨by rfl, fun V hV => by go_simp⟩) hHeld ?_
              change wpAnyH _ _ _ _ _ _ _ (Act.put _ (some 85) _) _
              simp only [Act.put, List.setIfInBounds_toArray, List.set_cons_zero, List.set_cons_succ]
              refine wpAnyH_take (i := 2) (oi := _) (v := .pointer (some ⟨hm, 0, none⟩)) rfl (by kernel_rfl) (by kernel_rfl) (by kernel_rfl) (fun _ _ _ h => h) (Or.inl ⟨by rfl, fun V hV => by go_simp⟩) hHeld ?_
              change wpAnyH _ _ _ _ _ _ _ (Act.put _ (some 86) _) _
              simp only [Act.put, List.setIfInBounds_toArray, List.set_cons_zero, List.set_cons_succ]
              refine wpAnyH_take (i := 3) (oi := _) (v := .pointer (some ⟨hm, 3, none⟩)) rfl (by kernel_rfl) (by kernel_rfl) (by kernel_rfl) (fun _ _ _ h => h) (Or.inl ⟨by rfl, fun V hV => by go_simp⟩) hHeld ?_
              change wpAnyH _ _ _ _ _ _ _ (Act.put _ (some 87) _) _
              simp only [Act.put, List.setIfInBounds_toArray, List.set_cons_zero, List.set_cons_succ]
              refine wpAnyH_take (i := 4) (oi := _) (v := .int .i64 c) rfl (by kernel_rfl) (by kernel_rfl) (by kernel_rfl) (fun _ _ _ h => h) (Or.inl ⟨by rfl, fun V hV => by (have q0 := hV.1; clear hV; go_simp)⟩) hHeld ?_
              change wpAnyH _ _ _ _ _ _ _ (Act.put _ (some 88) _) _
              simp only [Act.put, List.setIfInBounds_toArray, List.set_cons_zero, List.set_cons_succ]
              refine wpAnyH_take (i := 5) (oi := _) (v := .agg #[.int .i64 E0, .int .i64 (y : Int), .string ⟨#[]⟩, .int .i64 0, .int .i64 (TB : Int), .int .u8 0, .int .i64 0, .string ⟨#[]⟩]) rfl (by kernel_rfl) (by kernel_rfl) (by kernel_rfl) (fun _ _ _ h => h) (Or.inl ⟨by rfl, fun V hV => by (obtain ⟨q0, q1, q2, q3, q4, q5, q6, q7⟩ := ev_cells hV.2; clear hV; go_simp)⟩) hHeld ?_
              change wpAnyH _ _ _ _ _ _ _ (Act.put _ (some 89) _) _
              simp only [Act.put, List.setIfInBounds_toArray, List.set_cons_zero, List.set_cons_succ]
              refine wpAnyH_ready (rs := [6]) (by kernel_rfl) (by simp) ?_
              refine AllReadyH.cons (o := _) rfl (fun K hK => ?_) AllReadyH.nil
              go_simp
              go_at_call 12
              refine HC.out.mono ?_
              rintro e wA ⟨rfl, U9, q1, q3⟩
              have R10 := Lib.hid ((R9.out.keep (Kept.refl w9 []).drew).doc q1 q3)
              have S10 := Lib.hid (show wA.cell? ⟨hm, 3, none⟩ = some (.int .i64 c) ∧ wA.heap[p7]? = some (.cells #[.int .i64 E0, .int .i64 (y : Int), .string ⟨#[]⟩, .int .i64 0, .int .i64 (TB : Int), .int .u8 0, .int .i64 0, .string ⟨#[]⟩] 36 (0, 0)) from ⟨q1.cur.1, q3.1.heap NP.out.2.2.2 BS9.out⟩)
              clear q1 q3
              go_wp2_with fail
              refine hK.out _ _ S10.out (fun hHeld => ?_)
              clear hK K
              refine wpAnyH_done (by kernel_rfl) ?_ _
              go_wp2_with fail
              go_meet
              exact ⟨rfl, V9, U9, _, _, R10.out, few_add FW.out R10.out.sr.c3⟩
          · as_aux_lemma =>
              have hc := add_any Q.out.sp Q.out.ds (by have := FW.out c Q.out.sp.c3; omega) ⟨E0, y, ⟨#[]⟩, 0, TB, 0, 0, ⟨#[]⟩⟩
              simp only [Ev.cs] at hc
              have HC := Lib.hid hc
              clear hc
              go_wp2_with fail
              refine HC.out.mono ?_
              rintro e w9 ⟨rfl, V9, q1, q2, q3⟩
              have BS9 := Lib.hid (q3.1.heap NP.out.2.1 BS.out.2)
              have R9 := Lib.hid (Q.out.code q1 q2 q3)
              clear q1 q2 q3 HC v0 v1 v2 v3 v4 v5 v6 v7 z0 z1 z2 z3 z4
              have hc := raddto_any (R9.out.sr.keep (Kept.refl w9 []).drew) c R9.out.sr.c3 (by have := FW.out c R9.out.sr.c3; omega) ⟨E0, y, ⟨#[]⟩, 0, TB, 0, 0, ⟨#[]⟩⟩
              simp only [Ev.cs] at hc
              have HC := Lib.hid hc
              have CM := Lib.hid (R9.out.sr.cur.1)
              clear hc
              go_wp2_with fail
              refine wp_region_held_drew (S := fun Z => Z.cell? ⟨hm, 3, none⟩ = some (.int .i64 c) ∧ Z.heap[p7]? = some (.cells #[.int .i64 E0, .int .i64 (y : Int), .string ⟨#[]⟩, .int .i64 0, .int .i64 (TB : Int), .int .u8 0, .int .i64 0, .string ⟨#[]⟩] 36 (0, 0))) (by kernel_rfl) ⟨CM.out, BS9.out⟩ (fun hHeld => ?_)
              refine wpAnyH_take (i := 0) (oi := _) (v := .pointer (some ⟨hm, 0, none⟩)) rfl (by kernel_rfl) (by kernel_rfl) (by kernel_rfl) (fun _ _ _ h => h) (Or.inl ⟨by rfl, fun V hV => by go_simp⟩) hHeld ?_
              change wpAnyH _ _ _ _ _ _ _ (Act.put _ (some 84) _) _
              simp only [Act.put, List.setIfInBounds_toArray, List.set_cons_zero, List.set_cons_succ]
              refine wpAnyH_take (i := 1) (oi := _) (v := .pointer (some ⟨hm, 0, none⟩)) rfl (by kernel_rfl) (by kernel_rfl) (by kernel_rfl) (fun _ _ _ h => h) (Or.inl ⟨by rfl, fun V hV => by go_simp⟩) hHeld ?_
              change wpAnyH _ _ _ _ _ _ _ (Act.put _ (some 85) _) _
              simp only [Act.put, List.setIfInBounds_toArray, List.set_cons_zero, List.set_cons_succ]
              refine wpAnyH_take (i := 2) (oi := _) (v := .pointer (some ⟨hm, 0, none⟩)) rfl (by kernel_rfl) (by kernel_rfl) (by kernel_rfl) (fun _ _ _ h => h) (Or.inl ⟨by rfl, fun V hV => by go_simp⟩) hHeld ?_
              change wpAnyH _ _ _ _ _ _ _ (Act.put _ (some 86) _) _
              simp only [Act.put, List.setIfInBounds_toArray, List.set_cons_zero, List.set_cons_succ]
              refine wpAnyH_take (i := 3) (oi := _) (v := .pointer (some ⟨hm, 3, none⟩)) rfl (by kernel_rfl) (by kernel_rfl) (by kernel_rfl) (fun _ _ _ h => h) (Or.inl ⟨by rfl, fun V hV => by go_simp⟩) hHeld ?_
              change wpAnyH _ _ _ _ _ _ _ (Act.put _ (some 87) _) _
              simp only [Act.put, List.setIfInBounds_toArray, List.set_cons_zero, List.set_cons_succ]
              refine wpAnyH_take (i := 4) (oi := _) (v := .int .i64 c) rfl (by kernel_rfl) (by kernel_rfl) (by kernel_rfl) (fun _ _ _ h => h) (Or.inl ⟨by rfl, fun V hV => by (have q0 := hV.1; clear hV; go_simp)⟩) hHeld ?_
              change wpAnyH _ _ _ _ _ _ _ (Act.put _ (some 88) _) _
              simp only [Act.put, List.setIfInBounds_toArray, List.set_cons_zero, List.set_cons_succ]
              refine wpAnyH_take (i := 5) (oi := _) (v := .agg #[.int .i64 E0, .int .i64 (y : Int), .string ⟨#[]⟩, .int .i64 0, .int .i64 (TB : Int), .int .u8 0, .int .i64 0, .string ⟨#[]⟩]) rfl (by kernel_rfl) (by kernel_rfl) (by kernel_rfl) (fun _ _ _ h => h) (Or.inl ⟨by rfl, fun V hV => by (obtain ⟨q0, q1, q2, q3, q4, q5, q6, q7⟩ := ev_cells hV.2; clear hV; go_simp)⟩) hHeld ?_
              change wpAnyH _ _ _ _ _ _ _ (Act.put _ (some 89) _) _
              simp only [Act.put, List.setIfInBounds_toArray, List.set_cons_zero, List.set_cons_succ]
              refine wpAnyH_ready (rs := [6]) (by kernel_rfl) (by simp) ?_
              refine AllReadyH.cons (o := _) rfl (fun K hK => ?_) AllReadyH.nil
              go_simp
              go_at_call 12
              refine HC.out.mono ?_
              rintro e wA ⟨rfl, U9, q1, q3⟩
              have R10 := Lib.hid ((R9.out.keep (Kept.refl w9 []).drew).doc q1 q3)
              have S10 := Lib.hid (show wA.cell? ⟨hm, 3, none⟩ = some (.int .i64 c) ∧ wA.heap[p7]? = some (.cells #[.int .i64 E0, .int .i64 (y : Int), .string ⟨#[]⟩, .int .i64 0, .int .i64 (TB : Int), .int .u8 0, .int .i64 0, .string ⟨#[]⟩] 36 (0, 0)) from ⟨q1.cur.1, q3.1.heap NP.out.2.2.2 BS9.out⟩)
              clear q1 q3
              go_wp2_with fail
              refine hK.out _ _ S10.out (fun hHeld => ?_)
              clear hK K
              refine wpAnyH_done (by kernel_rfl) ?_ _
              go_wp2_with fail
              go_meet
              exact ⟨rfl, V9, U9, _, _, R10.out, few_add FW.out R10.out.sr.c3⟩
          · as_aux_lemma =>
              have hc := add_any Q.out.sp Q.out.ds (by have := FW.out c Q.out.sp.c3; omega) ⟨E0, y, ⟨#[]⟩, 0, TB, 0, 0, ⟨#[]⟩⟩
              simp only [Ev.cs] at hc
              have HC := Lib.hid hc
              clear hc
              go_wp2_with fail
              refine HC.out.mono ?_
              rintro e w9 ⟨rfl, V9, q1, q2, q3⟩
              have BS9 := Lib.hid (q3.1.heap NP.out.2.1 BS.out.2)
              have R9 := Lib.hid (Q.out.code q1 q2 q3)
              clear q1 q2 q3 HC v0 v1 v2 v3 v4 v5 v6 v7 z0 z1 z2 z3 z4
              have hc := raddto_any (R9.out.sr.keep (Kept.refl w9 []).drew) c R9.out.sr.c3 (by have := FW.out c R9.out.sr.c3; omega) ⟨E0, y, ⟨#[]⟩, 0, TB, 0, 0, ⟨#[]⟩⟩
              simp only [Ev.cs] at hc
              have HC := Lib.hid hc
              have CM := Lib.hid (R9.out.sr.cur.1)
              clear hc
              go_wp2_with fail
              refine wp_region_held_drew (S := fun Z => Z.cell? ⟨hm, 3, none⟩ = some (.int .i64 c) ∧ Z.heap[p7]? = some (.cells #[.int .i64 E0, .int .i64 (y : Int), .string ⟨#[]⟩, .int .i64 0, .int .i64 (TB : Int), .int .u8 0, .int .i64 0, .string ⟨#[]⟩] 36 (0, 0))) (by kernel_rfl) ⟨CM.out, BS9.out⟩ (fun hHeld => ?_)
              refine wpAnyH_take (i := 0) (oi := _) (v := .pointer (some ⟨hm, 0, none⟩)) rfl (by kernel_rfl) (by kernel_rfl) (by kernel_rfl) (fun _ _ _ h => h) (Or.inl ⟨by rfl, fun V hV => by go_simp⟩) hHeld ?_
              change wpAnyH _ _ _ _ _ _ _ (Act.put _ (some 84) _) _
              simp only [Act.put, List.setIfInBounds_toArray, List.set_cons_zero, List.set_cons_succ]
              refine wpAnyH_take (i := 1) (oi := _) (v := .pointer (some ⟨hm, 0, none⟩)) rfl (by kernel_rfl) (by kernel_rfl) (by kernel_rfl) (fun _ _ _ h => h) (Or.inl ⟨by rfl, fun V hV => by go_simp⟩) hHeld ?_
              change wpAnyH _ _ _ _ _ _ _ (Act.put _ (some 85) _) _
              simp only [Act.put, List.setIfInBounds_toArray, List.set_cons_zero, List.set_cons_succ]
              refine wpAnyH_take (i := 2) (oi := _) (v := .pointer (some ⟨hm, 0, none⟩)) rfl (by kernel_rfl) (by kernel_rfl) (by kernel_rfl) (fun _ _ _ h => h) (Or.inl ⟨by rfl, fun V hV => by go_simp⟩) hHeld ?_
              change wpAnyH _ _ _ _ _ _ _ (Act.put _ (some 86) _) _
              simp only [Act.put, List.setIfInBounds_toArray, List.set_cons_zero, List.set_cons_succ]
              refine wpAnyH_take (i := 3) (oi := _) (v := .pointer (some ⟨hm, 3, none⟩)) rfl (by kernel_rfl) (by kernel_rfl) (by kernel_rfl) (fun _ _ _ h => h) (Or.inl ⟨by rfl, fun V hV => by go_simp⟩) hHeld ?_
              change wpAnyH _ _ _ _ _ _ _ (Act.put _ (some 87) _) _
              simp only [Act.put, List.setIfInBounds_toArray, List.set_cons_zero, List.set_cons_succ]
              refine wpAnyH_take (i := 4) (oi := _) (v := .int .i64 c) rfl (by kernel_rfl) (by kernel_rfl) (by kernel_rfl) (fun _ _ _ h => h) (Or.inl ⟨by rfl, fun V hV => by (have q0 := hV.1; clear hV; go_simp)⟩) hHeld ?_
              change wpAnyH _ _ _ _ _ _ _ (Act.put _ (some 88) _) _
              simp only [Act.put, List.setIfInBounds_toArray, List.set_cons_zero, List.set_cons_succ]
              refine wpAnyH_take (i := 5) (oi := _) (v := .agg #[.int .i64 E0, .int .i64 (y : Int), .string ⟨#[]⟩, .int .i64 0, .int .i64 (TB : Int), .int .u8 0, .int .i64 0, .string ⟨#[]⟩]) rfl (by kernel_rfl) (by kernel_rfl) (by kernel_rfl) (fun _ _ _ h => h) (Or.inl ⟨by rfl, fun V hV => by (obtain ⟨q0, q1, q2, q3, q4, q5, q6, q7⟩ := ev_cells hV.2; clear hV; go_simp)⟩) hHeld ?_
              change wpAnyH _ _ _ _ _ _ _ (Act.put _ (some 89) _) _
              simp only [Act.put, List.setIfInBounds_toArray, List.set_cons_zero, List.set_cons_succ]
              refine wpAnyH_ready (rs := [6]) (by kernel_rfl) (by simp) ?_
              refine AllReadyH.cons (o := _) rfl (fun K hK => ?_) AllReadyH.nil
              go_simp
              go_at_call 12
              refine HC.out.mono ?_
              rintro e wA ⟨rfl, U9, q1, q3⟩
              have R10 := Lib.hid ((R9.out.keep (Kept.refl w9 []).drew).doc q1 q3)
              have S10 := Lib.hid (show wA.cell? ⟨hm, 3, none⟩ = some (.int .i64 c) ∧ wA.heap[p7]? = some (.cells #[.int .i64 E0, .int .i64 (y : Int), .string ⟨#[]⟩, .int .i64 0, .int .i64 (TB : Int), .int .u8 0, .int .i64 0, .string ⟨#[]⟩] 36 (0, 0)) from ⟨q1.cur.1, q3.1.heap NP.out.2.2.2 BS9.out⟩)
              clear q1 q3
              go_wp2_with fail
              refine hK.out _ _ S10.out (fun hHeld => ?_)
              clear hK K
              refine wpAnyH_done (by kernel_rfl) ?_ _
              go_wp2_with fail
              go_meet
              exact ⟨rfl, V9, U9, _, _, R10.out, few_add FW.out R10.out.sr.c3⟩
          · as_aux_lemma =>
              by_cases hT : isT I = true
              · obtain ⟨q, hq⟩ : ∃ q : Nat, I = (q : Int) := ⟨I.toNat, by have := of_decide_eq_true hT; omega⟩
                subst hq
                have hq3 : q < 3 := by have := of_decide_eq_true hT; omega
                clear hT
                have hc := addto_any (Q.out.keep (Kept.refl w8 []).drew).sp Q.out.ds q hq3 (by have := FW.out q hq3; omega) ⟨E0, y, ⟨#[]⟩, 0, TB, 0, 0, ⟨#[]⟩⟩
                simp only [Ev.cs] at hc
                have HC := Lib.hid hc
                clear hc
                clear v0 v1 v2 v3 v4 v5 v6 v7 z0 z1 z2 z3 z4
                go_wp2_with fail
                refine wp_region_held_drew (S := fun Z => Z.heap[p6]? = some (.cells #[.int .u8 D, .int .i64 (q : Int), .int .i64 ID, .int .u8 X, .int .u8 TB] 32 (0, 0)) ∧ Z.heap[p7]? = some (.cells #[.int .i64 E0, .int .i64 (y : Int), .string ⟨#[]⟩, .int .i64 0, .int .i64 (TB : Int), .int .u8 0, .int .i64 0, .string ⟨#[]⟩] 36 (0, 0))) (by kernel_rfl) ⟨BS.out.1, BS.out.2⟩ (fun hHeld => ?_)
                refine wpAnyH_take (i := 0) (oi := _) (v := .pointer (some ⟨h, 0, none⟩)) rfl (by kernel_rfl) (by kernel_rfl) (by kernel_rfl) (fun _ _ _ h => h) (Or.inl ⟨by rfl, fun V hV => by go_simp⟩) hHeld ?_
                change wpAnyH _ _ _ _ _ _ _ (Act.put _ (some 93) _) _
                simp only [Act.put, List.setIfInBounds_toArray, List.set_cons_zero, List.set_cons_succ]
                refine wpAnyH_take (i := 1) (oi := _) (v := .pointer (some ⟨p6, 1, none⟩)) rfl (by kernel_rfl) (by kernel_rfl) (by kernel_rfl) (fun _ _ _ h => h) (Or.inl ⟨by rfl, fun V hV => by go_simp⟩) hHeld ?_
                change wpAnyH _ _ _ _ _ _ _ (Act.put _ (some 94) _) _
                simp only [Act.put, List.setIfInBounds_toArray, List.set_cons_zero, List.set_cons_succ]
                refine wpAnyH_take (i := 2) (oi := _) (v := .int .i64 (q : Int)) rfl (by kernel_rfl) (by kernel_rfl) (by kernel_rfl) (fun _ _ _ h => h) (Or.inl ⟨by rfl, fun V hV => by (have q1 := cell_of_row _ _ 1 _ _ _ hV.1; simp only [List.getElem?_toArray, List.getElem?_cons_zero, List.getElem?_cons_succ] at q1; clear hV; go_simp)⟩) hHeld ?_
                change wpAnyH _ _ _ _ _ _ _ (Act.put _ (some 95) _) _
                simp only [Act.put, List.setIfInBounds_toArray, List.set_cons_zero, List.set_cons_succ]
                refine wpAnyH_take (i := 3) (oi := _) (v := .agg #[.int .i64 E0, .int .i64 (y : Int), .string ⟨#[]⟩, .int .i64 0, .int .i64 (TB : Int), .int .u8 0, .int .i64 0, .string ⟨#[]⟩]) rfl (by kernel_rfl) (by kernel_rfl) (by kernel_rfl) (fun _ _ _ h => h) (Or.inl ⟨by rfl, fun V hV => by (obtain ⟨q0, q1, q2, q3, q4, q5, q6, q7⟩ := ev_cells hV.2; clear hV; go_simp)⟩) hHeld ?_
                change wpAnyH _ _ _ _ _ _ _ (Act.put _ (some 96) _) _
                simp only [Act.put, List.setIfInBounds_toArray, List.set_cons_zero, List.set_cons_succ]
                refine wpAnyH_take (i := 5) (oi := _) (v := .pointer (some ⟨hm, 0, none⟩)) rfl (by kernel_rfl) (by kernel_rfl) (by kernel_rfl) (fun _ _ _ h => h) (Or.inl ⟨by rfl, fun V hV => by go_simp⟩) hHeld ?_
                change wpAnyH _ _ _ _ _ _ _ (Act.put _ (some 98) _) _
                simp only [Act.put, List.setIfInBounds_toArray, List.set_cons_zero, List.set_cons_succ]
                refine wpAnyH_take (i := 6) (oi := _) (v := .pointer (some ⟨p6, 1, none⟩)) rfl (by kernel_rfl) (by kernel_rfl) (by kernel_rfl) (fun _ _ _ h => h) (Or.inl ⟨by rfl, fun V hV => by go_simp⟩) hHeld ?_
                change wpAnyH _ _ _ _ _ _ _ (Act.put _ (some 99) _) _
                simp only [Act.put, List.setIfInBounds_toArray, List.set_cons_zero, List.set_cons_succ]
                refine wpAnyH_take (i := 7) (oi := _) (v := .int .i64 (q : Int)) rfl (by kernel_rfl) (by kernel_rfl) (by kernel_rfl) (fun _ _ _ h => h) (Or.inl ⟨by rfl, fun V hV => by (have q1 := cell_of_row _ _ 1 _ _ _ hV.1; simp only [List.getElem?_toArray, List.getElem?_cons_zero, List.getElem?_cons_succ] at q1; clear hV; go_simp)⟩) hHeld ?_
                change wpAnyH _ _ _ _ _ _ _ (Act.put _ (some 100) _) _
                simp only [Act.put, List.setIfInBounds_toArray, List.set_cons_zero, List.set_cons_succ]
                refine wpAnyH_take (i := 8) (oi := _) (v := .agg #[.int .i64 E0, .int .i64 (y : Int), .string ⟨#[]⟩, .int .i64 0, .int .i64 (TB : Int), .int .u8 0, .int .i64 0, .string ⟨#[]⟩]) rfl (by kernel_rfl) (by kernel_rfl) (by kernel_rfl) (fun _ _ _ h => h) (Or.inl ⟨by rfl, fun V hV => by (obtain ⟨q0, q1, q2, q3, q4, q5, q6, q7⟩ := ev_cells hV.2; clear hV; go_simp)⟩) hHeld ?_
                change wpAnyH _ _ _ _ _ _ _ (Act.put _ (some 101) _) _
                simp only [Act.put, List.setIfInBounds_toArray, List.set_cons_zero, List.set_cons_succ]
                refine wpAnyH_ready (rs := [4]) (by kernel_rfl) (by simp) ?_
                refine AllReadyH.cons (o := _) rfl (fun K hK => ?_) AllReadyH.nil
                go_simp
                go_at_call 13
                refine HC.out.mono ?_
                rintro e w9 ⟨rfl, V9, q1, q2, q3⟩
                have BS9 := Lib.hid (show w9.heap[p6]? = some (.cells #[.int .u8 D, .int .i64 (q : Int), .int .i64 ID, .int .u8 X, .int .u8 TB] 32 (0, 0)) ∧ w9.heap[p7]? = some (.cells #[.int .i64 E0, .int .i64 (y : Int), .string ⟨#[]⟩, .int .i64 0, .int .i64 (TB : Int), .int .u8 0, .int .i64 0, .string ⟨#[]⟩] 36 (0, 0)) from ⟨q3.1.heap NP.out.1 BS.out.1, q3.1.heap NP.out.2.1 BS.out.2⟩)
                have R9 := Lib.hid ((Q.out.keep (Kept.refl w8 []).drew).code q1 q2 q3)
                clear q1 q2 q3
                have hc := raddto_any R9.out.sr q (by omega) (by have := FW.out q (by omega); omega) ⟨E0, y, ⟨#[]⟩, 0, TB, 0, 0, ⟨#[]⟩⟩
                simp only [Ev.cs] at hc
                have HC2 := Lib.hid hc
                clear hc
                go_wp2_with fail
                refine hK.out _ _ BS9.out (fun hHeld => ?_)
                clear hK K
                refine wpAnyH_ready (rs := [9]) (by kernel_rfl) (by simp) ?_
                refine AllReadyH.cons (o := _) rfl (fun K hK => ?_) AllReadyH.nil
                go_simp
                go_at_call 12
                refine HC2.out.mono ?_
                rintro e wA ⟨rfl, U9, q1, q3⟩
                have BSA := Lib.hid (show wA.heap[p6]? = some (.cells #[.int .u8 D, .int .i64 (q : Int), .int .i64 ID, .int .u8 X, .int .u8 TB] 32 (0, 0)) ∧ wA.heap[p7]? = some (.cells #[.int .i64 E0, .int .i64 (y : Int), .string ⟨#[]⟩, .int .i64 0, .int .i64 (TB : Int), .int .u8 0, .int .i64 0, .string ⟨#[]⟩] 36 (0, 0)) from ⟨q3.1.heap NP.out.2.2.1 BS9.out.1, q3.1.heap NP.out.2.2.2 BS9.out.2⟩)
                have R10 := Lib.hid (R9.out.doc q1 q3)
                clear q1 q3
                go_wp2_with fail
                refine hK.out _ _ BSA.out (fun hHeld => ?_)
                clear hK K
                refine wpAnyH_take (i := 10) (oi := _) (v := .bool true) rfl (by kernel_rfl) (by kernel_rfl) (by kernel_rfl) (fun _ _ _ h => h) (Or.inl ⟨by rfl, fun V hV => by go_simp⟩) hHeld ?_
                change wpAnyH _ _ _ _ _ _ _ (Act.put _ (some 103) _) _
                simp only [Act.put, List.setIfInBounds_toArray, List.set_cons_zero, List.set_cons_succ]
                refine wpAnyH_take (i := 11) (oi := _) (v := .bool true) rfl (by kernel_rfl) (by kernel_rfl) (by kernel_rfl) (fun _ _ _ h => h) (Or.inl ⟨by rfl, fun V hV => by go_simp⟩) hHeld ?_
                change wpAnyH _ _ _ _ _ _ _ (Act.put _ (some 8) _) _
                simp only [Act.put, List.setIfInBounds_toArray, List.set_cons_zero, List.set_cons_succ]
                refine wpAnyH_done (by kernel_rfl) ?_ _
                go_wp2_with fail
                go_meet
                exact ⟨rfl, V9, U9, _, _, R10.out, few_add FW.out (by omega)⟩
              · have hT : isT I = false := by simpa using hT
                have hc := addto_out h I hT ⟨E0, y, ⟨#[]⟩, 0, TB, 0, 0, ⟨#[]⟩⟩ w8.drew
                simp only [Ev.cs] at hc
                have HC := Lib.hid hc
                clear hc
                clear v0 v1 v2 v3 v4 v5 v6 v7 z0 z1 z2 z3 z4
                go_wp2_with fail
                refine wp_region_held_drew (S := fun Z => Z.heap[p6]? = some (.cells #[.int .u8 D, .int .i64 I, .int .i64 ID, .int .u8 X, .int .u8 TB] 32 (0, 0)) ∧ Z.heap[p7]? = some (.cells #[.int .i64 E0, .int .i64 (y : Int), .string ⟨#[]⟩, .int .i64 0, .int .i64 (TB : Int), .int .u8 0, .int .i64 0, .string ⟨#[]⟩] 36 (0, 0))) (by kernel_rfl) ⟨BS.out.1, BS.out.2⟩ (fun hHeld => ?_)
                refine wpAnyH_take (i := 0) (oi := _) (v := .pointer (some ⟨h, 0, none⟩)) rfl (by kernel_rfl) (by kernel_rfl) (by kernel_rfl) (fun _ _ _ h => h) (Or.inl ⟨by rfl, fun V hV => by go_simp⟩) hHeld ?_
                change wpAnyH _ _ _ _ _ _ _ (Act.put _ (some 93) _) _
                simp only [Act.put, List.setIfInBounds_toArray, List.set_cons_zero, List.set_cons_succ]
                refine wpAnyH_take (i := 1) (oi := _) (v := .pointer (some ⟨p6, 1, none⟩)) rfl (by kernel_rfl) (by kernel_rfl) (by kernel_rfl) (fun _ _ _ h => h) (Or.inl ⟨by rfl, fun V hV => by go_simp⟩) hHeld ?_
                change wpAnyH _ _ _ _ _ _ _ (Act.put _ (some 94) _) _
                simp only [Act.put, List.setIfInBounds_toArray, List.set_cons_zero, List.set_cons_succ]
                refine wpAnyH_take (i := 2) (oi := _) (v := .int .i64 I) rfl (by kernel_rfl) (by kernel_rfl) (by kernel_rfl) (fun _ _ _ h => h) (Or.inl ⟨by rfl, fun V hV => by (have q1 := cell_of_row _ _ 1 _ _ _ hV.1; simp only [List.getElem?_toArray, List.getElem?_cons_zero, List.getElem?_cons_succ] at q1; clear hV; go_simp)⟩) hHeld ?_
                change wpAnyH _ _ _ _ _ _ _ (Act.put _ (some 95) _) _
                simp only [Act.put, List.setIfInBounds_toArray, List.set_cons_zero, List.set_cons_succ]
                refine wpAnyH_take (i := 3) (oi := _) (v := .agg #[.int .i64 E0, .int .i64 (y : Int), .string ⟨#[]⟩, .int .i64 0, .int .i64 (TB : Int), .int .u8 0, .int .i64 0, .string ⟨#[]⟩]) rfl (by kernel_rfl) (by kernel_rfl) (by kernel_rfl) (fun _ _ _ h => h) (Or.inl ⟨by rfl, fun V hV => by (obtain ⟨q0, q1, q2, q3, q4, q5, q6, q7⟩ := ev_cells hV.2; clear hV; go_simp)⟩) hHeld ?_
                change wpAnyH _ _ _ _ _ _ _ (Act.put _ (some 96) _) _
                simp only [Act.put, List.setIfInBounds_toArray, List.set_cons_zero, List.set_cons_succ]
                refine wpAnyH_take (i := 5) (oi := _) (v := .pointer (some ⟨hm, 0, none⟩)) rfl (by kernel_rfl) (by kernel_rfl) (by kernel_rfl) (fun _ _ _ h => h) (Or.inl ⟨by rfl, fun V hV => by go_simp⟩) hHeld ?_
                change wpAnyH _ _ _ _ _ _ _ (Act.put _ (some 98) _) _
                simp only [Act.put, List.setIfInBounds_toArray, List.set_cons_zero, List.set_cons_succ]
                refine wpAnyH_take (i := 6) (oi := _) (v := .pointer (some ⟨p6, 1, none⟩)) rfl (by kernel_rfl) (by kernel_rfl) (by kernel_rfl) (fun _ _ _ h => h) (Or.inl ⟨by rfl, fun V hV => by go_simp⟩) hHeld ?_
                change wpAnyH _ _ _ _ _ _ _ (Act.put _ (some 99) _) _
                simp only [Act.put, List.setIfInBounds_toArray, List.set_cons_zero, List.set_cons_succ]
                refine wpAnyH_take (i := 7) (oi := _) (v := .int .i64 I) rfl (by kernel_rfl) (by kernel_rfl) (by kernel_rfl) (fun _ _ _ h => h) (Or.inl ⟨by rfl, fun V hV => by (have q1 := cell_of_row _ _ 1 _ _ _ hV.1; simp only [List.getElem?_toArray, List.getElem?_cons_zero, List.getElem?_cons_succ] at q1; clear hV; go_simp)⟩) hHeld ?_
                change wpAnyH _ _ _ _ _ _ _ (Act.put _ (some 100) _) _
                simp only [Act.put, List.setIfInBounds_toArray, List.set_cons_zero, List.set_cons_succ]
                refine wpAnyH_take (i := 8) (oi := _) (v := .agg #[.int .i64 E0, .int .i64 (y : Int), .string ⟨#[]⟩, .int .i64 0, .int .i64 (TB : Int), .int .u8 0, .int .i64 0, .string ⟨#[]⟩]) rfl (by kernel_rfl) (by kernel_rfl) (by kernel_rfl) (fun _ _ _ h => h) (Or.inl ⟨by rfl, fun V hV => by (obtain ⟨q0, q1, q2, q3, q4, q5, q6, q7⟩ := ev_cells hV.2; clear hV; go_simp)⟩) hHeld ?_
                change wpAnyH _ _ _ _ _ _ _ (Act.put _ (some 101) _) _
                simp only [Act.put, List.setIfInBounds_toArray, List.set_cons_zero, List.set_cons_succ]
                refine wpAnyH_ready (rs := [4]) (by kernel_rfl) (by simp) ?_
                refine AllReadyH.cons (o := _) rfl (fun K hK => ?_) AllReadyH.nil
                go_simp
                go_at_call 13
                refine HC.out.mono ?_
                rintro e w9 ⟨rfl, q3⟩
                have BS9 := Lib.hid (show w9.heap[p6]? = some (.cells #[.int .u8 D, .int .i64 I, .int .i64 ID, .int .u8 X, .int .u8 TB] 32 (0, 0)) ∧ w9.heap[p7]? = some (.cells #[.int .i64 E0, .int .i64 (y : Int), .string ⟨#[]⟩, .int .i64 0, .int .i64 (TB : Int), .int .u8 0, .int .i64 0, .string ⟨#[]⟩] 36 (0, 0)) from ⟨q3.heap (by simp) BS.out.1, q3.heap (by simp) BS.out.2⟩)
                have R9 := Lib.hid ((Q.out.keep (Kept.refl w8 []).drew).keep q3)
                clear q3
                have hc := raddto_out hm I hT ⟨E0, y, ⟨#[]⟩, 0, TB, 0, 0, ⟨#[]⟩⟩ w9
                simp only [Ev.cs] at hc
                have HC2 := Lib.hid hc
                clear hc
                go_wp2_with fail
                refine hK.out _ _ BS9.out (fun hHeld => ?_)
                clear hK K
                refine wpAnyH_ready (rs := [9]) (by kernel_rfl) (by simp) ?_
                refine AllReadyH.cons (o := _) rfl (fun K hK => ?_) AllReadyH.nil
                go_simp
                go_at_call 12
                refine HC2.out.mono ?_
                rintro e wA ⟨rfl, q3⟩
                have BSA := Lib.hid (show wA.heap[p6]? = some (.cells #[.int .u8 D, .int .i64 I, .int .i64 ID, .int .u8 X, .int .u8 TB] 32 (0, 0)) ∧ wA.heap[p7]? = some (.cells #[.int .i64 E0, .int .i64 (y : Int), .string ⟨#[]⟩, .int .i64 0, .int .i64 (TB : Int), .int .u8 0, .int .i64 0, .string ⟨#[]⟩] 36 (0, 0)) from ⟨q3.heap (by simp) BS9.out.1, q3.heap (by simp) BS9.out.2⟩)
                have R10 := Lib.hid (R9.out.keep q3)
                clear q3
                go_wp2_with fail
                refine hK.out _ _ BSA.out (fun hHeld => ?_)
                clear hK K
                refine wpAnyH_take (i := 10) (oi := _) (v := .bool true) rfl (by kernel_rfl) (by kernel_rfl) (by kernel_rfl) (fun _ _ _ h => h) (Or.inl ⟨by rfl, fun V hV => by go_simp⟩) hHeld ?_
                change wpAnyH _ _ _ _ _ _ _ (Act.put _ (some 103) _) _
                simp only [Act.put, List.setIfInBounds_toArray, List.set_cons_zero, List.set_cons_succ]
                refine wpAnyH_take (i := 11) (oi := _) (v := .bool true) rfl (by kernel_rfl) (by kernel_rfl) (by kernel_rfl) (fun _ _ _ h => h) (Or.inl ⟨by rfl, fun V hV => by go_simp⟩) hHeld ?_
                change wpAnyH _ _ _ _ _ _ _ (Act.put _ (some 8) _) _
                simp only [Act.put, List.setIfInBounds_toArray, List.set_cons_zero, List.set_cons_succ]
                refine wpAnyH_done (by kernel_rfl) ?_ _
                go_wp2_with fail
                go_meet
                exact ⟨rfl, V, U, _, _, R10.out, few_more FW.out⟩
          · as_aux_lemma =>
              obtain ⟨J, hJ⟩ : ∃ J, I.tmod 4 = J := ⟨_, rfl⟩
              have hJb : -4 < J ∧ J < 4 := by
                have h1 := Int.tmod_lt_of_pos I (show (0 : Int) < 4 by omega)
                have h2 := Int.lt_tmod_of_pos I (show (0 : Int) < 4 by omega)
                omega
              have mJ : IntKind.i64.wrap J = J := by rw [IntKind.wrap_i64]; omega
              by_cases hT : isT J = true
              · obtain ⟨q, hq⟩ : ∃ q : Nat, J = (q : Int) := ⟨J.toNat, by have := of_decide_eq_true hT; omega⟩
                subst hq
                have hq3 : q < 3 := by have := of_decide_eq_true hT; omega
                clear hT
                have hc := addto_any (Q.out.keep (Kept.refl w8 []).drew).sp Q.out.ds q hq3 (by have := FW.out q hq3; omega) ⟨E0, y, ⟨#[]⟩, 0, TB, 0, 0, ⟨#[]⟩⟩
                simp only [Ev.cs] at hc
                have HC := Lib.hid hc
                clear hc
                clear v0 v1 v2 v3 v4 v5 v6 v7 z0 z1 z2 z3 z4
                go_wp2_with fail
                refine wp_region_held_drew (S := fun Z => Z.heap[p6]? = some (.cells #[.int .u8 D, .int .i64 I, .int .i64 ID, .int .u8 X, .int .u8 TB] 32 (0, 0)) ∧ Z.heap[p7]? = some (.cells #[.int .i64 E0, .int .i64 (y : Int), .string ⟨#[]⟩, .int .i64 0, .int .i64 (TB : Int), .int .u8 0, .int .i64 0, .string ⟨#[]⟩] 36 (0, 0))) (by kernel_rfl) ⟨BS.out.1, BS.out.2⟩ (fun hHeld => ?_)
                refine wpAnyH_take (i := 0) (oi := _) (v := .pointer (some ⟨h, 0, none⟩)) rfl (by kernel_rfl) (by kernel_rfl) (by kernel_rfl) (fun _ _ _ h => h) (Or.inl ⟨by rfl, fun V hV => by go_simp⟩) hHeld ?_
                change wpAnyH _ _ _ _ _ _ _ (Act.put _ (some 106) _) _
                simp only [Act.put, List.setIfInBounds_toArray, List.set_cons_zero, List.set_cons_succ]
                refine wpAnyH_take (i := 1) (oi := _) (v := .pointer (some ⟨p6, 1, none⟩)) rfl (by kernel_rfl) (by kernel_rfl) (by kernel_rfl) (fun _ _ _ h => h) (Or.inl ⟨by rfl, fun V hV => by go_simp⟩) hHeld ?_
                change wpAnyH _ _ _ _ _ _ _ (Act.put _ (some 107) _) _
                simp only [Act.put, List.setIfInBounds_toArray, List.set_cons_zero, List.set_cons_succ]
                refine wpAnyH_take (i := 2) (oi := _) (v := .int .i64 I) rfl (by kernel_rfl) (by kernel_rfl) (by kernel_rfl) (fun _ _ _ h => h) (Or.inl ⟨by rfl, fun V hV => by (have q1 := cell_of_row _ _ 1 _ _ _ hV.1; simp only [List.getElem?_toArray, List.getElem?_cons_zero, List.getElem?_cons_succ] at q1; clear hV; go_simp)⟩) hHeld ?_
                change wpAnyH _ _ _ _ _ _ _ (Act.put _ (some 108) _) _
                simp only [Act.put, List.setIfInBounds_toArray, List.set_cons_zero, List.set_cons_succ]
                refine wpAnyH_take (i := 3) (oi := _) (v := .int .i64 (q : Int)) rfl (by kernel_rfl) (by kernel_rfl) (by kernel_rfl) (fun _ _ _ h => h) (Or.inl ⟨by rfl, fun V hV => by go_simp⟩) hHeld ?_
                change wpAnyH _ _ _ _ _ _ _ (Act.put _ (some 109) _) _
                simp only [Act.put, List.setIfInBounds_toArray, List.set_cons_zero, List.set_cons_succ]
                refine wpAnyH_take (i := 4) (oi := _) (v := .agg #[.int .i64 E0, .int .i64 (y : Int), .string ⟨#[]⟩, .int .i64 0, .int .i64 (TB : Int), .int .u8 0, .int .i64 0, .string ⟨#[]⟩]) rfl (by kernel_rfl) (by kernel_rfl) (by kernel_rfl) (fun _ _ _ h => h) (Or.inl ⟨by rfl, fun V hV => by (obtain ⟨q0, q1, q2, q3, q4, q5, q6, q7⟩ := ev_cells hV.2; clear hV; go_simp)⟩) hHeld ?_
                change wpAnyH _ _ _ _ _ _ _ (Act.put _ (some 110) _) _
                simp only [Act.put, List.setIfInBounds_toArray, List.set_cons_zero, List.set_cons_succ]
                refine wpAnyH_take (i := 6) (oi := _) (v := .pointer (some ⟨hm, 0, none⟩)) rfl (by kernel_rfl) (by kernel_rfl) (by kernel_rfl) (fun _ _ _ h => h) (Or.inl ⟨by rfl, fun V hV => by go_simp⟩) hHeld ?_
                change wpAnyH _ _ _ _ _ _ _ (Act.put _ (some 112) _) _
                simp only [Act.put, List.setIfInBounds_toArray, List.set_cons_zero, List.set_cons_succ]
                refine wpAnyH_take (i := 7) (oi := _) (v := .pointer (some ⟨p6, 1, none⟩)) rfl (by kernel_rfl) (by kernel_rfl) (by kernel_rfl) (fun _ _ _ h => h) (Or.inl ⟨by rfl, fun V hV => by go_simp⟩) hHeld ?_
                change wpAnyH _ _ _ _ _ _ _ (Act.put _ (some 113) _) _
                simp only [Act.put, List.setIfInBounds_toArray, List.set_cons_zero, List.set_cons_succ]
                refine wpAnyH_take (i := 8) (oi := _) (v := .int .i64 I) rfl (by kernel_rfl) (by kernel_rfl) (by kernel_rfl) (fun _ _ _ h => h) (Or.inl ⟨by rfl, fun V hV => by (have q1 := cell_of_row _ _ 1 _ _ _ hV.1; simp only [List.getElem?_toArray, List.getElem?_cons_zero, List.getElem?_cons_succ] at q1; clear hV; go_simp)⟩) hHeld ?_
                change wpAnyH _ _ _ _ _ _ _ (Act.put _ (some 114) _) _
                simp only [Act.put, List.setIfInBounds_toArray, List.set_cons_zero, List.set_cons_succ]
                refine wpAnyH_take (i := 9) (oi := _) (v := .int .i64 (q : Int)) rfl (by kernel_rfl) (by kernel_rfl) (by kernel_rfl) (fun _ _ _ h => h) (Or.inl ⟨by rfl, fun V hV => by go_simp⟩) hHeld ?_
                change wpAnyH _ _ _ _ _ _ _ (Act.put _ (some 115) _) _
                simp only [Act.put, List.setIfInBounds_toArray, List.set_cons_zero, List.set_cons_succ]
                refine wpAnyH_take (i := 10) (oi := _) (v := .agg #[.int .i64 E0, .int .i64 (y : Int), .string ⟨#[]⟩, .int .i64 0, .int .i64 (TB : Int), .int .u8 0, .int .i64 0, .string ⟨#[]⟩]) rfl (by kernel_rfl) (by kernel_rfl) (by kernel_rfl) (fun _ _ _ h => h) (Or.inl ⟨by rfl, fun V hV => by (obtain ⟨q0, q1, q2, q3, q4, q5, q6, q7⟩ := ev_cells hV.2; clear hV; go_simp)⟩) hHeld ?_
                change wpAnyH _ _ _ _ _ _ _ (Act.put _ (some 116) _) _
                simp only [Act.put, List.setIfInBounds_toArray, List.set_cons_zero, List.set_cons_succ]
                refine wpAnyH_ready (rs := [5]) (by kernel_rfl) (by simp) ?_
                refine AllReadyH.cons (o := _) rfl (fun K hK => ?_) AllReadyH.nil
                go_simp
                go_at_call 13
                refine HC.out.mono ?_
                rintro e w9 ⟨rfl, V9, q1, q2, q3⟩
                have BS9 := Lib.hid (show w9.heap[p6]? = some (.cells #[.int .u8 D, .int .i64 I, .int .i64 ID, .int .u8 X, .int .u8 TB] 32 (0, 0)) ∧ w9.heap[p7]? = some (.cells #[.int .i64 E0, .int .i64 (y : Int), .string ⟨#[]⟩, .int .i64 0, .int .i64 (TB : Int), .int .u8 0, .int .i64 0, .string ⟨#[]⟩] 36 (0, 0)) from ⟨q3.1.heap NP.out.1 BS.out.1, q3.1.heap NP.out.2.1 BS.out.2⟩)
                have R9 := Lib.hid ((Q.out.keep (Kept.refl w8 []).drew).code q1 q2 q3)
                clear q1 q2 q3
                have hc := raddto_any R9.out.sr q (by omega) (by have := FW.out q (by omega); omega) ⟨E0, y, ⟨#[]⟩, 0, TB, 0, 0, ⟨#[]⟩⟩
                simp only [Ev.cs] at hc
                have HC2 := Lib.hid hc
                clear hc
                go_wp2_with fail
                refine hK.out _ _ BS9.out (fun hHeld => ?_)
                clear hK K
                refine wpAnyH_ready (rs := [11]) (by kernel_rfl) (by simp) ?_
                refine AllReadyH.cons (o := _) rfl (fun K hK => ?_) AllReadyH.nil
                go_simp
                go_at_call 12
                refine HC2.out.mono ?_
                rintro e wA ⟨rfl, U9, q1, q3⟩
                have BSA := Lib.hid (show wA.heap[p6]? = some (.cells #[.int .u8 D, .int .i64 I, .int .i64 ID, .int .u8 X, .int .u8 TB] 32 (0, 0)) ∧ wA.heap[p7]? = some (.cells #[.int .i64 E0, .int .i64 (y : Int), .string ⟨#[]⟩, .int .i64 0, .int .i64 (TB : Int), .int .u8 0, .int .i64 0, .string ⟨#[]⟩] 36 (0, 0)) from ⟨q3.1.heap NP.out.2.2.1 BS9.out.1, q3.1.heap NP.out.2.2.2 BS9.out.2⟩)
                have R10 := Lib.hid (R9.out.doc q1 q3)
                clear q1 q3
                go_wp2_with fail
                refine hK.out _ _ BSA.out (fun hHeld => ?_)
                clear hK K
                refine wpAnyH_take (i := 12) (oi := _) (v := .bool true) rfl (by kernel_rfl) (by kernel_rfl) (by kernel_rfl) (fun _ _ _ h => h) (Or.inl ⟨by rfl, fun V hV => by go_simp⟩) hHeld ?_
                change wpAnyH _ _ _ _ _ _ _ (Act.put _ (some 118) _) _
                simp only [Act.put, List.setIfInBounds_toArray, List.set_cons_zero, List.set_cons_succ]
                refine wpAnyH_take (i := 13) (oi := _) (v := .bool true) rfl (by kernel_rfl) (by kernel_rfl) (by kernel_rfl) (fun _ _ _ h => h) (Or.inl ⟨by rfl, fun V hV => by go_simp⟩) hHeld ?_
                change wpAnyH _ _ _ _ _ _ _ (Act.put _ (some 8) _) _
                simp only [Act.put, List.setIfInBounds_toArray, List.set_cons_zero, List.set_cons_succ]
                refine wpAnyH_done (by kernel_rfl) ?_ _
                go_wp2_with fail
                go_meet
                exact ⟨rfl, V9, U9, _, _, R10.out, few_add FW.out (by omega)⟩
              · have hT : isT J = false := by simpa using hT
                have hc := addto_out h J hT ⟨E0, y, ⟨#[]⟩, 0, TB, 0, 0, ⟨#[]⟩⟩ w8.drew
                simp only [Ev.cs] at hc
                have HC := Lib.hid hc
                clear hc
                clear v0 v1 v2 v3 v4 v5 v6 v7 z0 z1 z2 z3 z4
                go_wp2_with fail
                refine wp_region_held_drew (S := fun Z => Z.heap[p6]? = some (.cells #[.int .u8 D, .int .i64 I, .int .i64 ID, .int .u8 X, .int .u8 TB] 32 (0, 0)) ∧ Z.heap[p7]? = some (.cells #[.int .i64 E0, .int .i64 (y : Int), .string ⟨#[]⟩, .int .i64 0, .int .i64 (TB : Int), .int .u8 0, .int .i64 0, .string ⟨#[]⟩] 36 (0, 0))) (by kernel_rfl) ⟨BS.out.1, BS.out.2⟩ (fun hHeld => ?_)
                refine wpAnyH_take (i := 0) (oi := _) (v := .pointer (some ⟨h, 0, none⟩)) rfl (by kernel_rfl) (by kernel_rfl) (by kernel_rfl) (fun _ _ _ h => h) (Or.inl ⟨by rfl, fun V hV => by go_simp⟩) hHeld ?_
                change wpAnyH _ _ _ _ _ _ _ (Act.put _ (some 106) _) _
                simp only [Act.put, List.setIfInBounds_toArray, List.set_cons_zero, List.set_cons_succ]
                refine wpAnyH_take (i := 1) (oi := _) (v := .pointer (some ⟨p6, 1, none⟩)) rfl (by kernel_rfl) (by kernel_rfl) (by kernel_rfl) (fun _ _ _ h => h) (Or.inl ⟨by rfl, fun V hV => by go_simp⟩) hHeld ?_
                change wpAnyH _ _ _ _ _ _ _ (Act.put _ (some 107) _) _
                simp only [Act.put, List.setIfInBounds_toArray, List.set_cons_zero, List.set_cons_succ]
                refine wpAnyH_take (i := 2) (oi := _) (v := .int .i64 I) rfl (by kernel_rfl) (by kernel_rfl) (by kernel_rfl) (fun _ _ _ h => h) (Or.inl ⟨by rfl, fun V hV => by (have q1 := cell_of_row _ _ 1 _ _ _ hV.1; simp only [List.getElem?_toArray, List.getElem?_cons_zero, List.getElem?_cons_succ] at q1; clear hV; go_simp)⟩) hHeld ?_
                change wpAnyH _ _ _ _ _ _ _ (Act.put _ (some 108) _) _
                simp only [Act.put, List.setIfInBounds_toArray, List.set_cons_zero, List.set_cons_succ]
                refine wpAnyH_take (i := 3) (oi := _) (v := .int .i64 J) rfl (by kernel_rfl) (by kernel_rfl) (by kernel_rfl) (fun _ _ _ h => h) (Or.inl ⟨by rfl, fun V hV => by go_simp⟩) hHeld ?_
                change wpAnyH _ _ _ _ _ _ _ (Act.put _ (some 109) _) _
                simp only [Act.put, List.setIfInBounds_toArray, List.set_cons_zero, List.set_cons_succ]
                refine wpAnyH_take (i := 4) (oi := _) (v := .agg #[.int .i64 E0, .int .i64 (y : Int), .string ⟨#[]⟩, .int .i64 0, .int .i64 (TB : Int), .int .u8 0, .int .i64 0, .string ⟨#[]⟩]) rfl (by kernel_rfl) (by kernel_rfl) (by kernel_rfl) (fun _ _ _ h => h) (Or.inl ⟨by rfl, fun V hV => by (obtain ⟨q0, q1, q2, q3, q4, q5, q6, q7⟩ := ev_cells hV.2; clear hV; go_simp)⟩) hHeld ?_
                change wpAnyH _ _ _ _ _ _ _ (Act.put _ (some 110) _) _
                simp only [Act.put, List.setIfInBounds_toArray, List.set_cons_zero, List.set_cons_succ]
                refine wpAnyH_take (i := 6) (oi := _) (v := .pointer (some ⟨hm, 0, none⟩)) rfl (by kernel_rfl) (by kernel_rfl) (by kernel_rfl) (fun _ _ _ h => h) (Or.inl ⟨by rfl, fun V hV => by go_simp⟩) hHeld ?_
                change wpAnyH _ _ _ _ _ _ _ (Act.put _ (some 112) _) _
                simp only [Act.put, List.setIfInBounds_toArray, List.set_cons_zero, List.set_cons_succ]
                refine wpAnyH_take (i := 7) (oi := _) (v := .pointer (some ⟨p6, 1, none⟩)) rfl (by kernel_rfl) (by kernel_rfl) (by kernel_rfl) (fun _ _ _ h => h) (Or.inl ⟨by rfl, fun V hV => by go_simp⟩) hHeld ?_
                change wpAnyH _ _ _ _ _ _ _ (Act.put _ (some 113) _) _
                simp only [Act.put, List.setIfInBounds_toArray, List.set_cons_zero, List.set_cons_succ]
                refine wpAnyH_take (i := 8) (oi := _) (v := .int .i64 I) rfl (by kernel_rfl) (by kernel_rfl) (by kernel_rfl) (fun _ _ _ h => h) (Or.inl ⟨by rfl, fun V hV => by (have q1 := cell_of_row _ _ 1 _ _ _ hV.1; simp only [List.getElem?_toArray, List.getElem?_cons_zero, List.getElem?_cons_succ] at q1; clear hV; go_simp)⟩) hHeld ?_
                change wpAnyH _ _ _ _ _ _ _ (Act.put _ (some 114) _) _
                simp only [Act.put, List.setIfInBounds_toArray, List.set_cons_zero, List.set_cons_succ]
                refine wpAnyH_take (i := 9) (oi := _) (v := .int .i64 J) rfl (by kernel_rfl) (by kernel_rfl) (by kernel_rfl) (fun _ _ _ h => h) (Or.inl ⟨by rfl, fun V hV => by go_simp⟩) hHeld ?_
                change wpAnyH _ _ _ _ _ _ _ (Act.put _ (some 115) _) _
                simp only [Act.put, List.setIfInBounds_toArray, List.set_cons_zero, List.set_cons_succ]
                refine wpAnyH_take (i := 10) (oi := _) (v := .agg #[.int .i64 E0, .int .i64 (y : Int), .string ⟨#[]⟩, .int .i64 0, .int .i64 (TB : Int), .int .u8 0, .int .i64 0, .string ⟨#[]⟩]) rfl (by kernel_rfl) (by kernel_rfl) (by kernel_rfl) (fun _ _ _ h => h) (Or.inl ⟨by rfl, fun V hV => by (obtain ⟨q0, q1, q2, q3, q4, q5, q6, q7⟩ := ev_cells hV.2; clear hV; go_simp)⟩) hHeld ?_
                change wpAnyH _ _ _ _ _ _ _ (Act.put _ (some 116) _) _
                simp only [Act.put, List.setIfInBounds_toArray, List.set_cons_zero, List.set_cons_succ]
                refine wpAnyH_ready (rs := [5]) (by kernel_rfl) (by simp) ?_
                refine AllReadyH.cons (o := _) rfl (fun K hK => ?_) AllReadyH.nil
                go_simp
                go_at_call 13
                refine HC.out.mono ?_
                rintro e w9 ⟨rfl, q3⟩
                have BS9 := Lib.hid (show w9.heap[p6]? = some (.cells #[.int .u8 D, .int .i64 I, .int .i64 ID, .int .u8 X, .int .u8 TB] 32 (0, 0)) ∧ w9.heap[p7]? = some (.cells #[.int .i64 E0, .int .i64 (y : Int), .string ⟨#[]⟩, .int .i64 0, .int .i64 (TB : Int), .int .u8 0, .int .i64 0, .string ⟨#[]⟩] 36 (0, 0)) from ⟨q3.heap (by simp) BS.out.1, q3.heap (by simp) BS.out.2⟩)
                have R9 := Lib.hid ((Q.out.keep (Kept.refl w8 []).drew).keep q3)
                clear q3
                have hc := raddto_out hm J hT ⟨E0, y, ⟨#[]⟩, 0, TB, 0, 0, ⟨#[]⟩⟩ w9
                simp only [Ev.cs] at hc
                have HC2 := Lib.hid hc
                clear hc
                go_wp2_with fail
                refine hK.out _ _ BS9.out (fun hHeld => ?_)
                clear hK K
                refine wpAnyH_ready (rs := [11]) (by kernel_rfl) (by simp) ?_
                refine AllReadyH.cons (o := _) rfl (fun K hK => ?_) AllReadyH.nil
                go_simp
                go_at_call 12
                refine HC2.out.mono ?_
                rintro e wA ⟨rfl, q3⟩
                have BSA := Lib.hid (show wA.heap[p6]? = some (.cells #[.int .u8 D, .int .i64 I, .int .i64 ID, .int .u8 X, .int .u8 TB] 32 (0, 0)) ∧ wA.heap[p7]? = some (.cells #[.int .i64 E0, .int .i64 (y : Int), .string ⟨#[]⟩, .int .i64 0, .int .i64 (TB : Int), .int .u8 0, .int .i64 0, .string ⟨#[]⟩] 36 (0, 0)) from ⟨q3.heap (by simp) BS9.out.1, q3.heap (by simp) BS9.out.2⟩)
                have R10 := Lib.hid (R9.out.keep q3)
                clear q3
                go_wp2_with fail
                refine hK.out _ _ BSA.out (fun hHeld => ?_)
                clear hK K
                refine wpAnyH_take (i := 12) (oi := _) (v := .bool true) rfl (by kernel_rfl) (by kernel_rfl) (by kernel_rfl) (fun _ _ _ h => h) (Or.inl ⟨by rfl, fun V hV => by go_simp⟩) hHeld ?_
                change wpAnyH _ _ _ _ _ _ _ (Act.put _ (some 118) _) _
                simp only [Act.put, List.setIfInBounds_toArray, List.set_cons_zero, List.set_cons_succ]
                refine wpAnyH_take (i := 13) (oi := _) (v := .bool true) rfl (by kernel_rfl) (by kernel_rfl) (by kernel_rfl) (fun _ _ _ h => h) (Or.inl ⟨by rfl, fun V hV => by go_simp⟩) hHeld ?_
                change wpAnyH _ _ _ _ _ _ _ (Act.put _ (some 8) _) _
                simp only [Act.put, List.setIfInBounds_toArray, List.set_cons_zero, List.set_cons_succ]
                refine wpAnyH_done (by kernel_rfl) ?_ _
                go_wp2_with fail
                go_meet
                exact ⟨rfl, V, U, _, _, R10.out, few_more FW.out⟩
          · as_aux_lemma =>
              obtain ⟨NC, hNC⟩ : ∃ NC, lenN l - lenN (forL (y : Int) l) = NC := ⟨_, rfl⟩
              have HNC := Lib.hid hNC
              have hc := forget_any (Q.out.keep (Kept.refl w8 []).drew).sp Q.out.ds (fun j hj => by have := FW.out j hj; omega) (y : Int)
              rw [hNC] at hc
              have HC := Lib.hid hc
              clear hc hNC
              clear v0 v1 v2 v3 v4 v5 v6 v7 z0 z1 z2 z3 z4
              go_wp2_with fail
              refine wp_region_held_drew (S := fun Z => Z.heap[p6]? = some (.cells #[.int .u8 D, .int .i64 I, .int .i64 ID, .int .u8 X, .int .u8 TB] 32 (0, 0)) ∧ Z.heap[p7]? = some (.cells #[.int .i64 E0, .int .i64 (y : Int), .string ⟨#[]⟩, .int .i64 0, .int .i64 (TB : Int), .int .u8 0, .int .i64 0, .string ⟨#[]⟩] 36 (0, 0))) (by kernel_rfl) ⟨BS.out.1, BS.out.2⟩ (fun hHeld => ?_)
              refine wpAnyH_take (i := 0) (oi := _) (v := .pointer (some ⟨h, 0, none⟩)) rfl (by kernel_rfl) (by kernel_rfl) (by kernel_rfl) (fun _ _ _ h => h) (Or.inl ⟨by rfl, fun V hV => by go_simp⟩) hHeld ?_
              change wpAnyH _ _ _ _ _ _ _ (Act.put _ (some 121) _) _
              simp only [Act.put, List.setIfInBounds_toArray, List.set_cons_zero, List.set_cons_succ]
              refine wpAnyH_take (i := 1) (oi := _) (v := .pointer (some ⟨p6, 3, none⟩)) rfl (by kernel_rfl) (by kernel_rfl) (by kernel_rfl) (fun _ _ _ h => h) (Or.inl ⟨by rfl, fun V hV => by go_simp⟩) hHeld ?_
              change wpAnyH _ _ _ _ _ _ _ (Act.put _ (some 122) _) _
              simp only [Act.put, List.setIfInBounds_toArray, List.set_cons_zero, List.set_cons_succ]
              refine wpAnyH_take (i := 2) (oi := _) (v := .int .u8 X) rfl (by kernel_rfl) (by kernel_rfl) (by kernel_rfl) (fun _ _ _ h => h) (Or.inl ⟨by rfl, fun V hV => by (have q1 := cell_of_row _ _ 3 _ _ _ hV.1; simp only [List.getElem?_toArray, List.getElem?_cons_zero, List.getElem?_cons_succ] at q1; clear hV; go_simp)⟩) hHeld ?_
              change wpAnyH _ _ _ _ _ _ _ (Act.put _ (some 123) _) _
              simp only [Act.put, List.setIfInBounds_toArray, List.set_cons_zero, List.set_cons_succ]
              refine wpAnyH_take (i := 3) (oi := _) (v := .int .u8 y) rfl (by kernel_rfl) (by kernel_rfl) (by kernel_rfl) (fun _ _ _ h => h) (Or.inl ⟨by rfl, fun V hV => by go_simp⟩) hHeld ?_
              change wpAnyH _ _ _ _ _ _ _ (Act.put _ (some 124) _) _
              simp only [Act.put, List.setIfInBounds_toArray, List.set_cons_zero, List.set_cons_succ]
              refine wpAnyH_take (i := 4) (oi := _) (v := .int .i64 y) rfl (by kernel_rfl) (by kernel_rfl) (by kernel_rfl) (fun _ _ _ h => h) (Or.inl ⟨by rfl, fun V hV => by go_simp⟩) hHeld ?_
              change wpAnyH _ _ _ _ _ _ _ (Act.put _ (some 125) _) _
              simp only [Act.put, List.setIfInBounds_toArray, List.set_cons_zero, List.set_cons_succ]
              refine wpAnyH_take (i := 6) (oi := _) (v := .pointer (some ⟨hm, 0, none⟩)) rfl (by kernel_rfl) (by kernel_rfl) (by kernel_rfl) (fun _ _ _ h => h) (Or.inl ⟨by rfl, fun V hV => by go_simp⟩) hHeld ?_
              change wpAnyH _ _ _ _ _ _ _ (Act.put _ (some 127) _) _
              simp only [Act.put, List.setIfInBounds_toArray, List.set_cons_zero, List.set_cons_succ]
              refine wpAnyH_take (i := 7) (oi := _) (v := .pointer (some ⟨p6, 3, none⟩)) rfl (by kernel_rfl) (by kernel_rfl) (by kernel_rfl) (fun _ _ _ h => h) (Or.inl ⟨by rfl, fun V hV => by go_simp⟩) hHeld ?_
              change wpAnyH _ _ _ _ _ _ _ (Act.put _ (some 128) _) _
              simp only [Act.put, List.setIfInBounds_toArray, List.set_cons_zero, List.set_cons_succ]
              refine wpAnyH_take (i := 8) (oi := _) (v := .int .u8 X) rfl (by kernel_rfl) (by kernel_rfl) (by kernel_rfl) (fun _ _ _ h => h) (Or.inl ⟨by rfl, fun V hV => by (have q1 := cell_of_row _ _ 3 _ _ _ hV.1; simp only [List.getElem?_toArray, List.getElem?_cons_zero, List.getElem?_cons_succ] at q1; clear hV; go_simp)⟩) hHeld ?_
              change wpAnyH _ _ _ _ _ _ _ (Act.put _ (some 129) _) _
              simp only [Act.put, List.setIfInBounds_toArray, List.set_cons_zero, List.set_cons_succ]
              refine wpAnyH_take (i := 9) (oi := _) (v := .int .u8 y) rfl (by kernel_rfl) (by kernel_rfl) (by kernel_rfl) (fun _ _ _ h => h) (Or.inl ⟨by rfl, fun V hV => by go_simp⟩) hHeld ?_
              change wpAnyH _ _ _ _ _ _ _ (Act.put _ (some 130) _) _
              simp only [Act.put, List.setIfInBounds_toArray, List.set_cons_zero, List.set_cons_succ]
              refine wpAnyH_take (i := 10) (oi := _) (v := .int .i64 y) rfl (by kernel_rfl) (by kernel_rfl) (by kernel_rfl) (fun _ _ _ h => h) (Or.inl ⟨by rfl, fun V hV => by go_simp⟩) hHeld ?_
              change wpAnyH _ _ _ _ _ _ _ (Act.put _ (some 131) _) _
              simp only [Act.put, List.setIfInBounds_toArray, List.set_cons_zero, List.set_cons_succ]
              refine wpAnyH_ready (rs := [5]) (by kernel_rfl) (by simp) ?_
              refine AllReadyH.cons (o := _) rfl (fun K hK => ?_) AllReadyH.nil
              go_simp
              go_at_call 14
              refine HC.out.mono ?_
              rintro e w9 ⟨rfl, V9, q1, q2, q3⟩
              have BS9 := Lib.hid (show w9.heap[p6]? = some (.cells #[.int .u8 D, .int .i64 I, .int .i64 ID, .int .u8 X, .int .u8 TB] 32 (0, 0)) ∧ w9.heap[p7]? = some (.cells #[.int .i64 E0, .int .i64 (y : Int), .string ⟨#[]⟩, .int .i64 0, .int .i64 (TB : Int), .int .u8 0, .int .i64 0, .string ⟨#[]⟩] 36 (0, 0)) from ⟨q3.1.heap NP.out.1 BS.out.1, q3.1.heap NP.out.2.1 BS.out.2⟩)
              have R9 := Lib.hid ((Q.out.keep (Kept.refl w8 []).drew).code q1 q2 q3)
              clear q1 q2 q3
              have hc := rforget_any R9.out.sr (fun j hj => by have := FW.out j hj; omega) (y : Int)
              rw [HNC.out] at hc
              have HC2 := Lib.hid hc
              clear hc
              go_wp2_with fail
              refine hK.out _ _ BS9.out (fun hHeld => ?_)
              clear hK K
              refine wpAnyH_ready (rs := [11]) (by kernel_rfl) (by simp) ?_
              refine AllReadyH.cons (o := _) rfl (fun K hK => ?_) AllReadyH.nil
              go_simp
              go_at_call 15
              refine HC2.out.mono ?_
              rintro e wA ⟨rfl, U9, q1, q3⟩
              have BSA := Lib.hid (show wA.heap[p6]? = some (.cells #[.int .u8 D, .int .i64 I, .int .i64 ID, .int .u8 X, .int .u8 TB] 32 (0, 0)) ∧ wA.heap[p7]? = some (.cells #[.int .i64 E0, .int .i64 (y : Int), .string ⟨#[]⟩, .int .i64 0, .int .i64 (TB : Int), .int .u8 0, .int .i64 0, .string ⟨#[]⟩] 36 (0, 0)) from ⟨q3.1.heap NP.out.2.2.1 BS9.out.1, q3.1.heap NP.out.2.2.2 BS9.out.2⟩)
              have R10 := Lib.hid (R9.out.doc q1 q3)
              clear q1 q3
              go_wp2_with fail
              refine hK.out _ _ BSA.out (fun hHeld => ?_)
              clear hK K
              refine wpAnyH_take (i := 12) (oi := _) (v := .bool true) rfl (by kernel_rfl) (by kernel_rfl) (by kernel_rfl) (fun _ _ _ h => h) (Or.inl ⟨by rfl, fun V hV => by go_simp⟩) hHeld ?_
              change wpAnyH _ _ _ _ _ _ _ (Act.put _ (some 133) _) _
              simp only [Act.put, List.setIfInBounds_toArray, List.set_cons_zero, List.set_cons_succ]
              refine wpAnyH_take (i := 13) (oi := _) (v := .bool true) rfl (by kernel_rfl) (by kernel_rfl) (by kernel_rfl) (fun _ _ _ h => h) (Or.inl ⟨by rfl, fun V hV => by go_simp⟩) hHeld ?_
              change wpAnyH _ _ _ _ _ _ _ (Act.put _ (some 8) _) _
              simp only [Act.put, List.setIfInBounds_toArray, List.set_cons_zero, List.set_cons_succ]
              refine wpAnyH_done (by kernel_rfl) ?_ _
              go_wp2_with fail
              go_meet
              exact ⟨rfl, V9, U9, _, _, R10.out, few_for _ FW.out⟩
          · as_aux_lemma =>
              obtain ⟨fr, hfr⟩ : ∃ fr, (I.tmod 2 == 0) = fr := ⟨_, rfl⟩
              have FR := Lib.hid (few_rot (c := c) (free := fr) FW.out)
              have hc := srotate_any Q.out.sp Q.out.ds fr
              have HR2 := Lib.hid (fun w9 V9 (r : Bo2 W w9 B h hm V9 U (rotS l c fr).2.2.1 (rotS l c fr).2.2.2 l c) => rrotate_any r.sr fr)
              obtain ⟨RR, hRR⟩ : ∃ RR, rotS l c fr = RR := ⟨_, rfl⟩
              rw [hRR] at hc HR2 FR
              clear hRR
              obtain ⟨ra, re, rl, rc⟩ := RR
              simp only at hc HR2 FR
              have HC := Lib.hid hc
              clear hc v0 v1 v2 v3 v4 v5 v6 v7 z0 z2 z3 z4
              go_wp2_with fail
              refine HC.out.mono ?_
              rintro e w9 ⟨rfl, V9, q1, q2, q3⟩
              have z1 := cell_of_row _ _ 1 _ _ _ (q3.1.heap NP.out.1 BS.out.1)
              simp only [List.getElem?_toArray, List.getElem?_cons_zero, List.getElem?_cons_succ] at z1
              have R9 := Lib.hid (Q.out.code q1 q2 q3)
              have HC2 := Lib.hid (HR2.out w9 V9 R9.out)
              clear q1 q2 q3 HC
              go_wp2_with fail
              refine HC2.out.mono ?_
              rintro e wA ⟨rfl, U9, q1, q3⟩
              have R10 := Lib.hid (R9.out.doc q1 q3)
              clear q1 q3
              go_wp2_with fail
              go_meet
              exact ⟨by simp, V9, U9, rl, rc, R10.out, FR.out⟩
          · as_aux_lemma =>
              obtain ⟨fr, hfr⟩ : ∃ fr, (I.tmod 2 == 0) = fr := ⟨_, rfl⟩
              have FR := Lib.hid (few_rot (c := c) (free := fr) FW.out)
              have hc := srotate_any Q.out.sp Q.out.ds fr
              have HR2 := Lib.hid (fun w9 V9 (r : Bo2 W w9 B h hm V9 U (rotS l c fr).2.2.1 (rotS l c fr).2.2.2 l c) => rrotate_any r.sr fr)
              obtain ⟨RR, hRR⟩ : ∃ RR, rotS l c fr = RR := ⟨_, rfl⟩
              rw [hRR] at hc HR2 FR
              clear hRR
              obtain ⟨ra, re, rl, rc⟩ := RR
              simp only at hc HR2 FR
              have HC := Lib.hid hc
              clear hc v0 v1 v2 v3 v4 v5 v6 v7 z0 z2 z3 z4
              go_wp2_with fail
              refine HC.out.mono ?_
              rintro e w9 ⟨rfl, V9, q1, q2, q3⟩
              have z1 := cell_of_row _ _ 1 _ _ _ (q3.1.heap NP.out.1 BS.out.1)
              simp only [List.getElem?_toArray, List.getElem?_cons_zero, List.getElem?_cons_succ] at z1
              have R9 := Lib.hid (Q.out.code q1 q2 q3)
              have HC2 := Lib.hid (HR2.out w9 V9 R9.out)
              clear q1 q2 q3 HC
              go_wp2_with fail
              refine HC2.out.mono ?_
              rintro e wA ⟨rfl, U9, q1, q3⟩
              have R10 := Lib.hid (R9.out.doc q1 q3)
              clear q1 q3
              go_wp2_with fail
              go_meet
              exact ⟨by simp, V9, U9, rl, rc, R10.out, FR.out⟩
          · as_aux_lemma =>
              obtain ⟨fr, hfr⟩ : ∃ fr, (I.tmod 2 == 0) = fr := ⟨_, rfl⟩
              have FR := Lib.hid (few_rot (c := c) (free := fr) FW.out)
              have hc := srotate_any Q.out.sp Q.out.ds fr
              have HR2 := Lib.hid (fun w9 V9 (r : Bo2 W w9 B h hm V9 U (rotS l c fr).2.2.1 (rotS l c fr).2.2.2 l c) => rrotate_any r.sr fr)
              obtain ⟨RR, hRR⟩ : ∃ RR, rotS l c fr = RR := ⟨_, rfl⟩
              rw [hRR] at hc HR2 FR
              clear hRR
              obtain ⟨ra, re, rl, rc⟩ := RR
              simp only at hc HR2 FR
              have HC := Lib.hid hc
              clear hc v0 v1 v2 v3 v4 v5 v6 v7 z0 z2 z3 z4
              go_wp2_with fail
              refine HC.out.mono ?_
              rintro e w9 ⟨rfl, V9, q1, q2, q3⟩
              have z1 := cell_of_row _ _ 1 _ _ _ (q3.1.heap NP.out.1 BS.out.1)
              simp only [List.getElem?_toArray, List.getElem?_cons_zero, List.getElem?_cons_succ] at z1
              have R9 := Lib.hid (Q.out.code q1 q2 q3)
              have HC2 := Lib.hid (HR2.out w9 V9 R9.out)
              clear q1 q2 q3 HC
              go_wp2_with fail
              refine HC2.out.mono ?_
              rintro e wA ⟨rfl, U9, q1, q3⟩
              have R10 := Lib.hid (R9.out.doc q1 q3)
              clear q1 q3
              go_wp2_with fail
              go_meet
              exact ⟨by simp, V9, U9, rl, rc, R10.out, FR.out⟩
        case rest => as_aux_lemma =>
          obtain ⟨rfl, V1, U1, l1, c1, r, fw⟩ := hcut
          have RB := Lib.hid r; have FW1 := Lib.hid fw
          obtain ⟨N, hN⟩ : ∃ N, N = lenN l1 := ⟨_, rfl⟩
          have hNb : N ≤ 3 * (i + 1) := by rw [hN, ← pre3_length]; exact few_pre fw
          have LT : ∀ j, j < 3 → (l1 j).length < 1000000 := fun j hj => by have := fw j hj; omega
          have CM := Lib.hid (fun Z (hZ : Kept wc Z []) => (r.keep hZ).sr.cur.1)
          have CU := Lib.hid (fun Z (hZ : Kept wc Z []) => cur_any (r.keep hZ).sp)
          have CA := Lib.hid (fun Z (hZ : Kept wc Z []) => all_any (r.keep hZ).sp LT)
          have RA := Lib.hid (fun Z (hZ : Kept wc Z []) => rall_any (r.keep hZ).sr LT (by rw [pre3_length, ← hN]; omega))
          have CN := Lib.hid (fun Z (hZ : Kept wc Z []) => nextl_any (r.keep hZ).sp (by have := LT (nxt c1) (nxt_lt c1); omega))
          obtain ⟨un, nn, en⟩ := r.sr.shape (nxt c1) (nxt_lt c1)
          have RN := Lib.hid (fun Z (hZ : Kept wc Z []) => (show Calls Try.prog 23 #[.pointer (some ⟨hm, 0, none⟩)] Z fun e w' => e = .returned (.slice un (l1 (nxt c1)).length nn) ∧ Kept Z w' [] from by have := rnext_any (r.keep hZ).sr; rw [en] at this; exact this))
          have RNR := Lib.hid (fun Z (hZ : Kept wc Z []) => (show RdE Z (.slice un (l1 (nxt c1)).length nn) (l1 (nxt c1)) from by have := ((r.keep hZ).sr.own (nxt c1) (nxt_lt c1)).rd; rw [en] at this; exact this))
          have LE := Lib.hid (fun Z (hZ : Kept wc Z []) => (show Calls Try.prog 24 #[.pointer (some ⟨h, 0, none⟩)] Z fun e w' => e = .returned (.int .i64 (N : Nat)) ∧ w' = Z from by rw [hN]; exact len_any (r.keep hZ).sp (fun j hj => by have := LT j hj; omega)))
          have LL := Lib.hid (show (srt byId (pre l1 3)).length = N from by rw [srt_length, pre3_length, hN])
          have LN := Lib.hid (show (l1 (nxt c1)).length < 1000000 from LT _ (nxt_lt c1))
          have LTh := Lib.hid LT
          obtain ⟨mn, hmn⟩ : ∃ mn, mn = (l1 (nxt c1)).length := ⟨_, rfl⟩
          rw [← hmn] at RN RNR
          clear r fw hN LT en hmn v0 v1 v2 v3 v4 v5 v6 v7 z0 z1 z2 z3 z4
          go_upto_region 26 with fail
          refine wp_region_held_drew (S := fun Z => Kept wc Z []) (by kernel_rfl) (Kept.refl wc []).drew (fun hHeld => ?_)
          refine wpAnyH_take (i := 0) (oi := _) (v := .bool true) rfl (by kernel_rfl) (by kernel_rfl) (by kernel_rfl) (fun _ _ _ h => h) (Or.inl ⟨by rfl, fun V hV => by go_simp⟩) hHeld ?_
          change wpAnyH _ _ _ _ _ _ _ (Act.put _ (some 134) _) _
          simp only [Act.put, List.setIfInBounds_toArray, List.set_cons_zero, List.set_cons_succ]
          refine wpAnyH_take (i := 1) (oi := _) (v := .bool false) rfl (by kernel_rfl) (by kernel_rfl) (by kernel_rfl) (fun _ _ _ h => h) (Or.inl ⟨by rfl, fun V hV => by go_simp⟩) hHeld ?_
          change wpAnyH _ _ _ _ _ _ _ (Act.put _ (some 135) _) _
          simp only [Act.put, List.setIfInBounds_toArray, List.set_cons_zero, List.set_cons_succ]
          refine wpAnyH_take (i := 2) (oi := _) (v := .bool false) rfl (by kernel_rfl) (by kernel_rfl) (by kernel_rfl) (fun _ _ _ h => h) (Or.inl ⟨by rfl, fun V hV => by go_simp⟩) hHeld ?_
          change wpAnyH _ _ _ _ _ _ _ (Act.put _ (some 136) _) _
          simp only [Act.put, List.setIfInBounds_toArray, List.set_cons_zero, List.set_cons_succ]
          refine wpAnyH_take (i := 3) (oi := _) (v := .pointer (some ⟨h, 0, none⟩)) rfl (by kernel_rfl) (by kernel_rfl) (by kernel_rfl) (fun _ _ _ h => h) (Or.inl ⟨by rfl, fun V hV => by go_simp⟩) hHeld ?_
          change wpAnyH _ _ _ _ _ _ _ (Act.put _ (some 137) _) _
          simp only [Act.put, List.setIfInBounds_toArray, List.set_cons_zero, List.set_cons_succ]
          refine wpAnyH_take (i := 5) (oi := _) (v := .pointer (some ⟨hm, 0, none⟩)) rfl (by kernel_rfl) (by kernel_rfl) (by kernel_rfl) (fun _ _ _ h => h) (Or.inl ⟨by rfl, fun V hV => by go_simp⟩) hHeld ?_
          change wpAnyH _ _ _ _ _ _ _ (Act.put _ (some 139) _) _
          simp only [Act.put, List.setIfInBounds_toArray, List.set_cons_zero, List.set_cons_succ]
          refine wpAnyH_take (i := 6) (oi := _) (v := .pointer (some ⟨hm, 0, none⟩)) rfl (by kernel_rfl) (by kernel_rfl) (by kernel_rfl) (fun _ _ _ h => h) (Or.inl ⟨by rfl, fun V hV => by go_simp⟩) hHeld ?_
          change wpAnyH _ _ _ _ _ _ _ (Act.put _ (some 140) _) _
          simp only [Act.put, List.setIfInBounds_toArray, List.set_cons_zero, List.set_cons_succ]
          refine wpAnyH_take (i := 7) (oi := _) (v := .pointer (some ⟨hm, 3, none⟩)) rfl (by kernel_rfl) (by kernel_rfl) (by kernel_rfl) (fun _ _ _ h => h) (Or.inl ⟨by rfl, fun V hV => by go_simp⟩) hHeld ?_
          change wpAnyH _ _ _ _ _ _ _ (Act.put _ (some 141) _) _
          simp only [Act.put, List.setIfInBounds_toArray, List.set_cons_zero, List.set_cons_succ]
          refine wpAnyH_take (i := 8) (oi := _) (v := .int .i64 c1) rfl (by kernel_rfl) (by kernel_rfl) (by kernel_rfl) (fun _ _ _ h => h) (Or.inl ⟨by rfl, fun V hV => by (have q0 := CM.out V hV; clear hV; go_simp)⟩) hHeld ?_
          change wpAnyH _ _ _ _ _ _ _ (Act.put _ (some 142) _) _
          simp only [Act.put, List.setIfInBounds_toArray, List.set_cons_zero, List.set_cons_succ]
          refine wpAnyH_ready (rs := [4]) (by kernel_rfl) (by simp) ?_
          refine AllReadyH.cons (o := _) rfl (fun K hK => ?_) AllReadyH.nil
          go_simp
          go_at_call 18
          refine (CU.out _ (Kept.refl wc []).drew).mono ?_
          rintro e w2 ⟨rfl, rfl⟩
          go_wp2_with fail
          refine hK.out _ _ (Kept.refl wc []).drew (fun hHeld => ?_)
          clear hK K
          refine wpAnyH_take (i := 9) (oi := _) (v := .bool false) rfl (by kernel_rfl) (by kernel_rfl) (by kernel_rfl) (fun _ _ _ h => h) (Or.inl ⟨by rfl, fun V hV => by go_simp⟩) hHeld ?_
          change wpAnyH _ _ _ _ _ _ _ (Act.put _ (some 143) _) _
          simp only [Act.put, List.setIfInBounds_toArray, List.set_cons_zero, List.set_cons_succ]
          refine wpAnyH_take (i := 10) (oi := _) (v := .bool false) rfl (by kernel_rfl) (by kernel_rfl) (by kernel_rfl) (fun _ _ _ h => h) (Or.inl ⟨by rfl, fun V hV => by go_simp⟩) hHeld ?_
          change wpAnyH _ _ _ _ _ _ _ (Act.put _ (some 144) _) _
          simp only [Act.put, List.setIfInBounds_toArray, List.set_cons_zero, List.set_cons_succ]
          refine wpAnyH_take (i := 11) (oi := _) (v := .bool false) rfl (by kernel_rfl) (by kernel_rfl) (by kernel_rfl) (fun _ _ _ h => h) (Or.inl ⟨by rfl, fun V hV => by go_simp⟩) hHeld ?_
          change wpAnyH _ _ _ _ _ _ _ (Act.put _ (some 145) _) _
          simp only [Act.put, List.setIfInBounds_toArray, List.set_cons_zero, List.set_cons_succ]
          refine wpAnyH_take (i := 12) (oi := _) (v := .pointer (some ⟨h, 0, none⟩)) rfl (by kernel_rfl) (by kernel_rfl) (by kernel_rfl) (fun _ _ _ h => h) (Or.inl ⟨by rfl, fun V hV => by go_simp⟩) hHeld ?_
          change wpAnyH _ _ _ _ _ _ _ (Act.put _ (some 146) _) _
          simp only [Act.put, List.setIfInBounds_toArray, List.set_cons_zero, List.set_cons_succ]
          refine wpAnyH_take (i := 14) (oi := _) (v := .pointer (some ⟨hm, 0, none⟩)) rfl (by kernel_rfl) (by kernel_rfl) (by kernel_rfl) (fun _ _ _ h => h) (Or.inl ⟨by rfl, fun V hV => by go_simp⟩) hHeld ?_
          change wpAnyH _ _ _ _ _ _ _ (Act.put _ (some 148) _) _
          simp only [Act.put, List.setIfInBounds_toArray, List.set_cons_zero, List.set_cons_succ]
          refine wpAnyH_ready (rs := [13]) (by kernel_rfl) (by simp) ?_
          refine AllReadyH.cons (o := _) rfl (fun K hK => ?_) AllReadyH.nil
          go_simp
          go_at_call 20
          refine (CA.out _ (Kept.refl wc []).drew).mono ?_
          rintro e wa ⟨va, rfl, oa, ka⟩
          have ka := (Kept.refl wc []).drew.trans ka (by simp)
          go_wp2_with fail
          refine hK.out _ _ ka (fun hHeld => ?_)
          clear hK K
          refine wpAnyH_ready (rs := [15]) (by kernel_rfl) (by simp) ?_
          refine AllReadyH.cons (o := _) rfl (fun K hK => ?_) AllReadyH.nil
          go_simp
          go_at_call 21
          refine (RA.out _ ka).mono ?_
          rintro e wb ⟨vb, rfl, ob, kb⟩
          have oa := oa.rd.kept kb (by simp)
          have kb := ka.trans kb (by simp)
          clear ka
          go_wp2_with fail
          refine hK.out _ _ kb (fun hHeld => ?_)
          clear hK K
          refine wpAnyH_ready (rs := [16]) (by kernel_rfl) (by simp) ?_
          refine AllReadyH.cons (o := _) rfl (fun K hK => ?_) AllReadyH.nil
          go_simp
          go_at_call 19
          refine (same_any oa ob.rd (by rw [LL.out]; omega)).mono ?_
          rintro e wd ⟨rfl, kd⟩
          have kd := kb.trans kd (by simp)
          clear kb oa ob
          go_wp2_with fail
          refine hK.out _ _ kd (fun hHeld => ?_)
          clear hK K
          refine wpAnyH_take (i := 17) (oi := _) (v := .bool false) rfl (by kernel_rfl) (by kernel_rfl) (by kernel_rfl) (fun _ _ _ h => h) (Or.inl ⟨by rfl, fun V hV => by go_simp⟩) hHeld ?_
          change wpAnyH _ _ _ _ _ _ _ (Act.put _ (some 151) _) _
          simp only [Act.put, List.setIfInBounds_toArray, List.set_cons_zero, List.set_cons_succ]
          refine wpAnyH_take (i := 18) (oi := _) (v := .bool false) rfl (by kernel_rfl) (by kernel_rfl) (by kernel_rfl) (fun _ _ _ h => h) (Or.inl ⟨by rfl, fun V hV => by go_simp⟩) hHeld ?_
          change wpAnyH _ _ _ _ _ _ _ (Act.put _ (some 152) _) _
          simp only [Act.put, List.setIfInBounds_toArray, List.set_cons_zero, List.set_cons_succ]
          refine wpAnyH_take (i := 19) (oi := _) (v := .bool false) rfl (by kernel_rfl) (by kernel_rfl) (by kernel_rfl) (fun _ _ _ h => h) (Or.inl ⟨by rfl, fun V hV => by go_simp⟩) hHeld ?_
          change wpAnyH _ _ _ _ _ _ _ (Act.put _ (some 153) _) _
          simp only [Act.put, List.setIfInBounds_toArray, List.set_cons_zero, List.set_cons_succ]
          refine wpAnyH_take (i := 20) (oi := _) (v := .pointer (some ⟨h, 0, none⟩)) rfl (by kernel_rfl) (by kernel_rfl) (by kernel_rfl) (fun _ _ _ h => h) (Or.inl ⟨by rfl, fun V hV => by go_simp⟩) hHeld ?_
          change wpAnyH _ _ _ _ _ _ _ (Act.put _ (some 154) _) _
          simp only [Act.put, List.setIfInBounds_toArray, List.set_cons_zero, List.set_cons_succ]
          refine wpAnyH_take (i := 22) (oi := _) (v := .pointer (some ⟨hm, 0, none⟩)) rfl (by kernel_rfl) (by kernel_rfl) (by kernel_rfl) (fun _ _ _ h => h) (Or.inl ⟨by rfl, fun V hV => by go_simp⟩) hHeld ?_
          change wpAnyH _ _ _ _ _ _ _ (Act.put _ (some 156) _) _
          simp only [Act.put, List.setIfInBounds_toArray, List.set_cons_zero, List.set_cons_succ]
          refine wpAnyH_ready (rs := [21]) (by kernel_rfl) (by simp) ?_
          refine AllReadyH.cons (o := _) rfl (fun K hK => ?_) AllReadyH.nil
          go_simp
          go_at_call 22
          refine (CN.out _ kd).mono ?_
          rintro e we ⟨ve, rfl, oe, ke⟩
          have ke := kd.trans ke (by simp)
          clear kd
          go_wp2_with fail
          refine hK.out _ _ ke (fun hHeld => ?_)
          clear hK K
          refine wpAnyH_ready (rs := [23]) (by kernel_rfl) (by simp) ?_
          refine AllReadyH.cons (o := _) rfl (fun K hK => ?_) AllReadyH.nil
          go_simp
          go_at_call 23
          refine (RN.out _ ke).mono ?_
          rintro e wf ⟨rfl, kf⟩
          have oe := oe.rd.kept kf (by simp)
          have kf := ke.trans kf (by simp)
          clear ke
          go_wp2_with fail
          refine hK.out _ _ kf (fun hHeld => ?_)
          clear hK K
          refine wpAnyH_ready (rs := [24]) (by kernel_rfl) (by simp) ?_
          refine AllReadyH.cons (o := _) rfl (fun K hK => ?_) AllReadyH.nil
          go_simp
          go_at_call 19
          refine (same_any oe (RNR.out _ kf) LN.out).mono ?_
          rintro e wg ⟨rfl, kg⟩
          have kg := kf.trans kg (by simp)
          clear kf oe
          go_wp2_with fail
          refine hK.out _ _ kg (fun hHeld => ?_)
          clear hK K
          refine wpAnyH_take (i := 25) (oi := _) (v := .bool false) rfl (by kernel_rfl) (by kernel_rfl) (by kernel_rfl) (fun _ _ _ h => h) (Or.inl ⟨by rfl, fun V hV => by go_simp⟩) hHeld ?_
          change wpAnyH _ _ _ _ _ _ _ (Act.put _ (some 159) _) _
          simp only [Act.put, List.setIfInBounds_toArray, List.set_cons_zero, List.set_cons_succ]
          refine wpAnyH_take (i := 26) (oi := _) (v := .bool false) rfl (by kernel_rfl) (by kernel_rfl) (by kernel_rfl) (fun _ _ _ h => h) (Or.inl ⟨by rfl, fun V hV => by go_simp⟩) hHeld ?_
          change wpAnyH _ _ _ _ _ _ _ (Act.put _ (some 160) _) _
          simp only [Act.put, List.setIfInBounds_toArray, List.set_cons_zero, List.set_cons_succ]
          refine wpAnyH_take (i := 27) (oi := _) (v := .bool false) rfl (by kernel_rfl) (by kernel_rfl) (by kernel_rfl) (fun _ _ _ h => h) (Or.inl ⟨by rfl, fun V hV => by go_simp⟩) hHeld ?_
          change wpAnyH _ _ _ _ _ _ _ (Act.put _ (some 161) _) _
          simp only [Act.put, List.setIfInBounds_toArray, List.set_cons_zero, List.set_cons_succ]
          refine wpAnyH_take (i := 28) (oi := _) (v := .pointer (some ⟨h, 0, none⟩)) rfl (by kernel_rfl) (by kernel_rfl) (by kernel_rfl) (fun _ _ _ h => h) (Or.inl ⟨by rfl, fun V hV => by go_simp⟩) hHeld ?_
          change wpAnyH _ _ _ _ _ _ _ (Act.put _ (some 162) _) _
          simp only [Act.put, List.setIfInBounds_toArray, List.set_cons_zero, List.set_cons_succ]
          refine wpAnyH_take (i := 30) (oi := _) (v := .pointer (some ⟨hm, 0, none⟩)) rfl (by kernel_rfl) (by kernel_rfl) (by kernel_rfl) (fun _ _ _ h => h) (Or.inl ⟨by rfl, fun V hV => by go_simp⟩) hHeld ?_
          change wpAnyH _ _ _ _ _ _ _ (Act.put _ (some 164) _) _
          simp only [Act.put, List.setIfInBounds_toArray, List.set_cons_zero, List.set_cons_succ]
          refine wpAnyH_ready (rs := [29]) (by kernel_rfl) (by simp) ?_
          refine AllReadyH.cons (o := _) rfl (fun K hK => ?_) AllReadyH.nil
          go_simp
          go_at_call 24
          refine (LE.out _ kg).mono ?_
          rintro e wi ⟨rfl, rfl⟩
          go_wp2_with fail
          refine hK.out _ _ kg (fun hHeld => ?_)
          clear hK K
          refine wpAnyH_ready (rs := [31]) (by kernel_rfl) (by simp) ?_
          refine AllReadyH.cons (o := _) rfl (fun K hK => ?_) AllReadyH.nil
          go_simp
          go_at_call 21
          refine (RA.out _ kg).mono ?_
          rintro e wj ⟨vj, rfl, oj, kj⟩
          have kj := kg.trans kj (by simp)
          obtain ⟨uj, nj, ej⟩ := oj.shape
          rw [LL.out] at ej
          subst ej
          clear kg oj
          go_wp2_with fail
          refine hK.out _ _ kj (fun hHeld => ?_)
          clear hK K
          refine wpAnyH_take (i := 32) (oi := _) (v := .int .i64 (N : Int)) rfl (by kernel_rfl) (by kernel_rfl) (by kernel_rfl) (fun _ _ _ h => h) (Or.inl ⟨by rfl, fun V hV => by go_simp⟩) hHeld ?_
          change wpAnyH _ _ _ _ _ _ _ (Act.put _ (some 166) _) _
          simp only [Act.put, List.setIfInBounds_toArray, List.set_cons_zero, List.set_cons_succ]
          refine wpAnyH_take (i := 33) (oi := _) (v := .bool false) rfl (by kernel_rfl) (by kernel_rfl) (by kernel_rfl) (fun _ _ _ h => h) (Or.inl ⟨by rfl, fun V hV => by go_simp⟩) hHeld ?_
          change wpAnyH _ _ _ _ _ _ _ (Act.put _ (some 167) _) _
          simp only [Act.put, List.setIfInBounds_toArray, List.set_cons_zero, List.set_cons_succ]
          refine wpAnyH_take (i := 34) (oi := _) (v := .bool false) rfl (by kernel_rfl) (by kernel_rfl) (by kernel_rfl) (fun _ _ _ h => h) (Or.inl ⟨by rfl, fun V hV => by go_simp⟩) hHeld ?_
          change wpAnyH _ _ _ _ _ _ _ (Act.put _ (some 168) _) _
          simp only [Act.put, List.setIfInBounds_toArray, List.set_cons_zero, List.set_cons_succ]
          refine wpAnyH_done (by kernel_rfl) ?_ _
          have KJ := Lib.hid kj
          clear kj hHeld
          go_wp2
          go_loopg [13, 14] 5 (fun kx s13 _ wr => ∃ j : Nat, (j = 0 ∧ s13 = .int .i64 (-1) ∨ j = 1 ∧ s13 = .int .i64 0 ∨ j = 2 ∧ s13 = .int .i64 1 ∨ j = 3 ∧ s13 = .int .i64 2 ∨ j = 4 ∧ s13 = .int .i64 3 ∨ j = 5 ∧ s13 = .int .i64 4) ∧ 5 - j ≤ kx ∧ RowKit.Hid (Kept wc wr []))
          case atStart => exact ⟨0, by simp, by omega, KJ⟩
          case round =>
            clear KJ
            obtain ⟨j, hj, hkj, HK⟩ := hrel
            rcases hj with ⟨rfl, rfl⟩ | ⟨rfl, rfl⟩ | ⟨rfl, rfl⟩ | ⟨rfl, rfl⟩ | ⟨rfl, rfl⟩ | ⟨rfl, rfl⟩
            · have HL := Lib.hid (list_out h (-1) (by decide) wr)
              go_wp2_with fail
              refine HL.out.mono ?_
              rintro e w2 ⟨rfl, rfl⟩
              go_wp2_with fail
              refine (same_any (RdE.nil _) (RdE.nil _) (by simp)).mono ?_
              rintro e w3 ⟨rfl, k3⟩
              have K3 := Lib.hid (HK.out.trans k3 (by simp))
              clear k3
              go_wp2
              go_roundg 4
              case measure => omega
              case rel => exact ⟨1, by simp, by omega, K3⟩
            · obtain ⟨uk, nk, ek⟩ := RB.out.sr.shape 0 (by omega)
              have ck := ((RB.out.keep HK.out).sr.cell 0 (by omega)).1
              have rk := Lib.hid (fun Z (hZ : Kept wc Z []) => (show RdE Z (.slice uk (l1 0).length nk) (l1 0) from by have := ((RB.out.keep hZ).sr.own 0 (by omega)).rd; rw [ek] at this; exact this))
              rw [ek] at ck
              have hc := list_any (RB.out.keep HK.out).sp 0 (by omega) (by have := LTh.out 0 (by omega); omega)
              have HL := Lib.hid (show Calls Try.prog 25 #[.pointer (some ⟨h, 0, none⟩), .int .i64 0] wr fun e w' => ∃ v', e = .returned v' ∧ OwnE w' wr.heap.size 36 v' (l1 0) ∧ Kept wr w' [] from hc)
              have LK := Lib.hid (LTh.out 0 (by omega))
              obtain ⟨mk, hmk⟩ : ∃ mk, mk = (l1 0).length := ⟨_, rfl⟩
              rw [← hmk] at ck rk
              clear hc ek hmk
              go_wp2_with fail
              refine HL.out.mono ?_
              rintro e w2 ⟨v2, rfl, o2, k2⟩
              have O2 := Lib.hid o2.rd; have K2 := Lib.hid (HK.out.trans k2 (by simp))
              clear o2 k2 ck
              go_wp2_with fail
              refine (same_any O2.out (rk.out _ K2.out) LK.out).mono ?_
              rintro e w3 ⟨rfl, k3⟩
              have K3 := Lib.hid (K2.out.trans k3 (by simp))
              clear k3
              go_wp2
              go_roundg 3
              case measure => omega
              case rel => exact ⟨2, by simp, by omega, K3⟩
            · obtain ⟨uk, nk, ek⟩ := RB.out.sr.shape 1 (by omega)
              have ck := ((RB.out.keep HK.out).sr.cell 1 (by omega)).1
              have rk := Lib.hid (fun Z (hZ : Kept wc Z []) => (show RdE Z (.slice uk (l1 1).length nk) (l1 1) from by have := ((RB.out.keep hZ).sr.own 1 (by omega)).rd; rw [ek] at this; exact this))
              rw [ek] at ck
              have hc := list_any (RB.out.keep HK.out).sp 1 (by omega) (by have := LTh.out 1 (by omega); omega)
              have HL := Lib.hid (show Calls Try.prog 25 #[.pointer (some ⟨h, 0, none⟩), .int .i64 1] wr fun e w' => ∃ v', e = .returned v' ∧ OwnE w' wr.heap.size 36 v' (l1 1) ∧ Kept wr w' [] from hc)
              have LK := Lib.hid (LTh.out 1 (by omega))
              obtain ⟨mk, hmk⟩ : ∃ mk, mk = (l1 1).length := ⟨_, rfl⟩
              rw [← hmk] at ck rk
              clear hc ek hmk
              go_wp2_with fail
              refine HL.out.mono ?_
              rintro e w2 ⟨v2, rfl, o2, k2⟩
              have O2 := Lib.hid o2.rd; have K2 := Lib.hid (HK.out.trans k2 (by simp))
              clear o2 k2 ck
              go_wp2_with fail
              refine (same_any O2.out (rk.out _ K2.out) LK.out).mono ?_
              rintro e w3 ⟨rfl, k3⟩
              have K3 := Lib.hid (K2.out.trans k3 (by simp))
              clear k3
              go_wp2
              go_roundg 2
              case measure => omega
              case rel => exact ⟨3, by simp, by omega, K3⟩
            · obtain ⟨uk, nk, ek⟩ := RB.out.sr.shape 2 (by omega)
              have ck := ((RB.out.keep HK.out).sr.cell 2 (by omega)).1
              have rk := Lib.hid (fun Z (hZ : Kept wc Z []) => (show RdE Z (.slice uk (l1 2).length nk) (l1 2) from by have := ((RB.out.keep hZ).sr.own 2 (by omega)).rd; rw [ek] at this; exact this))
              rw [ek] at ck
              have hc := list_any (RB.out.keep HK.out).sp 2 (by omega) (by have := LTh.out 2 (by omega); omega)
              have HL := Lib.hid (show Calls Try.prog 25 #[.pointer (some ⟨h, 0, none⟩), .int .i64 2] wr fun e w' => ∃ v', e = .returned v' ∧ OwnE w' wr.heap.size 36 v' (l1 2) ∧ Kept wr w' [] from hc)
              have LK := Lib.hid (LTh.out 2 (by omega))
              obtain ⟨mk, hmk⟩ : ∃ mk, mk = (l1 2).length := ⟨_, rfl⟩
              rw [← hmk] at ck rk
              clear hc ek hmk
              go_wp2_with fail
              refine HL.out.mono ?_
              rintro e w2 ⟨v2, rfl, o2, k2⟩
              have O2 := Lib.hid o2.rd; have K2 := Lib.hid (HK.out.trans k2 (by simp))
              clear o2 k2 ck
              go_wp2_with fail
              refine (same_any O2.out (rk.out _ K2.out) LK.out).mono ?_
              rintro e w3 ⟨rfl, k3⟩
              have K3 := Lib.hid (K2.out.trans k3 (by simp))
              clear k3
              go_wp2
              go_roundg 1
              case measure => omega
              case rel => exact ⟨4, by simp, by omega, K3⟩
            · have HL := Lib.hid (list_out h (3) (by decide) wr)
              go_wp2_with fail
              refine HL.out.mono ?_
              rintro e w2 ⟨rfl, rfl⟩
              go_wp2_with fail
              refine (same_any (RdE.nil _) (RdE.nil _) (by simp)).mono ?_
              rintro e w3 ⟨rfl, k3⟩
              have K3 := Lib.hid (HK.out.trans k3 (by simp))
              clear k3
              go_wp2
              go_roundg 0
              case measure => omega
              case rel => exact ⟨5, by simp, by omega, K3⟩
            · have RF := Lib.hid (show Bo2 W wr B h hm V1 U1 l1 c1 l1 c1 ∧ few l1 (i + 1) from ⟨RB.out.keep HK.out, FW1.out⟩)
              go_wp2
              go_roundg (len - (i + 1))
              case measure => omega
              case rel => exact ⟨i + 1, V1, U1, l1, c1, by go_num, by omega, by omega, RF⟩
      · have x1 : ¬ (i : Int) < (len : Int) := by omega
        go_wp2
        go_ret
        exact ⟨rfl, HS.out.1.kw.below (Nat.le_refl _) (by simp)⟩

set_option maxRecDepth 100000 in
theorem lifted (os : Os) (started : os.Started) (H : Type) (enc : TypeId × Value → H) :
    ReturnsInHanded {} Try.checked os 3 .any (Rows.spoolPlaysSpec.pre6 enc Try.prog Try.f3 Rows.spoolPlaysRow.domain false) (Rows.spoolPlaysSpec.post enc Try.prog Try.f3 false true false false) := by
  refine returnsInHanded_of_change (C := Try.checked) own started (by kernel_rfl) Try.func3
    (ChangeSpec.witness6 (enc := enc) (C := Try.checked) false ⟨#[], #[.slice none 0 0], []⟩ 8 (by kernel_rfl) (by kernel_rfl) (by kernel_rfl) (by kernel_rfl)) ?_
  intro W base args ds gs before hval0 hW hcnd _
  have hval : ∀ (j : Nat) t v, Try.f3.params[j]? = some t → args[j]? = some v → Value.okWide Try.prog W .any base t v := hval0
  have hW' := hW
  obtain ⟨p, q, hA0, hV, rfl, hfz, hnd⟩ := hW
  have hA : DataW.TrodAll enc Try.prog W 0 (fun _ => true) true Try.f3.params.toList args.toList ds p := hA0
  rw [Try.params3] at hA hval
  obtain ⟨v0, vs0, d0, ds0, p0, q0, hargs, rfl, rfl, h0, r0⟩ := trodAll_cons hA
  obtain ⟨rfl, rfl, rfl⟩ := trodAll_nil r0
  obtain rfl : args = #[v0] := by cases args; simp_all
  obtain ⟨rfl, rfl⟩ := trodVars_none hV
  obtain ⟨a0, len0, cap0, rfl⟩ := okWide_slice Try.underlying22 (hval 0 22 v0 rfl rfl)
  have k0 := h0
  have lt0 : ∀ x ∈ p0, x.block < W.heap.size := by obtain ⟨m, hm⟩ := k0; exact DataW.trod_lt m _ _ _ hm
  obtain ⟨z0, w0⟩ : ∃ f, IsActs W W.heap.size a0 len0 f ∧ len0 ≤ maxLen := by
    obtain ⟨fuel, hf⟩ := h0
    exact acts_open (by simpa [Value.cells] using hf)
  clear hA0 hval0
  refine (walk a0 len0 cap0 z0 W w0).mono fun e W' ⟨he, bel⟩ => ?_
  subst he
  exact ⟨_, rfl, _, _, _, [], _, [], hW', trodAll_mk1 (shut_bool Try.underlying4 _), (trodAll_cons_mk (Below.trod laidOut (by kernel_rfl) (of_decide_eq_true (by kernel_rfl)) k0 bel lt0) trodAll_mk0), rfl, bel.frame _, fun h => by cases h⟩

theorem over : Rows.spoolPlaysRow.holds Try.pinned (OpenSpec.ofChange Rows.spoolPlaysSpec) :=
  OpenClaim.holds_of_wide 3 Try.f3 rfl rfl rfl rfl rfl rfl rfl ⟨rfl, rfl, rfl, rfl, rfl⟩ rfl rfl rfl rfl rfl (by kernel_rfl) Try.func3 (by kernel_rfl)
    (of_decide_eq_true (by kernel_rfl)) (by unfold Func.isWrapper; first | (rw [if_pos (by decide +kernel)]; kernel_rfl) | (rw [if_neg (by decide +kernel)]; exact ⟨rfl, rfl⟩))
    (fun os started H enc _ => lifted os started H enc)

theorem proved : Rows.SpoolPlaysSaid :=
  over
end Go.Proofs.Ytalplhhmghnggaa.spoolPlays

namespace Go.Proofs.Ytalplhhmghnggaa
theorem spoolPlays_holds : Rows.SpoolPlaysSaid := spoolPlays.proved
#print axioms spoolPlays_holds
end Go.Proofs.Ytalplhhmghnggaa

