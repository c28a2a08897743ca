/-
  Zqd in one text.
-/
import Derived.Test.YticiofkiffgclaaGreatQo33
namespace Go.Proofs.YticiofkiffgclaaGreat
set_option linter.unusedVariables false
open Go.RowKit

variable {w w' : World} {B : Nat} {a : Hk} {st : List Nat} {q : Qs} {O : Nat → Prop}

theorem Fo.far {O P : Nat → Prop} {a b c : World} (h : Fo O a b) (k : Fo P b c) (hP : ∀ k, P k → a.heap.size ≤ k) : Fo O a c :=
  ⟨k.os.trans h.os, k.tape.trans h.tape, k.output.trans h.output, Nat.le_trans h.size k.size, fun i hi hn => (k.block i (Nat.lt_of_lt_of_le hi h.size) (fun ho => by have := hP i ho; omega)).trans (h.block i hi hn)⟩
theorem one_noM {z : Nat} {c : Array Value} {T : TypeId} {f : Nat × Nat} (g : w.heap[z]? = some (.cells c T f)) : NoM w (fun k => k = z) := by
  rintro k rfl es x h
  rw [g] at h; cases h
theorem one_noT {z : Nat} {c : Array Value} {T : TypeId} {f : Nat × Nat} (g : w.heap[z]? = some (.cells c T f)) {ts : List TypeId} (hT : T ∉ ts) : NoT w (fun k => k = z) ts := by
  rintro k rfl c2 t2 f2 h
  rw [← tag_one g h]; exact hT
theorem one_noI {z : Nat} {c : Array Value} {T : TypeId} {f : Nat × Nat} (g : w.heap[z]? = some (.cells c T f)) (hT : T ≠ 2) : NoI w (fun k => k = z) := by
  rintro k rfl c2 f2 h
  exact hT (tag_one g h)
theorem KPost.boxed {W1 w2 : World} {st0 : List Nat} {q0 : Qs} (s0 : KS w B a st0 q0 O) (k1 : Kept w W1 []) (p : KPost W1 B a st O q w') {z : Nat} {c : Array Value} {T : TypeId} {fz : Nat × Nat} (g : w'.heap[z]? = some (.cells c T fz)) (hT : T ∉ mts) (hI : T ≠ 2) (h1 : w.heap.size ≤ z) (h2 : z < W1.heap.size) (f : Fo (fun k => k = z) w' w2) : KPost w B a st O q w2 := by
  obtain ⟨O', s', t'⟩ := p
  refine ⟨O', s'.fo f (fun k hk e => ?_) (one_noI g hI) (one_noT g hT) (one_noM g), ((Stp.afterK k1 t').1).far f (fun k e => by omega), (Stp.afterK k1 t').2⟩
  subst e
  rcases t'.2 k hk with h | h
  · have := (s0.lt k h).2; omega
  · omega

theorem kR_cells {a : Hk} {d : Kv} (h : w.heap[a.h]? = some (.cells (kR a d) quT (0, 0))) : w.cell? ⟨a.h, 0, none⟩ = some (.pointer (some ⟨a.p, 0, none⟩)) ∧ w.cell? ⟨a.h, 1, none⟩ = some (.pointer (some ⟨a.hs, 0, none⟩)) ∧ w.cell? ⟨a.h, 2, none⟩ = some (.pointer (some ⟨a.ht, 0, none⟩)) ∧ w.cell? ⟨a.h, 3, none⟩ = some (.pointer (some ⟨a.hc, 0, none⟩)) ∧ w.cell? ⟨a.h, 4, none⟩ = some (.pointer (some ⟨a.hr, 0, none⟩)) := by
  have e : (kR a d) = (kR a d).toList.toArray := rfl
  rw [e] at h
  refine ⟨?_, ?_, ?_, ?_, ?_⟩ <;> (rw [cell_of_row _ _ _ _ _ _ h]; rfl)

abbrev zE8 : Obj := .cells #[.int .i64 0, .int .i64 0, .string ⟨#[]⟩, .int .i64 0, .int .i64 0, .int .u8 0, .int .i64 0, .string ⟨#[]⟩] 50

set_option maxHeartbeats 4000000 in
set_option maxRecDepth 100000 in
theorem kwri_any (s : KS w B a st q O) {k : Nat} (z : SzQ k q) (hk : k ≤ 1000) (x tb kd key : Int) (t : ByteArray) : Calls Tryz.prog 20 #[.pointer (some ⟨a.h, 0, none⟩), .int .i64 x, .int .i64 tb, .int .u8 kd, .agg #[.int .i64 key, .string t]] w fun e w' => e = .returned (.agg (wriV q x tb kd key t).cs) ∧ KPost w B a st O (wriQ q x tb kd key t) w' := by
  obtain ⟨zb, hzb⟩ : ∃ zb, zb = w.heap.size := ⟨_, rfl⟩
  obtain ⟨W0, hW0⟩ : ∃ W0, W0 = w.alloc (.cells #[.int .i64 key, .string t] 48) := ⟨_, rfl⟩
  obtain ⟨W1, hW1⟩ : ∃ W1, W1 = W0.alloc zE8 := ⟨_, rfl⟩
  have k0 : Kept w W0 [] := by rw [hW0]; exact (Kept.refl w []).alloc _
  have k1' : Kept W0 W1 [] := by rw [hW1]; exact (Kept.refl W0 []).alloc _
  have k1 : Kept w W1 [] := k0.trans k1' (by simp)
  have zW0 : W0.heap.size = zb + 1 := by rw [hW0, hzb]; simp
  have zW1 : W1.heap.size = zb + 2 := by rw [hW1]; simp [zW0]
  have g0 : W1.heap[zb]? = some (.cells #[.int .i64 key, .string t] 48 (0, 0)) := k1'.heap (by simp) (by rw [hW0, hzb]; exact heap_alloc_new w _)
  have g1 : W1.heap[zb + 1]? = some (.cells #[.int .i64 0, .int .i64 0, .string ⟨#[]⟩, .int .i64 0, .int .i64 0, .int .u8 0, .int .i64 0, .string ⟨#[]⟩] 50 (0, 0)) := by rw [hW1, ← zW0]; exact heap_alloc_new W0 _
  obtain ⟨nx, hnx⟩ : ∃ nx, nx = q.nx := ⟨_, rfl⟩
  have CF : RowKit.Hid (∀ Z, Kept W1 Z [] → Z.cell? ⟨a.h, 5, none⟩ = some (.int .i64 nx)) := Lib.hid (fun Z hZ => by rw [hnx]; exact (s.keep (k1.trans hZ (by simp))).cells.2.1)
  have RW : RowKit.Hid (∀ Z, Kept W1 Z [] → Z.cell? ⟨zb, 0, none⟩ = some (.int .i64 key) ∧ Z.cell? ⟨zb, 1, none⟩ = some (.string t)) := Lib.hid (fun Z hZ => two_cells (hZ.heap (by simp) g0))
  have S := Lib.hid s; have S1 := Lib.hid (s.keep k1); have K1 := Lib.hid k1; have G0 := Lib.hid g0; have G1 := Lib.hid g1; have HW0 := Lib.hid hW0; have HW1 := Lib.hid hW1; have HZB := Lib.hid hzb; have ZW1 := Lib.hid zW1; have HNX := Lib.hid hnx
  have BN : RowKit.Hid (1 ≤ nx ∧ nx ≤ 1001) := Lib.hid (by have := z.nx; rw [hnx]; omega)
  have TB := Lib.hid (z.tabs hk q.c z.ok.c3)
  have EV : RowKit.Hid ((wriV q x tb kd key t).cs = #[.int .i64 nx, .int .i64 x, .string ⟨#[]⟩, .int .i64 0, .int .i64 tb, .int .u8 kd, .int .i64 key, .string t]) := Lib.hid (by rw [hnx]; rfl)
  clear s k0 k1' k1 zW0 zW1 g0 g1 hW0 hW1 hnx z hk
  go_enter Tryz.func20, Tryz.ntmps20
  go_upto_region 3 with fail
  rw [← HW0.out, ← HW1.out, ← HZB.out]
  clear hzb
  refine wp_region_held_drew (S := fun Z => Kept W1 Z []) (by kernel_rfl) (Kept.refl W1 []).drew (fun hHeld => ?_)
  refine wpAnyH_take (i := 0) (oi := _) (v := .pointer (some ⟨a.h, 0, none⟩)) rfl (by kernel_rfl) (by kernel_rfl) (by kernel_rfl) (fun _ _ _ h => h) (Or.inl ⟨by rfl, fun V hV => by go_simp⟩) hHeld ?_
  change wpAnyH _ _ _ _ _ _ _ (Act.put _ (some 15) _) _
  simp only [Act.put, List.setIfInBounds_toArray, List.set_cons_zero, List.set_cons_succ]
  refine wpAnyH_take (i := 1) (oi := _) (v := .pointer (some ⟨a.h, 0, none⟩)) rfl (by kernel_rfl) (by kernel_rfl) (by kernel_rfl) (fun _ _ _ h => h) (Or.inl ⟨by rfl, fun V hV => by go_simp⟩) hHeld ?_
  change wpAnyH _ _ _ _ _ _ _ (Act.put _ (some 16) _) _
  simp only [Act.put, List.setIfInBounds_toArray, List.set_cons_zero, List.set_cons_succ]
  refine wpAnyH_take (i := 2) (oi := _) (v := .pointer (some ⟨a.h, 5, none⟩)) rfl (by kernel_rfl) (by kernel_rfl) (by kernel_rfl) (fun _ _ _ h => h) (Or.inl ⟨by rfl, fun V hV => by go_simp⟩) hHeld ?_
  change wpAnyH _ _ _ _ _ _ _ (Act.put _ (some 17) _) _
  simp only [Act.put, List.setIfInBounds_toArray, List.set_cons_zero, List.set_cons_succ]
  refine wpAnyH_take (i := 3) (oi := _) (v := .int .i64 nx) rfl (by kernel_rfl) (by kernel_rfl) (by kernel_rfl) (fun _ _ _ h => h) (Or.inl ⟨by rfl, fun V hV => by (have q0 := CF.out V hV; clear hV; go_simp)⟩) hHeld ?_
  change wpAnyH _ _ _ _ _ _ _ (Act.put _ (some 18) _) _
  simp only [Act.put, List.setIfInBounds_toArray, List.set_cons_zero, List.set_cons_succ]
  refine wpAnyH_take (i := 4) (oi := _) (v := .int .i64 x) rfl (by kernel_rfl) (by kernel_rfl) (by kernel_rfl) (fun _ _ _ h => h) (Or.inl ⟨by rfl, fun V hV => by go_simp⟩) hHeld ?_
  change wpAnyH _ _ _ _ _ _ _ (Act.put _ (some 19) _) _
  simp only [Act.put, List.setIfInBounds_toArray, List.set_cons_zero, List.set_cons_succ]
  refine wpAnyH_take (i := 5) (oi := _) (v := .int .i64 tb) rfl (by kernel_rfl) (by kernel_rfl) (by kernel_rfl) (fun _ _ _ h => h) (Or.inl ⟨by rfl, fun V hV => by go_simp⟩) hHeld ?_
  change wpAnyH _ _ _ _ _ _ _ (Act.put _ (some 20) _) _
  simp only [Act.put, List.setIfInBounds_toArray, List.set_cons_zero, List.set_cons_succ]
  refine wpAnyH_take (i := 6) (oi := _) (v := .int .u8 kd) rfl (by kernel_rfl) (by kernel_rfl) (by kernel_rfl) (fun _ _ _ h => h) (Or.inl ⟨by rfl, fun V hV => by go_simp⟩) hHeld ?_
  change wpAnyH _ _ _ _ _ _ _ (Act.put _ (some 21) _) _
  simp only [Act.put, List.setIfInBounds_toArray, List.set_cons_zero, List.set_cons_succ]
  refine wpAnyH_take (i := 7) (oi := _) (v := .agg #[.int .i64 key, .string t]) rfl (by kernel_rfl) (by kernel_rfl) (by kernel_rfl) (fun _ _ _ h => h) (Or.inl ⟨by rfl, fun V hV => by (obtain ⟨q0, q1⟩ := RW.out V hV; clear hV; go_simp)⟩) hHeld ?_
  change wpAnyH _ _ _ _ _ _ _ (Act.put _ (some 22) _) _
  simp only [Act.put, List.setIfInBounds_toArray, List.set_cons_zero, List.set_cons_succ]
  refine wpAnyH_take (i := 8) (oi := _) (v := .agg #[.int .i64 nx, .int .i64 x, .string ⟨#[]⟩, .int .i64 0, .int .i64 tb, .int .u8 kd, .int .i64 key, .string t]) rfl (by kernel_rfl) (by kernel_rfl) (by kernel_rfl) (fun _ _ _ h => h) (Or.inl ⟨by rfl, fun V hV => by go_simp⟩) hHeld ?_
  change wpAnyH _ _ _ _ _ _ _ (Act.put _ (some 23) _) _
  simp only [Act.put, List.setIfInBounds_toArray, List.set_cons_zero, List.set_cons_succ]
  refine wpAnyH_ready (rs := [9]) (by kernel_rfl) (by simp) ?_
  refine AllReadyH.cons (o := _) rfl (fun K hK => ?_) AllReadyH.nil
  go_simp
  refine hK.out _ _ (((Kept.refl W1 []).drew).alloc zE8) (fun hHeld => ?_)
  clear hK K
  obtain ⟨wA, hwA⟩ : ∃ wA, wA = (W1.alloc zE8).drew := ⟨_, rfl⟩
  obtain ⟨z2, hz2⟩ : ∃ z2, z2 = W1.heap.size := ⟨_, rfl⟩
  have kA : Kept W1 wA [] := by rw [hwA]; exact ((Kept.refl W1 []).alloc zE8).drew
  have gA : wA.heap[z2]? = some (.cells #[.int .i64 0, .int .i64 0, .string ⟨#[]⟩, .int .i64 0, .int .i64 0, .int .u8 0, .int .i64 0, .string ⟨#[]⟩] 50 (0, 0)) := by rw [hwA, hz2]; exact heap_alloc_new W1 zE8
  rw [← hwA, ← hz2]
  have KA := Lib.hid kA; have GA := Lib.hid gA; have HZ2 := Lib.hid hz2
  obtain ⟨x0, x1, x2, x3, x4, x5, x6, x7⟩ := ev_cells gA
  obtain ⟨f0, f1, f2, f3, f4, f5, f6, f7⟩ := ev_frozen gA
  clear hwA hz2 kA gA
  refine wpAnyH_ready (rs := [10]) (by kernel_rfl) (by simp) ?_
  refine AllReadyH.cons (o := _) rfl (fun K hK => ?_) AllReadyH.nil
  go_simp
  refine hK.out _ (putAll wA z2 0 [.int .i64 nx, .int .i64 x, .string ⟨#[]⟩, .int .i64 0, .int .i64 tb, .int .u8 kd, .int .i64 key, .string t]) (putAll_keep KA.out (by rw [HZ2.out]; exact Nat.le_refl _) _) (fun hHeld => ?_)
  clear hK K
  refine wpAnyH_done (by kernel_rfl) ?_ _
  clear hHeld
  obtain ⟨w3, hw3⟩ : ∃ w3, w3 = putAll wA z2 0 [.int .i64 nx, .int .i64 x, .string ⟨#[]⟩, .int .i64 0, .int .i64 tb, .int .u8 kd, .int .i64 key, .string t] := ⟨_, rfl⟩
  have k3 : Kept W1 w3 [] := by rw [hw3]; exact putAll_keep KA.out (by rw [HZ2.out]; exact Nat.le_refl _) _
  have g3 : w3.heap[z2]? = some (.cells #[.int .i64 nx, .int .i64 x, .string ⟨#[]⟩, .int .i64 0, .int .i64 tb, .int .u8 kd, .int .i64 key, .string t] 50 (0, 0)) := by rw [hw3]; exact putAll_at GA.out rfl
  have HW3 := Lib.hid hw3
  rw [← hw3]
  obtain ⟨c5, fz5⟩ := (S1.out.keep k3).cells.2
  rw [← HNX.out] at c5
  have K3 := Lib.hid k3; have G3 := Lib.hid g3
  clear hw3 k3 g3 x0 x1 x2 x3 x4 x5 x6 x7 f0 f1 f2 f3 f4 f5 f6 f7
  go_upto_region 5 with fail
  obtain ⟨b, u, d, xs, kq, g, e1, e2, rfl⟩ := (S1.out.keep K3.out).ex
  obtain ⟨nx2, hnx2⟩ : ∃ n, n = wrap64 (nx + 1) := ⟨_, rfl⟩
  rw [← hnx2]
  obtain ⟨w4, hw4⟩ : ∃ w4, w4 = w3.setCell ⟨a.h, 5, none⟩ (.int .i64 nx2) := ⟨_, rfl⟩
  rw [← hw4]
  obtain ⟨k4, t4⟩ := kq.setNext (.int .i64 nx2)
  rw [← hw4] at k4 t4
  have kd4 : Kept w4 w4.drew [] := (Kept.refl w4 []).drew
  have h4 : w4.heap[a.h]? = some (.cells (kR a { d with nx := .int .i64 nx2 }) quT (0, 0)) := k4.hh
  have z4 : w4.heap[z2]? = some (.cells #[.int .i64 nx, .int .i64 x, .string ⟨#[]⟩, .int .i64 0, .int .i64 tb, .int .u8 kd, .int .i64 key, .string t] 50 (0, 0)) := by
    rw [hw4]
    exact ((Fo.refl (fun k => k = a.h) w3).setCell (p := ⟨a.h, 5, none⟩) (.inl rfl) _).heap (fun e => by have := (S.out.lt a.h (.inl rfl)).2; have := HZ2.out; have := ZW1.out; have := HZB.out; omega) G3.out
  have NF : RowKit.Hid (¬ sfoot a.hs d.V z2) := Lib.hid (fun hk => by have := (S.out.lt z2 (.inr (.inl hk))).2; have := HZ2.out; have := ZW1.out; have := HZB.out; omega)
  have S4 := Lib.hid (And.intro (kd4.heap (by simp) h4) (kd4.heap (by simp) z4))
  have CA := Lib.hid (add_any (k4.keep kd4).sp (k4.keep kd4).ds TB.out ⟨nx, x, ⟨#[]⟩, 0, tb, kd, key, t⟩)
  simp only [Ev.cs] at CA
  have K4 := Lib.hid k4; have T4 := Lib.hid t4; have KQ := Lib.hid kq; have MG := Lib.hid g; have E1 := Lib.hid e1; have KD := Lib.hid kd4; have HN2 := Lib.hid hnx2
  clear kq g e1 e2 hnx2 hw4 k4 t4 kd4 h4 z4 c5 fz5
  refine wp_region_held_drew (S := fun Z => Z.heap[a.h]? = some (.cells (kR a { d with nx := .int .i64 nx2 }) quT (0, 0)) ∧ Z.heap[z2]? = some (.cells #[.int .i64 nx, .int .i64 x, .string ⟨#[]⟩, .int .i64 0, .int .i64 tb, .int .u8 kd, .int .i64 key, .string t] 50 (0, 0))) (by kernel_rfl) S4.out (fun hHeld => ?_)
  refine wpAnyH_take (i := 0) (oi := _) (v := .pointer (some ⟨a.h, 0, none⟩)) rfl (by kernel_rfl) (by kernel_rfl) (by kernel_rfl) (fun _ _ _ h => h) (Or.inl ⟨by rfl, fun V hV => by go_simp⟩) hHeld ?_
  change wpAnyH _ _ _ _ _ _ _ (Act.put _ (some 31) _) _
  simp only [Act.put, List.setIfInBounds_toArray, List.set_cons_zero, List.set_cons_succ]
  refine wpAnyH_take (i := 1) (oi := _) (v := .pointer (some ⟨a.h, 0, none⟩)) rfl (by kernel_rfl) (by kernel_rfl) (by kernel_rfl) (fun _ _ _ h => h) (Or.inl ⟨by rfl, fun V hV => by go_simp⟩) hHeld ?_
  change wpAnyH _ _ _ _ _ _ _ (Act.put _ (some 32) _) _
  simp only [Act.put, List.setIfInBounds_toArray, List.set_cons_zero, List.set_cons_succ]
  refine wpAnyH_take (i := 2) (oi := _) (v := .pointer (some ⟨a.h, 1, none⟩)) rfl (by kernel_rfl) (by kernel_rfl) (by kernel_rfl) (fun _ _ _ h => h) (Or.inl ⟨by rfl, fun V hV => by go_simp⟩) hHeld ?_
  change wpAnyH _ _ _ _ _ _ _ (Act.put _ (some 33) _) _
  simp only [Act.put, List.setIfInBounds_toArray, List.set_cons_zero, List.set_cons_succ]
  refine wpAnyH_take (i := 3) (oi := _) (v := .pointer (some ⟨a.hs, 0, none⟩)) rfl (by kernel_rfl) (by kernel_rfl) (by kernel_rfl) (fun _ _ _ h => h) (Or.inl ⟨by rfl, fun V hV => by (obtain ⟨q0, q1, q2, q3, q4⟩ := kR_cells hV.1; clear hV; go_simp)⟩) hHeld ?_
  change wpAnyH _ _ _ _ _ _ _ (Act.put _ (some 34) _) _
  simp only [Act.put, List.setIfInBounds_toArray, List.set_cons_zero, List.set_cons_succ]
  refine wpAnyH_take (i := 4) (oi := _) (v := .agg #[.int .i64 nx, .int .i64 x, .string ⟨#[]⟩, .int .i64 0, .int .i64 tb, .int .u8 kd, .int .i64 key, .string t]) rfl (by kernel_rfl) (by kernel_rfl) (by kernel_rfl) (fun _ _ _ h => h) (Or.inl ⟨by rfl, fun V hV => by (obtain ⟨q0, q1, q2, q3, q4, q5, q6, q7⟩ := ev_cells hV.2; clear hV; go_simp)⟩) hHeld ?_
  change wpAnyH _ _ _ _ _ _ _ (Act.put _ (some 35) _) _
  simp only [Act.put, List.setIfInBounds_toArray, List.set_cons_zero, List.set_cons_succ]
  refine wpAnyH_ready (rs := [5]) (by kernel_rfl) (by simp) ?_
  refine AllReadyH.cons (o := _) rfl (fun K hK => ?_) AllReadyH.nil
  go_simp
  go_at_call 80
  refine (CA.out).mono ?_
  rintro r w5 ⟨rfl, r5⟩
  have R5 := Lib.hid r5
  have S5 : RowKit.Hid (w5.heap[a.h]? = some (.cells (kR a { d with nx := .int .i64 nx2 }) quT (0, 0)) ∧ w5.heap[z2]? = some (.cells #[.int .i64 nx, .int .i64 x, .string ⟨#[]⟩, .int .i64 0, .int .i64 tb, .int .u8 kd, .int .i64 key, .string t] 50 (0, 0))) := Lib.hid (by obtain ⟨V9, h1, h2, h3⟩ := r5; exact ⟨((K4.out.keep KD.out).ofSpools h1 h2 h3).1.hh, h3.1.heap NF.out S4.out.2⟩)
  clear r5
  go_wp2_with fail
  refine hK.out _ _ S5.out (fun hHeld => ?_)
  clear hK K
  refine wpAnyH_done (by kernel_rfl) ?_ _
  clear hHeld
  obtain ⟨V', h1, h2, h3⟩ := R5.out
  obtain ⟨k5, t5⟩ := (K4.out.keep KD.out).ofSpools h1 h2 h3
  have PP := Lib.hid (KPost.of (q := { q with l := upd q.l q.c (q.l q.c ++ [⟨nx, x, ⟨#[]⟩, 0, tb, kd, key, t⟩]), nx := nx2 }) KQ.out MG.out ⟨k5, T4.out.trans (t5.afterK KD.out)⟩ E1.out rfl)
  have g5 := S5.out.2
  have g51 := t5.1.heap (fun hk => by have := (S.out.lt (zb + 1) hk).2; have := HZB.out; omega) ((KD.out.heap (by simp) (T4.out.1.heap (fun hk => by have := (S.out.lt (zb + 1) hk).2; have := HZB.out; omega) (K3.out.heap (by simp) G1.out))))
  have G51 := Lib.hid g51
  obtain ⟨x0, x1, x2, x3, x4, x5, x6, x7⟩ := ev_cells g5
  obtain ⟨y0, y1, y2, y3, y4, y5, y6, y7⟩ := ev_cells g51
  obtain ⟨f0, f1, f2, f3, f4, f5, f6, f7⟩ := ev_frozen g51
  have NE : z2 ≠ zb + 1 := by have := HZ2.out; have := ZW1.out; omega
  clear h1 h2 h3 k5 t5 g5 g51 R5
  go_wp2
  refine bodyPost_ret (v := .agg #[.int .i64 nx, .int .i64 x, .string ⟨#[]⟩, .int .i64 0, .int .i64 tb, .int .u8 kd, .int .i64 key, .string t]) (by simp [results, Tryz.results20, go_sem, *]) rfl ?_
  have ff : Fo (fun k => k = zb + 1) w5 (putAll w5 (zb + 1) 0 [.int .i64 nx, .int .i64 x, .string ⟨#[]⟩, .int .i64 0, .int .i64 tb, .int .u8 kd, .int .i64 key, .string t]) := putAll_fo (O := fun k => k = zb + 1) _ w5 0 (Fo.refl _ w5) (.inl rfl)
  have PQ := KPost.boxed S.out K1.out (by obtain ⟨O', p1, p2⟩ := PP.out; exact ⟨O', p1, p2.afterK K3.out⟩) G51.out (by decide) (by decide) (by rw [HZB.out]; omega) (by have := ZW1.out; omega) ff
  have hnx := HNX.out
  have hn2 := HN2.out
  subst hnx
  subst hn2
  exact ⟨rfl, PQ⟩

end Go.Proofs.YticiofkiffgclaaGreat
