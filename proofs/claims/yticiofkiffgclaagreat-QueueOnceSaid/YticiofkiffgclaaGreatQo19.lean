/-
  Spd, Spe in one text.
-/
import Derived.Test.YticiofkiffgclaaGreatQo18
import Derived.Test.YticiofkiffgclaaGreatShelf2
namespace Go.Proofs.YticiofkiffgclaaGreat
set_option linter.unusedVariables false
open Go.RowKit

variable {w w' : World} {B h c : Nat} {V : Nat → Value} {l : Nat → List Ev}

theorem Stp.ofKept {O : Nat → Prop} {a b : World} (h : Kept a b []) : Stp O O a b := ⟨Fo.ofKept h O, fun _ h => .inl h⟩
theorem Stp.after {O O1 : Nat → Prop} {a b c : World} (h : Kept a b []) (k : Stp O O1 b c) : Stp O O1 a c := (Stp.ofKept h).trans k
theorem Stp.then {O O1 : Nat → Prop} {a b c : World} (h : Stp O O1 a b) (k : Kept b c []) : Stp O O1 a c := h.trans (Stp.ofKept k)

set_option maxHeartbeats 2000000 in
set_option maxRecDepth 100000 in
theorem add_any (a : Sp spT w B h V l c) (d : Dst V) (hl : (l c).length < 1000000) (e : Ev) :
    Calls Tryz.prog 80 #[.pointer (some ⟨h, 0, none⟩), .agg e.cs] w fun r w' => r = .returned (.tuple #[]) ∧ ∃ V', Sp spT w' B h V' (upd l c (l c ++ [e])) c ∧ Dst V' ∧ Stp (sfoot h V) (sfoot h V') w w' := by
  obtain ⟨z, hz⟩ : ∃ z, z = w.heap.size := ⟨_, rfl⟩
  obtain ⟨W1, hW1⟩ : ∃ W1, W1 = w.alloc (.cells e.cs 50) := ⟨_, rfl⟩
  have k1 : Kept w W1 [] := by rw [hW1]; exact (Kept.refl w []).alloc _
  have g1 : W1.heap[z]? = some (.cells e.cs 50 (0, 0)) := by rw [hW1, hz]; exact heap_alloc_new w _
  have S1 := Lib.hid (((Kept.refl W1 []).drew).heap (by simp) g1)
  have CU := Lib.hid (cur_any (a.keep k1.drew))
  have CA := Lib.hid (addto_any (a.keep k1.drew) d c a.c3 hl e)
  have ZF := Lib.hid (show ¬ sfoot h V z from fun hk => by have := (a.lt z hk).2; omega)
  have K1 := Lib.hid k1.drew; have HW1 := Lib.hid hW1; have HZ := Lib.hid hz
  rcases e with ⟨b0, b1, b2, b3, b4, b5, b6, b7⟩
  have G1 := Lib.hid g1
  clear a d k1 g1 hl
  simp only [Ev.cs] at *
  go_enter Tryz.func80, Tryz.ntmps80
  go_wp2_with fail
  rw [← HW1.out, ← HZ.out]
  clear hW1 hz
  refine wp_region_held_drew (S := fun V => V.heap[z]? = some (.cells #[.int .i64 b0, .int .i64 b1, .string b2, .int .i64 b3, .int .i64 b4, .int .u8 b5, .int .i64 b6, .string b7] 50 (0, 0))) (by kernel_rfl) S1.out (fun hHeld => ?_)
  refine wpAnyH_take (i := 0) (oi := _) (v := .pointer (some ⟨h, 0, none⟩)) rfl (by kernel_rfl) (by kernel_rfl) (by kernel_rfl) (fun _ _ _ h => h) (Or.inl ⟨by rfl, fun V hV => by go_simp⟩) hHeld ?_
  change wpAnyH _ _ _ _ _ _ _ (Act.put _ (some 4) _) _
  simp only [Act.put, List.setIfInBounds_toArray, List.set_cons_zero, List.set_cons_succ]
  refine wpAnyH_take (i := 1) (oi := _) (v := .pointer (some ⟨h, 0, none⟩)) rfl (by kernel_rfl) (by kernel_rfl) (by kernel_rfl) (fun _ _ _ h => h) (Or.inl ⟨by rfl, fun V hV => by go_simp⟩) hHeld ?_
  change wpAnyH _ _ _ _ _ _ _ (Act.put _ (some 5) _) _
  simp only [Act.put, List.setIfInBounds_toArray, List.set_cons_zero, List.set_cons_succ]
  refine wpAnyH_take (i := 3) (oi := _) (v := .agg #[.int .i64 b0, .int .i64 b1, .string b2, .int .i64 b3, .int .i64 b4, .int .u8 b5, .int .i64 b6, .string b7]) rfl (by kernel_rfl) (by kernel_rfl) (by kernel_rfl) (fun _ _ _ h => h) (Or.inl ⟨by rfl, fun V hV => by (obtain ⟨q0, q1, q2, q3, q4, q5, q6, q7⟩ := ev_cells hV; clear hV; go_simp)⟩) hHeld ?_
  change wpAnyH _ _ _ _ _ _ _ (Act.put _ (some 7) _) _
  simp only [Act.put, List.setIfInBounds_toArray, List.set_cons_zero, List.set_cons_succ]
  refine wpAnyH_ready (rs := [2]) (by kernel_rfl) (by simp) ?_
  refine AllReadyH.cons (o := _) rfl (fun K hK => ?_) AllReadyH.nil
  go_simp
  go_at_call 72
  refine CU.out.mono ?_
  rintro e w2 ⟨rfl, rfl⟩
  go_wp2_with fail
  refine hK.out _ _ S1.out (fun hHeld => ?_)
  clear hK K
  refine wpAnyH_ready (rs := [4]) (by kernel_rfl) (by simp) ?_
  refine AllReadyH.cons (o := _) rfl (fun K hK => ?_) AllReadyH.nil
  go_simp
  go_at_call 136
  refine CA.out.mono ?_
  rintro e w2 ⟨rfl, V2, r9, d9, p9⟩
  have R9 := Lib.hid r9; have D9 := Lib.hid d9; have P9 := Lib.hid p9
  clear r9 d9 p9
  go_wp2_with fail
  refine hK.out _ _ ?_ (fun hHeld => ?_)
  · exact P9.out.1.heap ZF.out S1.out
  · clear hK K
    refine wpAnyH_done (by kernel_rfl) ?_ _
    go_wp2
    exact bodyPost_end (results_none rfl _ _ _) rfl ⟨rfl, V2, R9.out, D9.out, P9.out.after K1.out⟩

set_option maxHeartbeats 1000000 in
set_option maxRecDepth 100000 in
theorem eclone_any (v : Value) (m : List Ev) (w : World) (h : RdE w v m) (hl : m.length ≤ 10000000) :
    Calls Tryz.prog 197 #[v] w fun e w' => ∃ v', e = .returned v' ∧ OwnE w' w.heap.size 50 v' m ∧ Kept w w' [] := by
  obtain ⟨i0, hi, hz0, hz1, hz2⟩ := info_parts Tryz.infoEv_g6
  obtain ⟨a, c, rfl, hc, ha, hcell⟩ := id h
  have H := Lib.hid h; clear h hcell
  have q22 : ∀ (w : World) (a : Option Addr) (n c n' c' : Nat), (binOp .eql 57 (.slice a n c) (.slice none n' c')).run Tryz.prog w = .ok (.bool a.isNone) w := fun w a n c n' c' => Lib.run_eql_slice_nil w _ _ a n c n' c' Tryz.underlying57
  cases a with
  | none =>
    obtain rfl := ha rfl
    obtain rfl : m = [] := List.eq_nil_of_length_eq_zero (by omega)
    clear ha
    go_enter Tryz.func197, Tryz.ntmps197
    go_wp2
    go_ret
    exact ⟨_, rfl, OwnE.nil _ _ _, Kept.refl _ _⟩
  | some x =>
    clear ha
    go_enter Tryz.func197, Tryz.ntmps197
    go_wp2_with (at_builtin; refine wpList_append_src _ rfl (.tmp 5) (.tmp 6) 57 57 rfl w.heap.size 50 i0 _ 8 80 Tryz.underlying57 hi hz0 hz1 hz2 rfl (.slice (some ⟨w.heap.size, 0, none⟩) 0 0) 0 [] rfl ?hown (.slice (some x) m.length c) m.length (ecs m) rfl ?src ?b1 ?b2 ?base ?next)
    case hown => exact World.ownsRow_made w #[] 0 (Nat.le_refl _) (Nat.zero_le _) (by simp)
    case src => exact (H.out.kept ((Kept.refl w []).alloc _) (by simp)).src Tryz.underlying57
    case b1 => unfold maxLen; omega
    case b2 => omega
    case base => simp
    case next =>
      intro v2 w2 hown hgrow _ _
      have ho : OwnE w2 w.heap.size 50 v2 m := by unfold OwnE; simpa using hown
      have hk : Kept w w2 [] := ((Kept.refl w []).alloc _).grown hgrow (fun k hk => .inr (by simp [Value.ownBlock] at hk; omega))
      have Ho := Lib.hid ho; have Hk := Lib.hid hk
      clear ho hk hown hgrow
      go_wp2
      go_ret
      exact ⟨_, rfl, Ho.out, Hk.out⟩

set_option maxHeartbeats 1000000 in
theorem list_any (a : Sp spT w B h V l c) (i : Nat) (hi : i < 3) (hl : (l i).length ≤ 10000000) :
    Calls Tryz.prog 167 #[.pointer (some ⟨h, 0, none⟩), .int .i64 i] w fun e w' => ∃ v', e = .returned v' ∧ OwnE w' w.heap.size 50 v' (l i) ∧ Kept w w' [] := by
  obtain ⟨u, n, e⟩ := a.shape i hi
  have ci := (a.cell i hi).1
  have HC := Lib.hid (eclone_any (V i) (l i) w (a.own i hi).rd hl)
  rw [e] at ci HC
  have hh : isT (i : Int) = true := by unfold isT; rw [decide_eq_true]; omega
  have HH := Lib.hid (has_any_g6 h i w)
  rw [hh] at HH
  clear a e hh
  go_enter Tryz.func167, Tryz.ntmps167
  go_wp2_with fail
  refine HH.out.mono ?_
  rintro e w' ⟨rfl, rfl⟩
  go_wp2_with fail
  refine HC.out.mono ?_
  rintro e w2 ⟨v', rfl, ho, hk⟩
  have Ho := Lib.hid ho; have Hk := Lib.hid hk
  clear ho hk
  go_wp2
  go_ret
  exact ⟨_, rfl, Ho.out, Hk.out⟩

set_option maxHeartbeats 1000000 in
theorem nextl_any (a : Sp spT w B h V l c) (hl : (l (nxt c)).length ≤ 10000000) :
    Calls Tryz.prog 109 #[.pointer (some ⟨h, 0, none⟩)] w fun e w' => ∃ v', e = .returned v' ∧ OwnE w' w.heap.size 50 v' (l (nxt c)) ∧ Kept w w' [] := by
  have HN := Lib.hid (next_any a)
  have HL := Lib.hid (list_any a (nxt c) (nxt_lt c) hl)
  clear a hl
  generalize nxt c = d at *
  go_enter Tryz.func109, Tryz.ntmps109
  go_wp2_with fail
  refine HN.out.mono ?_
  rintro e w' ⟨rfl, rfl⟩
  go_wp2_with fail
  refine HL.out.mono ?_
  rintro e w2 ⟨v', rfl, ho, hk⟩
  have Ho := Lib.hid ho; have Hk := Lib.hid hk
  clear ho hk
  go_wp2
  go_ret
  exact ⟨_, rfl, Ho.out, Hk.out⟩

end Go.Proofs.YticiofkiffgclaaGreat

namespace Go.Proofs.YticiofkiffgclaaGreat
set_option linter.unusedVariables false
open Go.RowKit

variable {w w' : World} {B h c : Nat} {V : Nat → Value} {l : Nat → List Ev}

theorem grow_any (n : Nat) (hn : n ≤ 10000000) (w : World) : Calls Tryz.prog 144 #[.slice none 0 0, .int .i64 n] w fun e w' => ∃ v', e = .returned v' ∧ OwnE w' w.heap.size 50 v' [] ∧ Kept w w' [] := by
  by_cases h0 : n = 0
  · subst h0
    exact (Any8.slices_Grow_room Tryz.growE none 0 0 0 w (by omega) (by omega) (by omega) (by omega)).mono (fun e w' ⟨h1, h2⟩ => ⟨_, h1, OwnE.nil _ _ _, by rw [h2]; exact Kept.refl _ _⟩)
  · obtain ⟨i0, hi, hz0, hz1, hz2⟩ := info_parts Tryz.infoEv_g6
    refine (Any8.slices_Grow_grow Tryz.growE i0 _ hi hz0 (by omega) none 0 0 n [] w (by omega) (by omega) (by rw [hz2]; omega) (by omega) (by simp) (fun _ => rfl) (by simp)).mono ?_
    rintro e w' ⟨rfl, rfl⟩
    have hge := grownCap_ge w (0 + n) 0 50
    have hle := grownCap_le_maxLen w (0 + n) 0 50 (by unfold maxLen; omega)
    have hge : n ≤ grownCap w (0 + n) 0 50 := by omega
    refine ⟨_, rfl, ⟨by simp [ecs], .inr ⟨w.heap.size, _, _, rfl, Nat.le_refl _, heap_alloc_new w.drew _, Nat.zero_le _, hle, ?_, by simp [ecs]⟩⟩, ((Kept.refl w []).drew).alloc _⟩
    change _ = grownCap w (0 + n) 0 50 * 8
    have e1 : grownCap w (0 + n) 0 (Shelf.Ren.t Tryz.growE_ren 25) = grownCap w (0 + n) 0 50 := rfl
    rw [e1]
    generalize grownCap w (0 + n) 0 50 = G at *
    simp [size_zeroCells, Value.cells]
    omega

def pre (l : Nat → List Ev) : Nat → List Ev
  | 0 => []
  | k + 1 => pre l k ++ l k

theorem pre_length (l : Nat → List Ev) (hl : ∀ i, i < 3 → (l i).length < 1000000) (k : Nat) (hk : k ≤ 3) : (pre l k).length ≤ k * 1000000 := by
  induction k with
  | zero => simp [pre]
  | succ k ih =>
    have := hl k (by omega)
    have := ih (by omega)
    rw [pre, List.length_append]
    omega

set_option maxHeartbeats 4000000 in
set_option maxRecDepth 100000 in
theorem concat_any (a : Sp spT w B h V l c) (hl : ∀ i, i < 3 → (l i).length < 1000000) :
    Calls Tryz.prog 86 #[.slice (some ⟨h, 0, none⟩) 3 3] w fun e w' => ∃ v', e = .returned v' ∧ OwnE w' w.heap.size 50 v' (pre l 3) ∧ Kept w w' [] := by
  have c0 := (a.cell 0 (by omega)).1
  have c1 := (a.cell 1 (by omega)).1
  have c2 := (a.cell 2 (by omega)).1
  obtain ⟨u0, n0, e0⟩ := a.shape 0 (by omega)
  obtain ⟨u1, n1, e1⟩ := a.shape 1 (by omega)
  obtain ⟨u2, n2, e2⟩ := a.shape 2 (by omega)
  rw [e0] at c0
  rw [e1] at c1
  rw [e2] at c2
  have h0 := hl 0 (by omega); have h1 := hl 1 (by omega); have h2 := hl 2 (by omega)
  obtain ⟨i0, hi, hz0, hz1, hz2⟩ := info_parts Tryz.infoEv_g6
  have I := Lib.hid (And.intro hi (And.intro hz0 (And.intro hz1 hz2)))
  have A := Lib.hid a
  have HL := Lib.hid (pre_length l hl)
  have R0 := Lib.hid (fun W (hk : Kept w W []) => (show RdE W (.slice u0 (l 0).length n0) (l 0) from by have := ((A.out.keep hk).own 0 (by omega)).rd; rwa [e0] at this))
  have R1 := Lib.hid (fun W (hk : Kept w W []) => (show RdE W (.slice u1 (l 1).length n1) (l 1) from by have := ((A.out.keep hk).own 1 (by omega)).rd; rwa [e1] at this))
  have R2 := Lib.hid (fun W (hk : Kept w W []) => (show RdE W (.slice u2 (l 2).length n2) (l 2) from by have := ((A.out.keep hk).own 2 (by omega)).rd; rwa [e2] at this))
  have C0 := Lib.hid (fun W (hk : Kept w W []) => (show W.cell? ⟨h, 0, none⟩ = some (.slice u0 (l 0).length n0) from by have := ((A.out.keep hk).cell 0 (by omega)).1; rwa [e0] at this))
  have C1 := Lib.hid (fun W (hk : Kept w W []) => (show W.cell? ⟨h, 1, none⟩ = some (.slice u1 (l 1).length n1) from by have := ((A.out.keep hk).cell 1 (by omega)).1; rwa [e1] at this))
  have C2 := Lib.hid (fun W (hk : Kept w W []) => (show W.cell? ⟨h, 2, none⟩ = some (.slice u2 (l 2).length n2) from by have := ((A.out.keep hk).cell 2 (by omega)).1; rwa [e2] at this))
  clear a hl e0 e1 e2 hi hz0 hz1 hz2
  obtain ⟨m0, hm0⟩ : ∃ m, m = (l 0).length := ⟨_, rfl⟩
  obtain ⟨m1, hm1⟩ : ∃ m, m = (l 1).length := ⟨_, rfl⟩
  obtain ⟨m2, hm2⟩ : ∃ m, m = (l 2).length := ⟨_, rfl⟩
  rw [← hm0] at h0 c0 R0 C0
  rw [← hm1] at h1 c1 R1 C1
  rw [← hm2] at h2 c2 R2 C2
  have HM := Lib.hid (And.intro hm0 (And.intro hm1 hm2))
  clear hm0 hm1 hm2
  go_enter Tryz.func86, Tryz.ntmps86
  go_wp2
  go_loopg [11, 3, 5] 3 (fun kx s11 s3 _ wr => ∃ k n : Nat, s11 = .int .i64 k ∧ s3 = .int .i64 n ∧ 3 - k ≤ kx ∧ w = wr ∧ (k = 0 ∧ n = 0 ∨ k = 1 ∧ n = m0 ∨ k = 2 ∧ n = m0 + m1 ∨ k = 3 ∧ n = m0 + m1 + m2))
  case atStart => exact ⟨0, 0, rfl, rfl, by omega, rfl, by omega⟩
  case round =>
    obtain ⟨k, n, rfl, rfl, hk, rfl, ⟨rfl, rfl⟩ | ⟨rfl, rfl⟩ | ⟨rfl, rfl⟩ | ⟨rfl, rfl⟩⟩ := hrel
    · go_wp2
      go_roundg 2
      case measure => omega
      case rel => exact ⟨1, m0, by go_num, by go_num, by omega, rfl, by omega⟩
    · go_wp2
      go_roundg 1
      case measure => omega
      case rel => exact ⟨2, n + m1, by go_num, by go_num, by omega, rfl, by omega⟩
    · go_wp2
      go_roundg 0
      case measure => omega
      case rel => exact ⟨3, m0 + m1 + m2, by go_num, by go_num, by omega, rfl, by omega⟩
    · clear c0 c1 c2
      obtain ⟨N, hN⟩ : ∃ N, N = m0 + m1 + m2 := ⟨_, rfl⟩
      have HG := Lib.hid (grow_any N (by omega) w)
      rw [← hN]
      clear hN
      go_wp2_with (go_at_call 144; refine HG.out.mono ?_; rintro e w1 ⟨v1, rfl, o1, k1⟩)
      have O1 := Lib.hid o1; have K1 := Lib.hid k1
      clear o1 k1 HG
      go_wp2
      go_loopg [27, 6, 8] 3 (fun kx s27 s6 _ wr => ∃ (k : Nat) (v : Value), s27 = .int .i64 k ∧ s6 = v ∧ k ≤ 3 ∧ 3 - k ≤ kx ∧ RowKit.Hid (OwnE wr w.heap.size 50 v (pre l k) ∧ Kept w wr []))
      case atStart => exact ⟨0, v1, rfl, rfl, by omega, by omega, O1.out, K1.out⟩
      case round =>
        clear O1 K1
        obtain ⟨k, v, rfl, rfl, hk3, hkx, HO⟩ := hrel
        have hk4 : k = 0 ∨ k = 1 ∨ k = 2 ∨ k = 3 := by omega
        obtain ⟨n, hn⟩ : ∃ n, n = (pre l k).length := ⟨_, rfl⟩
        have hn3 : n ≤ 3000000 := by have := HL.out k hk3; omega
        have HN := Lib.hid hn
        clear hn
        have hbr : w.heap.size ≤ wr.heap.size := HO.out.2.size
        rcases hk4 with rfl | rfl | rfl | rfl
        · have cc := C0.out _ HO.out.2
          go_wp2_with (at_builtin; refine wpList_append_src _ rfl (.tmp 31) (.tmp 32) 57 57 rfl w.heap.size 50 i0 _ 8 80 Tryz.underlying57 I.out.1 I.out.2.1 I.out.2.2.1 I.out.2.2.2 rfl _ n (ecs (pre l 0)) rfl ?hown _ m0 (ecs (l 0)) rfl ?src ?b1 ?b2 ?base ?next)
          case hown => have := HO.out.1; unfold OwnE at this; rw [← HN.out] at this; exact this
          case src => have := (R0.out _ HO.out.2).src (P := Tryz.prog) Tryz.underlying57; rw [← HM.out.1] at this; exact this
          case b1 => unfold maxLen; omega
          case b2 => omega
          case base => exact hbr
          case next =>
            intro v2 w3 hown hgrow _ _
            have ho : OwnE w3 w.heap.size 50 v2 (pre l (0 + 1)) := by unfold OwnE; rw [pre, ecs_append, List.length_append, ← HN.out, ← HM.out.1]; exact hown
            have hk : Kept w w3 [] := HO.out.2.grown hgrow (fun k hk => .inr (HO.out.1.lt k hk).1)
            have Ho := Lib.hid (And.intro ho hk)
            clear ho hk hown hgrow cc HO
            go_wp2
            go_roundg 2
            case measure => omega
            case rel => exact ⟨0 + 1, v2, by go_num, rfl, by omega, by omega, Ho⟩
        · have cc := C1.out _ HO.out.2
          go_wp2_with (at_builtin; refine wpList_append_src _ rfl (.tmp 31) (.tmp 32) 57 57 rfl w.heap.size 50 i0 _ 8 80 Tryz.underlying57 I.out.1 I.out.2.1 I.out.2.2.1 I.out.2.2.2 rfl _ n (ecs (pre l 1)) rfl ?hown _ m1 (ecs (l 1)) rfl ?src ?b1 ?b2 ?base ?next)
          case hown => have := HO.out.1; unfold OwnE at this; rw [← HN.out] at this; exact this
          case src => have := (R1.out _ HO.out.2).src (P := Tryz.prog) Tryz.underlying57; rw [← HM.out.2.1] at this; exact this
          case b1 => unfold maxLen; omega
          case b2 => omega
          case base => exact hbr
          case next =>
            intro v2 w3 hown hgrow _ _
            have ho : OwnE w3 w.heap.size 50 v2 (pre l (1 + 1)) := by unfold OwnE; rw [pre, ecs_append, List.length_append, ← HN.out, ← HM.out.2.1]; exact hown
            have hk : Kept w w3 [] := HO.out.2.grown hgrow (fun k hk => .inr (HO.out.1.lt k hk).1)
            have Ho := Lib.hid (And.intro ho hk)
            clear ho hk hown hgrow cc HO
            go_wp2
            go_roundg 1
            case measure => omega
            case rel => exact ⟨1 + 1, v2, by go_num, rfl, by omega, by omega, Ho⟩
        · have cc := C2.out _ HO.out.2
          go_wp2_with (at_builtin; refine wpList_append_src _ rfl (.tmp 31) (.tmp 32) 57 57 rfl w.heap.size 50 i0 _ 8 80 Tryz.underlying57 I.out.1 I.out.2.1 I.out.2.2.1 I.out.2.2.2 rfl _ n (ecs (pre l 2)) rfl ?hown _ m2 (ecs (l 2)) rfl ?src ?b1 ?b2 ?base ?next)
          case hown => have := HO.out.1; unfold OwnE at this; rw [← HN.out] at this; exact this
          case src => have := (R2.out _ HO.out.2).src (P := Tryz.prog) Tryz.underlying57; rw [← HM.out.2.2] at this; exact this
          case b1 => unfold maxLen; omega
          case b2 => omega
          case base => exact hbr
          case next =>
            intro v2 w3 hown hgrow _ _
            have ho : OwnE w3 w.heap.size 50 v2 (pre l (2 + 1)) := by unfold OwnE; rw [pre, ecs_append, List.length_append, ← HN.out, ← HM.out.2.2]; exact hown
            have hk : Kept w w3 [] := HO.out.2.grown hgrow (fun k hk => .inr (HO.out.1.lt k hk).1)
            have Ho := Lib.hid (And.intro ho hk)
            clear ho hk hown hgrow cc HO
            go_wp2
            go_roundg 0
            case measure => omega
            case rel => exact ⟨2 + 1, v2, by go_num, rfl, by omega, by omega, Ho⟩
        · obtain ⟨ho, hk⟩ := HO.out
          have Ho := Lib.hid ho; have Hk := Lib.hid hk
          clear ho hk HO hn3
          go_wp2
          go_ret
          exact ⟨_, rfl, Ho.out, Hk.out⟩

set_option maxHeartbeats 2000000 in
theorem all_any (a : Sp spT w B h V l c) (hl : ∀ i, i < 3 → (l i).length < 1000000) :
    Calls Tryz.prog 27 #[.pointer (some ⟨h, 0, none⟩)] w fun e w' => ∃ v', e = .returned v' ∧ OwnE w' w.heap.size 50 v' (srt byId (pre l 3)) ∧ Kept w w' [] := by
  have HC := Lib.hid (concat_any a hl)
  have HL : RowKit.Hid ((pre l 3).length < 1152921504606846976) := Lib.hid (by have := pre_length l hl 3 (by omega); omega)
  clear a hl
  go_enter Tryz.func27, Tryz.ntmps27
  go_wp2_with fail
  refine HC.out.mono ?_
  rintro e w1 ⟨v1, rfl, o1, k1⟩
  have HS := Lib.hid (sort_any o1 HL.out)
  have O1 := Lib.hid o1; have K1 := Lib.hid k1
  clear o1 k1
  go_wp2_with fail
  refine HS.out.mono ?_
  rintro e w2 ⟨rfl, o2, f2⟩
  have O2 := Lib.hid o2; have F2 := Lib.hid f2
  clear o2 f2
  go_wp2
  go_ret
  refine ⟨_, rfl, O2.out, ?_⟩
  have f := F2.out
  have k := K1.out
  exact ⟨f.os.trans k.os, f.tape.trans k.tape, f.output.trans k.output, Nat.le_trans k.size f.size, fun i hi hn => (f.block i (Nat.lt_of_lt_of_le hi k.size) (fun e => by have := (O1.out.lt i e).1; omega)).trans (k.block i hi hn)⟩

end Go.Proofs.YticiofkiffgclaaGreat
