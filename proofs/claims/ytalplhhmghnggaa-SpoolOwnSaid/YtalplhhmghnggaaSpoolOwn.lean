/-
  Proved: whatever the arguments are, carrierlaw10.SpoolOwn answers true and leaves its arguments as they were. No condition.
-/
import Derived.Test.YtalplhhmghnggaaSpj
namespace Go.Proofs.Ytalplhhmghnggaa.spoolOwn
open Go.ChangeShapes Go.WideShapes Go.ChangeAt Go.RowKit
set_option linter.unusedVariables false

theorem own : ownKnob Try.prog.godebug = none := by kernel_rfl
theorem laidOut : laidOutB Try.prog = true := by kernel_rfl

set_option maxHeartbeats 1000000 in
theorem more_nil (W : World) : Calls Try.prog 37 #[.int .u32 0, .slice none 0 0] W fun e w' => e = .returned (.int .u32 0) ∧ w' = W := by
  go_enter Try.func37, Try.ntmps37
  go_wp2
  go_loopg [5, 6, 7, 8, 9] 0 (fun kx s5 s6 _ _ _ wr => s5 = .int .u32 4294967295 ∧ s6 = .int .i64 0 ∧ wr = W)
  case atStart => exact ⟨rfl, rfl, rfl⟩
  case round =>
    obtain ⟨rfl, rfl, rfl⟩ := hrel
    go_wp2
    go_ret
    exact ⟨rfl, rfl⟩
set_option maxHeartbeats 1000000 in
theorem of_nil (W : World) : Calls Try.prog 26 #[.slice none 0 0] W fun e w' => e = .returned (.int .u32 0) ∧ w' = W := by
  go_enter Try.func26, Try.ntmps26
  go_wp2_with fail
  refine (more_nil _).mono ?_
  rintro e w' ⟨rfl, rfl⟩
  go_wp2
  go_ret
  exact ⟨rfl, rfl⟩

/-- So many events, by their numbers, in table 1. -/
def evs (k : Nat) : List Ev := (List.range k).map fun i : Nat => eI ((i : Int) + 1)
theorem evs_length (k : Nat) : (evs k).length = k := by simp [evs]
theorem evs_succ (k : Nat) : evs (k + 1) = evs k ++ [eI ((k : Int) + 1)] := by simp [evs, List.range_succ]
theorem evs_upd (k : Nat) : upd (upd noE 1 (evs k)) 1 (upd noE 1 (evs k) 1 ++ [eI ((k : Int) + 1)]) = upd noE 1 (evs (k + 1)) := by
  funext j
  by_cases h : j = 1
  · subst h; rw [upd_same, upd_same, upd_same, evs_succ]
  · rw [upd_ne _ _ h, upd_ne _ _ h, upd_ne _ _ h]
theorem upd_e0 (i : Nat) : upd noE 1 (evs 0) i = [] := by
  by_cases h : i = 1
  · subst h; rw [upd_same]; rfl
  · rw [upd_ne _ _ h]; rfl
theorem evs_lt {k : Nat} (h : k < 100) : ∀ i, i < 3 → (upd noE 1 (evs k) i).length < 1000000 := by
  intro i hi
  by_cases h : i = 1
  · subst h; rw [upd_same, evs_length]; omega
  · rw [upd_ne _ _ h]; simp [noE]
theorem evs_pre (k : Nat) : (srt byId (pre (upd noE 1 (evs k)) 3)).length = k := by rw [srt_length]; simp [pre, upd, noE, evs_length]

/-- A row of so many events, whatever they are. -/
def RowW (w : World) (g m : Nat) : Prop := ∃ cur, w.heap[g]? = some (.cells cur 36 (0, 0)) ∧ m * 8 ≤ cur.size
theorem RowW.of {w : World} {B g n c m : Nat} {l : List Ev} (h : OwnE w B 36 (.slice (some ⟨g, 0, none⟩) n c) l) (hm : l.length = m) : RowW w g m := by
  rcases h.2 with ⟨h0, _⟩ | ⟨g', cap', cur, h0, hbg, hg, hnc, hcm, hcs, htk⟩
  · cases h0
  simp only [Value.slice.injEq, Option.some.injEq, Addr.mk.injEq] at h0
  obtain ⟨⟨rfl, _⟩, _, rfl⟩ := h0
  exact ⟨cur, hg, by omega⟩
theorem RowW.set {w : World} {g m b o : Nat} (h : RowW w g m) (u : Value) : RowW (w.setCell ⟨b, o, none⟩ u) g m := by
  obtain ⟨cur, hg, hm⟩ := h
  by_cases e : b = g
  · subst e
    exact ⟨_, heap_setCell_at hg o u, by simpa using hm⟩
  · exact ⟨cur, (Fo.setCell (O := fun k => k = b) (Fo.refl _ w) (p := ⟨b, o, none⟩) (.inl rfl) u).heap (fun h => e h.symm) hg, hm⟩
theorem RowW.kept {w w' : World} {g m : Nat} (h : RowW w g m) (k : Kept w w' []) : RowW w' g m := by
  obtain ⟨cur, hg, hm⟩ := h
  exact ⟨cur, k.heap (by simp) hg, hm⟩
theorem RowW.cell {w : World} {g m : Nat} (h : RowW w g m) {i : Nat} (hi : i < m) : (∃ u, w.cell? ⟨g, i * 8, none⟩ = some u) ∧ w.frozen? ⟨g, i * 8, none⟩ = false := by
  obtain ⟨cur, hg, hm⟩ := h
  exact ⟨⟨cur[i * 8]'(by omega), by rw [cell_of_row _ _ _ _ _ _ hg, Array.getElem?_eq_getElem (by omega)]⟩, frozen_of_row _ _ _ _ _ hg⟩

/-- Three rows that may be written over. -/
structure Rows3 (w0 w : World) (g1 g2 g3 m : Nat) : Prop where
  r1 : RowW w g1 m
  r2 : RowW w g2 m
  r3 : RowW w g3 m
  fo : Fo (fun k => k = g1 ∨ k = g2 ∨ k = g3) w0 w
theorem Rows3.set {w0 w : World} {g1 g2 g3 m b o : Nat} (h : Rows3 w0 w g1 g2 g3 m) (hb : b = g1 ∨ b = g2 ∨ b = g3) (u : Value) : Rows3 w0 (w.setCell ⟨b, o, none⟩ u) g1 g2 g3 m :=
  ⟨h.r1.set u, h.r2.set u, h.r3.set u, h.fo.setCell (p := ⟨b, o, none⟩) (.inl hb) u⟩
theorem Rows3.at {w0 w : World} {g1 g2 g3 m b : Nat} (h : Rows3 w0 w g1 g2 g3 m) (hb : b = g1 ∨ b = g2 ∨ b = g3) : RowW w b m := by
  rcases hb with rfl | rfl | rfl
  · exact h.r1
  · exact h.r2
  · exact h.r3

theorem someE {w : World} {B k : Nat} {v : Value} {l : List Ev} (h : OwnE w B 36 v l) (hl : l.length = k) (hk : 0 < k) : ∃ g c, v = .slice (some ⟨g, 0, none⟩) k c ∧ B ≤ g ∧ g < w.heap.size := by
  have hlt := h.lt
  rcases h.2 with ⟨_, h0⟩ | ⟨g, cap, cur, h0, hbg, hg, hnc, hcm, hcs, htk⟩
  · omega
  · subst h0
    exact ⟨g, cap, by rw [hl], hbg, (hlt g rfl).2⟩

set_option maxHeartbeats 8000000 in
set_option maxRecDepth 100000 in
theorem walk (a0 a1 : Int) (w0 : (Lit.int .u8 a0).wf = true) (w1 : (Lit.int .i64 a1).wf = true) (W : World) :
    Calls Try.prog 7 #[.int .u8 a0, .int .i64 a1] W fun e w' => e = .returned (.bool true) ∧ Below W.heap.size W w' := by
  have B0 := bounds_u8 w0
  obtain ⟨n, hn⟩ : ∃ n : Nat, a0.tmod 5 = n := ⟨(a0.tmod 5).toNat, by have := Int.tmod_nonneg 5 B0.1; omega⟩
  have hn9 : n < 5 := by have := Int.tmod_lt_of_pos a0 (show (0 : Int) < 5 by omega); omega
  clear w0 w1 B0
  obtain ⟨k, hk⟩ : ∃ k, k = n + 1 := ⟨_, rfl⟩
  have xk : 1 + (n : Int) = (k : Int) := by omega
  have hk0 : 0 < k := by omega
  have hk9 : k < 10 := by omega
  clear hk
  go_enter Try.func7, Try.ntmps7
  go_wp2_with fail
  refine (turns_any W).mono ?_
  rintro e w1 ⟨rfl, k1⟩
  have K1 := Lib.hid k1; clear k1
  go_wp2_with fail
  refine (new_any w1).mono ?_
  rintro e w2 ⟨h, rfl, a2, k2⟩
  have K2 := Lib.hid (K1.out.trans k2 (by simp))
  have HB : RowKit.Hid (W.heap.size ≤ w1.heap.size) := Lib.hid K1.out.size
  have A2 := Lib.hid (show Sp spT w2 w1.heap.size h noV (upd noE 1 (evs 0)) 0 from a2.congr (fun i _ => (upd_e0 i).symm))
  clear a2 k2
  go_wp2
  go_loopg [6] k (fun kx s7 wr => ∃ (i : Nat) (V : Nat → Value), s7 = .int .i64 i ∧ i ≤ k ∧ k - i ≤ kx ∧ RowKit.Hid (Sp spT wr w1.heap.size h V (upd noE 1 (evs i)) 0 ∧ Dst V ∧ Kept W wr []))
  case atStart => exact ⟨0, noV, rfl, by omega, by omega, A2.out, dst_no, K2.out⟩
  case round =>
    clear A2 K2
    obtain ⟨i, V, rfl, hik, hkx, HS⟩ := hrel
    obtain ⟨p1, p2, p3⟩ := HS.out
    by_cases hlt : i < k
    · have x1 : (i : Int) < (k : Int) := by omega
      have hc := addto_any p1 p2 1 (by omega) (evs_lt (by omega) 1 (by omega)) (eI ((i : Int) + 1))
      rw [evs_upd] at hc
      simp only [eI, Ev.cs] at hc
      have HC := Lib.hid hc; have P1 := Lib.hid p1; have P3 := Lib.hid p3
      clear p1 p2 p3 hc HS
      go_wp2_with fail
      refine HC.out.mono ?_
      rintro e w3 ⟨rfl, V3, q1, q2, q3⟩
      have Q := Lib.hid (And.intro q1 (And.intro q2 (P3.out.sp P1.out HB.out q3)))
      clear q1 q2 q3 HC P1 P3
      go_wp2
      go_roundg (k - (i + 1))
      case measure => omega
      case rel => exact ⟨i + 1, V3, by go_num, by omega, by omega, Q⟩
    · have x1 : ¬ (i : Int) < (k : Int) := by omega
      obtain rfl : i = k := by omega
      have hc := list_any p1 1 (by omega) (by have := evs_lt (k := i) (by omega) 1 (by omega); omega)
      have HC := Lib.hid hc; have P1 := Lib.hid p1; have P2 := Lib.hid p2; have P3 := Lib.hid p3
      clear p1 p2 p3 hc HS
      go_wp2_with fail
      refine HC.out.mono ?_
      rintro e w3 ⟨v1, rfl, o1, k3⟩
      have hl1 : (upd noE 1 (evs i) 1).length = i := by rw [upd_same]; exact evs_length i
      obtain ⟨g1, c1, rfl, b1, l1⟩ := someE o1 hl1 hk0
      have R1 := Lib.hid (RowW.of o1 hl1)
      have K3 := Lib.hid k3
      have hc := all_any (P1.out.keep k3) (evs_lt (by omega))
      have HC1 := Lib.hid hc
      clear o1 k3 hc HC
      go_wp2_with fail
      refine HC1.out.mono ?_
      rintro e w4 ⟨v2, rfl, o2, k4⟩
      obtain ⟨g2, c2, rfl, b2, l2⟩ := someE o2 (evs_pre i) hk0
      have R2 := Lib.hid (RowW.of o2 (evs_pre i))
      have R1 := Lib.hid (R1.out.kept k4)
      have K4 := Lib.hid (K3.out.trans k4 (by simp))
      have s34 := k4.size
      have hc := nextl_any (P1.out.keep K4.out) (by have := evs_lt (k := i) (by omega) 1 (by omega); show (upd noE 1 (evs i) 1).length ≤ _; omega)
      have HC2 := Lib.hid hc
      clear o2 k4 hc HC1
      go_wp2_with fail
      refine HC2.out.mono ?_
      rintro e w5 ⟨v3, rfl, o3, k5⟩
      have hl3 : (upd noE 1 (evs i) (nxt 0)).length = i := by show (upd noE 1 (evs i) 1).length = i; rw [upd_same]; exact evs_length i
      obtain ⟨g3, c3, rfl, b3, l3⟩ := someE o3 hl3 hk0
      have R3 := Lib.hid (RowW.of o3 hl3)
      have R2 := Lib.hid (R2.out.kept k5)
      have R1 := Lib.hid (R1.out.kept k5)
      have K5 := Lib.hid (K4.out.trans k5 (by simp))
      have s45 := k5.size
      have S3 := K3.out.size
      clear o3 k5 HC2
      go_wp2
      obtain ⟨w6, hw6⟩ : ∃ w6, w6 = w5.alloc (.cells #[.slice (some ⟨g1, 0, none⟩) i c1, .slice (some ⟨g2, 0, none⟩) i c2, .slice (some ⟨g3, 0, none⟩) i c3] 27) := ⟨_, rfl⟩
      have ks : Kept w5 w6 [] := by rw [hw6]; exact (Kept.refl w5 []).alloc _
      have gs : w6.heap[w5.heap.size]? = some (.cells #[.slice (some ⟨g1, 0, none⟩) i c1, .slice (some ⟨g2, 0, none⟩) i c2, .slice (some ⟨g3, 0, none⟩) i c3] 27 (0, 0)) := by rw [hw6]; exact heap_alloc_new w5 _
      have RR := Lib.hid (show Rows3 w6 w6 g1 g2 g3 i from ⟨R1.out.kept ks, R2.out.kept ks, R3.out.kept ks, Fo.refl _ _⟩)
      have hs6 := ks.size
      have HF : RowKit.Hid (∀ wq, Rows3 w6 wq g1 g2 g3 i → Sp spT wq w1.heap.size h V (upd noE 1 (evs i)) 0 ∧ Kept W wq [] ∧ wq.heap[w5.heap.size]? = some (.cells #[.slice (some ⟨g1, 0, none⟩) i c1, .slice (some ⟨g2, 0, none⟩) i c2, .slice (some ⟨g3, 0, none⟩) i c3] 27 (0, 0))) := Lib.hid (fun wq r => by
        have k6 := K5.out.trans ks (by simp)
        refine ⟨(P1.out.keep k6).fo r.fo (fun k hk hh => ?_), ?_, r.fo.heap (fun hh => ?_) gs⟩
        · have := (P1.out.lt k hk).2
          rcases hh with rfl | rfl | rfl <;> omega
        · have kW := P3.out.trans k6 (by simp)
          have hb := HB.out
          have hw := P3.out.size
          exact kW.fo r.fo (fun k hh => by rcases hh with rfl | rfl | rfl <;> omega)
        · rcases hh with hh | hh | hh <;> omega)
      have HK0 : RowKit.Hid (0 < i ∧ (evs i)[0]? = some (eI 1)) := Lib.hid ⟨hk0, by
        obtain ⟨m, rfl⟩ : ∃ m, i = m + 1 := ⟨i - 1, by omega⟩
        simp [evs, List.range_succ_eq_map]⟩
      rw [← hw6]
      obtain ⟨sb, hsb⟩ : ∃ p, p = w5.heap.size := ⟨_, rfl⟩
      rw [← hsb] at HF ⊢
      clear hw6 ks gs hs6 R1 R2 R3 K3 K4 K5 s34 s45 S3 b1 b2 b3 l1 l2 l3 hsb P3 HB hl1 hl3
      go_loopg [35, 8, 9] 3 (fun kx s35 _ _ wq => ∃ q : Nat, s35 = .int .i64 q ∧ q ≤ 3 ∧ 3 - q ≤ kx ∧ RowKit.Hid (Rows3 w6 wq g1 g2 g3 i))
      case atStart => exact ⟨0, rfl, by omega, by omega, RR⟩
      case round =>
        clear RR
        obtain ⟨q, rfl, hq3, hkq, HR⟩ := hrel
        have hq4 : q = 0 ∨ q = 1 ∨ q = 2 ∨ q = 3 := by omega
        have gs := (HF.out wr HR.out).2.2
        rcases hq4 with rfl | rfl | rfl | rfl
        · have cs : wr.cell? ⟨sb, 0, none⟩ = some (.slice (some ⟨g1, 0, none⟩) i c1) := by rw [cell_of_row _ _ 0 _ _ _ gs]; rfl
          clear gs
          go_wp2
          go_loopg [9] i (fun kx s9 wz => ∃ j : Nat, s9 = .int .i64 j ∧ j ≤ i ∧ i - j ≤ kx ∧ RowKit.Hid (Rows3 w6 wz g1 g2 g3 i))
          case atStart => exact ⟨0, rfl, by omega, by omega, HR⟩
          case round =>
            clear HR cs
            obtain ⟨j, rfl, hj, hkz, HZ⟩ := hrel
            by_cases hji : j < i
            · have x2 : (j : Int) < (i : Int) := by omega
              obtain ⟨⟨u, hu⟩, fu⟩ := (HZ.out.at (b := g1) (by simp)).cell hji
              have HZ2 := Lib.hid (HZ.out.set (b := g1) (o := j * 8) (by simp) (.int .i64 a1))
              go_wp2
              go_roundg (i - (j + 1))
              case measure => omega
              case rel => exact ⟨j + 1, by go_num, by omega, by omega, HZ2⟩
            · have x2 : ¬ (j : Int) < (i : Int) := by omega
              go_wp2
              go_roundg 2
              case measure => omega
              case rel => exact ⟨0 + 1, by go_num, by omega, by omega, HZ⟩
        · have cs : wr.cell? ⟨sb, 1, none⟩ = some (.slice (some ⟨g2, 0, none⟩) i c2) := by rw [cell_of_row _ _ 1 _ _ _ gs]; rfl
          clear gs
          go_wp2
          go_loopg [9] i (fun kx s9 wz => ∃ j : Nat, s9 = .int .i64 j ∧ j ≤ i ∧ i - j ≤ kx ∧ RowKit.Hid (Rows3 w6 wz g1 g2 g3 i))
          case atStart => exact ⟨0, rfl, by omega, by omega, HR⟩
          case round =>
            clear HR cs
            obtain ⟨j, rfl, hj, hkz, HZ⟩ := hrel
            by_cases hji : j < i
            · have x2 : (j : Int) < (i : Int) := by omega
              obtain ⟨⟨u, hu⟩, fu⟩ := (HZ.out.at (b := g2) (by simp)).cell hji
              have HZ2 := Lib.hid (HZ.out.set (b := g2) (o := j * 8) (by simp) (.int .i64 a1))
              go_wp2
              go_roundg (i - (j + 1))
              case measure => omega
              case rel => exact ⟨j + 1, by go_num, by omega, by omega, HZ2⟩
            · have x2 : ¬ (j : Int) < (i : Int) := by omega
              go_wp2
              go_roundg 1
              case measure => omega
              case rel => exact ⟨1 + 1, by go_num, by omega, by omega, HZ⟩
        · have cs : wr.cell? ⟨sb, 2, none⟩ = some (.slice (some ⟨g3, 0, none⟩) i c3) := by rw [cell_of_row _ _ 2 _ _ _ gs]; rfl
          clear gs
          go_wp2
          go_loopg [9] i (fun kx s9 wz => ∃ j : Nat, s9 = .int .i64 j ∧ j ≤ i ∧ i - j ≤ kx ∧ RowKit.Hid (Rows3 w6 wz g1 g2 g3 i))
          case atStart => exact ⟨0, rfl, by omega, by omega, HR⟩
          case round =>
            clear HR cs
            obtain ⟨j, rfl, hj, hkz, HZ⟩ := hrel
            by_cases hji : j < i
            · have x2 : (j : Int) < (i : Int) := by omega
              obtain ⟨⟨u, hu⟩, fu⟩ := (HZ.out.at (b := g3) (by simp)).cell hji
              have HZ2 := Lib.hid (HZ.out.set (b := g3) (o := j * 8) (by simp) (.int .i64 a1))
              go_wp2
              go_roundg (i - (j + 1))
              case measure => omega
              case rel => exact ⟨j + 1, by go_num, by omega, by omega, HZ2⟩
            · have x2 : ¬ (j : Int) < (i : Int) := by omega
              go_wp2
              go_roundg 0
              case measure => omega
              case rel => exact ⟨2 + 1, by go_num, by omega, by omega, HZ⟩
        · obtain ⟨p1, p3, _⟩ := HF.out wr HR.out
          have hc := nextl_any p1 (by have := evs_lt (k := i) (by omega) 1 (by omega); show (upd noE 1 (evs i) 1).length ≤ _; omega)
          have HC := Lib.hid hc; have P3 := Lib.hid p3
          clear p1 p3 hc gs
          go_wp2_with fail
          refine HC.out.mono ?_
          rintro e w7 ⟨v7, rfl, o7, k7⟩
          change OwnE w7 wr.heap.size 36 v7 (upd noE 1 (evs i) 1) at o7
          rw [upd_same] at o7
          obtain ⟨g7, c7, rfl, _, _⟩ := someE o7 (evs_length i) HK0.out.1
          have d0 := (o7.eight HK0.out.2).1
          have d1 : w7.cell? ⟨g7, 0, none⟩ = some (.int .i64 1) := by simpa [eI] using d0
          have K7 := Lib.hid (P3.out.trans k7 (by simp))
          clear d0 o7 k7
          go_wp2_with fail
          refine (of_nil _).mono ?_
          rintro e w8 ⟨rfl, rfl⟩
          go_wp2
          go_ret
          exact ⟨rfl, K7.out.below (Nat.le_refl _) (by simp)⟩

set_option maxRecDepth 100000 in
theorem lifted (os : Os) (started : os.Started) (H : Type) (enc : TypeId × Value → H) :
    ReturnsInHanded {} Try.checked os 7 .any (Rows.spoolOwnSpec.pre6 enc Try.prog Try.f7 Rows.spoolOwnRow.domain false) (Rows.spoolOwnSpec.post enc Try.prog Try.f7 false true false false) := by
  refine returnsInHanded_of_change (C := Try.checked) own started (by kernel_rfl) Try.func7
    (ChangeSpec.witness6 (enc := enc) (C := Try.checked) false ⟨#[], #[.int .u8 0, .int .i64 0], []⟩ 8 (by kernel_rfl) (by kernel_rfl) (by kernel_rfl) (by kernel_rfl)) ?_
  intro W base args ds gs before hval0 hW hcnd _
  have hval : ∀ (j : Nat) t v, Try.f7.params[j]? = some t → args[j]? = some v → Value.okWide Try.prog W .any base t v := hval0
  have hW' := hW
  obtain ⟨p, q, hA0, hV, rfl, hfz, hnd⟩ := hW
  have hA : DataW.TrodAll enc Try.prog W 0 (fun _ => true) true Try.f7.params.toList args.toList ds p := hA0
  rw [Try.params7] at hA hval
  obtain ⟨v0, vs0, d0, ds0, p0, q0, hargs, rfl, rfl, h0, r0⟩ := trodAll_cons hA
  obtain ⟨v1, vs1, d1, ds1, p1, q1, rfl, rfl, rfl, h1, r1⟩ := trodAll_cons r0
  obtain ⟨rfl, rfl, rfl⟩ := trodAll_nil r1
  obtain rfl : args = #[v0, v1] := by cases args; simp_all
  obtain ⟨rfl, rfl⟩ := trodVars_none hV
  obtain ⟨a0, rfl, rfl, rfl, w0⟩ := open_int Try.underlying5 (hval 0 5 v0 rfl rfl) h0
  obtain ⟨a1, rfl, rfl, rfl, w1⟩ := open_int Try.underlying2 (hval 1 2 v1 rfl rfl) h1
  clear hA0 hval0
  simp only [List.append_nil] at hW'
  refine (walk a0 a1 w0 w1 W).mono fun e W' ⟨he, bel⟩ => ?_
  subst he
  exact ⟨_, rfl, _, _, _, [], _, [], hW', trodAll_mk1 (shut_bool Try.underlying4 _), (trodAll_cons_mk (shut_int Try.underlying5 w0) (trodAll_cons_mk (shut_int Try.underlying2 w1) trodAll_mk0)), rfl, bel.frame _, fun h => by cases h⟩

theorem over : Rows.spoolOwnRow.holds Try.pinned (OpenSpec.ofChange Rows.spoolOwnSpec) :=
  OpenClaim.holds_of_wide 7 Try.f7 rfl rfl rfl rfl rfl rfl rfl ⟨rfl, rfl, rfl, rfl, rfl⟩ rfl rfl rfl rfl rfl (by kernel_rfl) Try.func7 (by kernel_rfl)
    (of_decide_eq_true (by kernel_rfl)) (by unfold Func.isWrapper; first | (rw [if_pos (by decide +kernel)]; kernel_rfl) | (rw [if_neg (by decide +kernel)]; exact ⟨rfl, rfl⟩))
    (fun os started H enc _ => lifted os started H enc)

theorem proved : Rows.SpoolOwnSaid :=
  over
end Go.Proofs.Ytalplhhmghnggaa.spoolOwn

namespace Go.Proofs.Ytalplhhmghnggaa
theorem spoolOwn_holds : Rows.SpoolOwnSaid := spoolOwn.proved
#print axioms spoolOwn_holds
end Go.Proofs.Ytalplhhmghnggaa

