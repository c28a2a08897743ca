/-
  The contracts of Needs and Free, of the document.
-/
import Derived.Test.YtojkandkhhjaaaaBh
namespace Go.Proofs.Ytojkandkhhjaaaa
set_option linter.unusedVariables false
open Go.RowKit Go.Maps

/-- The cells that a round of Needs loads. -/
def NdS (V : World) (z b o : Nat) (x M : Int) (v : Value) : Prop :=
  (V.cell? ⟨z, 1, none⟩ = some (.int .i64 x) ∧ V.cell? ⟨b, o, none⟩ = some (.int .i64 M)) ∧ V.cell? ⟨b, o + 1, none⟩ = some v
theorem NdS.keep {w w' : World} {z b o : Nat} {x M : Int} {v : Value} (k : Kept w w' []) (f : NdS w z b o x M v) : NdS w' z b o x M v :=
  ⟨⟨k.cell (by simp) f.1.1, k.cell (by simp) f.1.2⟩, k.cell (by simp) f.2⟩

theorem any_of {ss : List Sv} {e : Ev} {i : Nat} {s : Sv} (hs : ss[i]? = some s) (h : seesB s.M s.l e.tx = false) : (ss.any fun s => !seesB s.M s.l e.tx) = true :=
  List.any_eq_true.2 ⟨s, List.mem_of_getElem? hs, by simp [h]⟩
theorem any_no {ss : List Sv} {e : Ev} (h : ∀ (j : Nat) s, j < ss.length → ss[j]? = some s → seesB s.M s.l e.tx = true) : (ss.any fun s => !seesB s.M s.l e.tx) = false := by
  rw [List.any_eq_false]
  intro s hs
  obtain ⟨j, hj, rfl⟩ := List.mem_iff_getElem.1 hs
  simp [h j _ hj (List.getElem?_eq_getElem hj)]

set_option maxHeartbeats 2000000 in
set_option maxRecDepth 100000 in
theorem rneeds_any {w : World} {u sv : Value} {ss : List Sv} {st : List Nat} (e : Ev) (hM : RMan w u st) (hs : RdS w sv ss) (hl : ss.length < 1000000) :
    Calls Try.prog 17 #[.agg e.cs, u, sv] w fun r w' => r = .returned (.bool (needB st ss e)) ∧ Kept w w' [] := by
  obtain ⟨W1, hW1⟩ : ∃ W1, W1 = w.alloc (.cells e.cs 42) := ⟨_, rfl⟩
  have k1 : Kept w W1 [] := by rw [hW1]; exact (Kept.refl w []).alloc _
  have g1 : W1.heap[w.heap.size]? = some (.cells e.cs 42 (0, 0)) := by rw [hW1]; exact heap_alloc_new w _
  have HS := Lib.hid (hs.keep k1)
  have CS := Lib.hid (fun W (k : Kept W1 W []) => hM e.tx W (k1.trans k (by simp)))
  obtain ⟨a, cp, rfl, _⟩ := hs
  obtain ⟨n, hn⟩ : ∃ n, n = ss.length := ⟨_, rfl⟩
  have HN := Lib.hid hn
  rw [← hn] at hl ⊢
  obtain ⟨s0, hs0⟩ : ∃ s, stAt st e.tx = s := ⟨_, rfl⟩
  have R1 : RowKit.Hid (s0 = 1 → needB st ss e = true) := Lib.hid (fun h => by simp [needB, hs0, h])
  have R2 : RowKit.Hid (s0 = 2 → needB st ss e = ss.any fun s => !seesB s.M s.l e.tx) := Lib.hid (fun h => by simp [needB, hs0, h])
  have R3 : RowKit.Hid (s0 ≠ 1 → s0 ≠ 2 → needB st ss e = false) := Lib.hid (fun h h2 => by simp [needB, hs0, h, h2])
  simp only [hs0] at CS
  have K1 := Lib.hid k1; have HW1 := Lib.hid hW1; have G1 := Lib.hid g1
  have G1' := Lib.hid (fun V (k : Kept W1 V []) => k.heap (by simp) g1)
  generalize needB st ss e = y at R1 R2 R3 ⊢
  obtain ⟨b0, b1, b2, b3, b4, b5, b6, b7⟩ := e
  obtain ⟨q0, q1, q2, q3, q4, q5, q6, q7⟩ := ev_cells g1
  simp only [Ev.cs] at CS HW1 G1 G1' R2 ⊢
  have hS := Lib.hid (CS.out W1 (Kept.refl _ _))
  clear hM hn hW1 k1 g1 hs0
  go_enter Try.func17, Try.ntmps17
  go_upto_region 1 with fail
  rw [← HW1.out]
  go_wp2_with fail
  refine hS.out.mono ?_
  rintro r w2 ⟨rfl, rfl⟩
  by_cases h1 : s0 = 1
  · have Y := R1.out h1
    subst h1
    go_wp2
    go_ret
    exact ⟨by rw [Y]; rfl, K1.out⟩
  · have e1 : ((s0 : Int) == 1) = false := by rw [beq_eq_false_iff_ne]; omega
    have H1 := Lib.hid h1
    clear h1 q0 q1 q2 q3 q4 q5 q6 q7
    by_cases h2 : s0 = 2
    · have Y := Lib.hid (R2.out h2)
      subst h2
      go_wp2
      go_loopg [7] n (fun kx s7 wr => ∃ i : Nat, s7 = .int .i64 i ∧ i ≤ n ∧ n - i ≤ kx ∧ RowKit.Hid (Kept W1 wr [] ∧ ∀ (j : Nat) s, j < i → ss[j]? = some s → seesB s.M s.l b1 = true))
      case atStart => exact ⟨0, rfl, by omega, by omega, Kept.refl _ _, fun j s h => absurd h (Nat.not_lt_zero _)⟩
      case round =>
        obtain ⟨i, rfl, hi, hkx, HK⟩ := hrel
        by_cases hlt : i < n
        · have x1 : (i : Int) < (n : Int) := by omega
          obtain ⟨s, hs⟩ : ∃ s, ss[i]? = some s := ⟨_, List.getElem?_eq_getElem (by rw [← HN.out]; exact hlt)⟩
          obtain ⟨a', c', e', f1, f2⟩ := HS.out.keep HK.out.1
          simp only [Value.slice.injEq, true_and] at e'
          obtain ⟨rfl, _, rfl⟩ := e'
          obtain ⟨b, o, rfl, c0, c1⟩ := f1 i s hs
          have rv := f2 s (List.mem_of_getElem? hs)
          have HSI := Lib.hid hs
          obtain ⟨M, v, m⟩ := s
          simp only at c0 c1 rv
          have RV := Lib.hid rv
          obtain ⟨va, vc, hv, _⟩ := rv
          subst hv
          obtain ⟨q, hq⟩ : ∃ q, seesB M m b1 = q := ⟨_, rfl⟩
          have HQ := Lib.hid hq
          have k8 : Kept wr wr.drew [] := (Kept.refl wr []).drew
          have y0 : NdS wr w.heap.size b (o + i * 2) b1 M (.slice va m.length vc) := ⟨⟨(ev_cells (G1'.out wr HK.out.1)).2.1, c0⟩, c1⟩
          have HY := Lib.hid y0
          have y2 := NdS.keep k8 y0
          have CT : RowKit.Hid (∀ V, Kept wr V [] → Calls Try.prog 34 #[u, .int .i64 b1] V fun e w' => e = .returned (.int .u8 ((2 : Nat) : Int)) ∧ V = w') := Lib.hid (fun V hV => CS.out V (HK.out.1.trans hV (by simp)))
          have CO : RowKit.Hid (∀ V, Kept wr V [] → Calls Try.prog 35 #[.agg #[.int .i64 M, .slice va m.length vc], .int .i64 b1] V fun e w' => e = .returned (.bool q) ∧ Kept wr w' []) := Lib.hid (fun V hV => by
            rw [← HQ.out]; exact (rsees_any M b1 _ m V (RV.out.keep hV)).mono (fun _ _ h => ⟨h.1, hV.trans h.2 (by simp)⟩))
          unfold NdS at y2
          have lz := World.block_lt_of_cell? wr _ y0.1.1
          clear hs f1 f2 c0 c1 hq y0
          go_wp2_with fail
          go_region_held3 (fun V => (V.cell? ⟨w.heap.size, 1, none⟩ = some (.int .i64 b1) ∧ V.cell? ⟨b, o + i * 2, none⟩ = some (.int .i64 M)) ∧ V.cell? ⟨b, o + i * 2 + 1, none⟩ = some (.slice va m.length vc)) (exact y2)
            (first
              | (go_at_call 34; refine (CT.out _ ?_).mono ?_; exact k8; rintro e w8 ⟨rfl, rfl⟩)
              | (go_at_call 35; refine (CO.out _ ?_).mono ?_; exact k8; rintro e w8 ⟨rfl, k8⟩; have y2 := NdS.keep k8 HY.out; unfold NdS at y2))
          have K8 := Lib.hid k8
          clear y2 k8
          cases q
          · have Y2 := Lib.hid (Y.out.trans (any_of (e := ⟨b0, b1, b2, b3, b4, b5, b6, b7⟩) HSI.out HQ.out))
            go_wp2
            go_ret
            exact ⟨by rw [Y2.out]; rfl, K1.out.trans (HK.out.1.trans K8.out (by simp)) (by simp)⟩
          · go_wp2
            go_roundg (n - (i + 1))
            case measure => omega
            case rel =>
              refine ⟨i + 1, by go_num, by omega, by omega, HK.out.1.trans K8.out (by simp), fun j s hj hs => ?_⟩
              by_cases e : j = i
              · subst e
                rw [HSI.out] at hs
                cases hs
                exact HQ.out
              · exact HK.out.2 j s (by omega) hs
        · have x1 : ¬ (i : Int) < (n : Int) := by omega
          have Y2 : y = false := by
            rw [Y.out]; exact any_no (e := ⟨b0, b1, b2, b3, b4, b5, b6, b7⟩) (fun j s hj hs => HK.out.2 j s (by have := HN.out; omega) hs)
          go_wp2
          go_ret
          exact ⟨rfl, K1.out.trans HK.out.1 (by simp)⟩
    · have Y := Lib.hid (R3.out H1.out h2)
      have e2 : ((s0 : Int) == 2) = false := by rw [beq_eq_false_iff_ne]; omega
      clear h2
      go_wp2
      go_loopg [7] n (fun kx s7 wr => ∃ i : Nat, s7 = .int .i64 i ∧ i ≤ n ∧ n - i ≤ kx ∧ RowKit.Hid (Kept W1 wr []))
      case atStart => exact ⟨0, rfl, by omega, by omega, Kept.refl _ _⟩
      case round =>
        obtain ⟨i, rfl, hi, hkx, HK⟩ := hrel
        by_cases hlt : i < n
        · have x1 : (i : Int) < (n : Int) := by omega
          have q1 := (ev_cells (G1'.out wr HK.out)).2.1
          have CQ : RowKit.Hid (∀ k, Calls Try.prog 34 #[u, .int .i64 b1] (wr.drewN k) fun e w' => e = .returned (.int .u8 s0) ∧ w' = wr.drewN k) := Lib.hid (fun k => (CS.out _ (HK.out.drewN k)).mono fun _ _ h => ⟨h.1, h.2.symm⟩)
          go_wp2_with fail
          go_quiet ((go_at_call 34; exact Calls.quiet_of_same (CQ.out _)))
          have KN := Lib.hid (HK.out.drewN nq)
          clear q1 CQ
          generalize wr.drewN nq = wn at KN ⊢
          go_wp2
          go_roundg (n - (i + 1))
          case measure => omega
          case rel => exact ⟨i + 1, by go_num, by omega, by omega, KN⟩
        · have x1 : ¬ (i : Int) < (n : Int) := by omega
          go_wp2
          go_ret
          exact ⟨by rw [Y.out]; rfl, K1.out.trans HK.out (by simp)⟩

theorem free_no {st : List Nat} {ss : List Sv} {l : List Ev} {i : Nat} {e : Ev} (he : l[i]? = some e) (h : needB st ss e = true) : freeB st ss l = false := by
  have : l.any (needB st ss) = true := List.any_eq_true.2 ⟨e, List.mem_of_getElem? he, h⟩
  simp [freeB, this]
theorem free_yes {st : List Nat} {ss : List Sv} {l : List Ev} (h : ∀ (j : Nat) e, j < l.length → l[j]? = some e → needB st ss e = false) : freeB st ss l = true := by
  have : l.any (needB st ss) = false := by
    rw [List.any_eq_false]
    intro e he
    obtain ⟨j, hj, rfl⟩ := List.mem_iff_getElem.1 he
    simp [h j _ hj (List.getElem?_eq_getElem hj)]
  simp [freeB, this]

set_option maxHeartbeats 1000000 in
theorem rfree_any {w : World} {u v sv : Value} {ss : List Sv} {st : List Nat} {l : List Ev} (hv : RdE w v l) (hn : l.length < 1000000) (hM : RMan w u st) (hs : RdS w sv ss) (hl : ss.length < 1000000) :
    Calls Try.prog 19 #[v, u, sv] w fun r w' => r = .returned (.bool (freeB st ss l)) ∧ Kept w w' [] := by
  have HM := Lib.hid hM; have HS := Lib.hid hs
  obtain ⟨va, vc, rfl⟩ := hv.shape3
  have HV := Lib.hid hv
  obtain ⟨a, cp, rfl, _⟩ := hs
  obtain ⟨n, hn2⟩ : ∃ n, n = l.length := ⟨_, rfl⟩
  have HN := Lib.hid hn2
  rw [← hn2] at hn ⊢
  have HL := Lib.hid hl
  generalize hm : ss.length = m at HL
  have HMm := Lib.hid hm
  clear hv hM hl hn2 hm
  go_enter Try.func19, Try.ntmps19
  go_wp2
  go_loopg [7] n (fun kx s7 wr => ∃ i : Nat, s7 = .int .i64 i ∧ i ≤ n ∧ n - i ≤ kx ∧ RowKit.Hid (Kept w wr [] ∧ ∀ (j : Nat) e, j < i → l[j]? = some e → needB st ss e = false))
  case atStart => exact ⟨0, rfl, by omega, by omega, Kept.refl _ _, fun j s h => absurd h (Nat.not_lt_zero _)⟩
  case round =>
    obtain ⟨i, rfl, hi, hkx, HK⟩ := hrel
    by_cases hlt : i < n
    · have x1 : (i : Int) < (n : Int) := by omega
      obtain ⟨e, he⟩ : ∃ e, l[i]? = some e := ⟨_, List.getElem?_eq_getElem (by rw [← HN.out]; exact hlt)⟩
      have ev := HV.out.kept HK.out.1 (by simp)
      rw [← HN.out] at ev
      obtain ⟨b, o, rfl, p0, p1, p2, p3, p4, p5, p6, p7⟩ := ev.eight he
      have call := Lib.hid (rneeds_any e (HM.out.keep HK.out.1) (HS.out.keep HK.out.1) (by rw [HMm.out]; exact HL.out))
      have HE := Lib.hid he
      obtain ⟨y, hy⟩ : ∃ y, needB st ss e = y := ⟨_, rfl⟩
      rw [hy, HMm.out] at call
      have HY := Lib.hid hy
      obtain ⟨b0, b1, b2, b3, b4, b5, b6, b7⟩ := e
      simp only [Ev.cs] at p0 p1 p2 p3 p4 p5 p6 p7 call
      clear he ev hy
      go_wp2_with fail
      refine call.out.mono ?_
      rintro r w2 ⟨rfl, k2⟩
      have K2 := Lib.hid (HK.out.1.trans k2 (by simp))
      clear k2 p0 p1 p2 p3 p4 p5 p6 p7 call
      cases y
      · go_wp2
        go_roundg (n - (i + 1))
        case measure => omega
        case rel =>
          refine ⟨i + 1, by go_num, by omega, by omega, K2.out, fun j s hj hs => ?_⟩
          by_cases e : j = i
          · subst e
            rw [HE.out] at hs
            cases hs
            exact HY.out
          · exact HK.out.2 j s (by omega) hs
      · go_wp2
        go_ret
        exact ⟨by rw [free_no HE.out HY.out]; rfl, K2.out⟩
    · have x1 : ¬ (i : Int) < (n : Int) := by omega
      go_wp2
      go_ret
      exact ⟨by rw [free_yes (fun j e hj he => HK.out.2 j e (by have := HN.out; omega) he)]; rfl, HK.out.1⟩

end Go.Proofs.Ytojkandkhhjaaaa
