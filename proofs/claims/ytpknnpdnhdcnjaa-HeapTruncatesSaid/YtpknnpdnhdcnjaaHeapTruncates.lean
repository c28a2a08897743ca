/-
  Proved: whatever the arguments are, carrierlaw07.HeapTruncates answers true and leaves its arguments as they were. No condition.
-/
import Derived.Test.YtpknnpdnhdcnjaaHv
import Derived.Deep.RegionHeld3
namespace Go.Proofs.Ytpknnpdnhdcnjaa.heapTruncates
open Go.ChangeShapes Go.WideShapes Go.ChangeAt Go.RowKit
set_option linter.unusedVariables false

theorem own : ownKnob Try.prog.godebug = none := by kernel_rfl
theorem laidOut : laidOutB Try.prog = true := by kernel_rfl

/-- What the walk is told of a slice of integers that came in. -/
def IsRow (k : IntKind) (w : World) (a : Option Addr) (len cap : Nat) (zs : List Int) : Prop :=
  (a = none ∧ len = 0 ∧ cap = 0 ∧ zs = []) ∨
  ∃ x, a = some x ∧ len ≤ cap ∧ cap ≤ maxLen ∧ zs.length = cap ∧ (∀ i, i < zs.length → w.cell? (x.add i) = some (.int k (zs.getD i 0))) ∧ ∀ n ∈ zs, (Lit.int k n).wf = true

/-- The numbers of such a slice. -/
theorem isRow_rdI {w : World} {a : Option Addr} {len cap : Nat} {zs : List Int} (h : IsRow .i64 w a len cap zs) : ∃ l : List Int, l.length = len ∧ RdI w (.slice a len cap) l := by
  rcases h with ⟨rfl, rfl, rfl, rfl⟩ | ⟨x, rfl, hl, hm, hz, hcell, hwz⟩
  · exact ⟨[], rfl, RdI.nil w⟩
  · have hlen : (zs.take len).length = len := by simp; omega
    refine ⟨zs.take len, hlen, some x, cap, by rw [hlen], by omega, hm, by simp, fun hne => ?_⟩
    have hpos : 0 < len := by rw [← hlen]; exact List.length_pos_iff.2 hne
    obtain ⟨b, off, spot⟩ := x
    have h0 := hcell 0 (by omega)
    have hspot : spot = none := by simpa [Addr.add] using World.cell?_spot h0
    subst hspot
    refine ⟨b, off, rfl, fun i hi => ?_⟩
    rw [hlen] at hi
    have hc := hcell i (by omega)
    rw [Addr.add_lit] at hc
    rw [hc]
    congr 2
    simp [List.getD, hi]


theorem wf_mod50 (x : Int) : (Lit.int .i64 (x.tmod 50)).wf = true ∧ x.tmod 50 < 60 := by
  have h1 := Int.tmod_lt_of_pos x (by decide : (0 : Int) < 50)
  have h2 := Int.lt_tmod_of_pos x (by decide : (0 : Int) < 50)
  exact ⟨wf_i64 (by omega), by omega⟩

theorem cells4 {w w' : World} {g b o : Nat} {x y z k : Value} (hk : Kept w w' []) (h : ((w.cell? ⟨g, 0, none⟩ = some x ∧ w.cell? ⟨g, 1, none⟩ = some y) ∧ w.cell? ⟨g, 2, none⟩ = some z) ∧ w.cell? ⟨b, o, none⟩ = some k) :
    ((w'.cell? ⟨g, 0, none⟩ = some x ∧ w'.cell? ⟨g, 1, none⟩ = some y) ∧ w'.cell? ⟨g, 2, none⟩ = some z) ∧ w'.cell? ⟨b, o, none⟩ = some k :=
  ⟨⟨⟨hk.cell (p := ⟨g, 0, none⟩) (by simp) h.1.1.1, hk.cell (p := ⟨g, 1, none⟩) (by simp) h.1.1.2⟩, hk.cell (p := ⟨g, 2, none⟩) (by simp) h.1.2⟩, hk.cell (p := ⟨b, o, none⟩) (by simp) h.2⟩

theorem below_cell {w w' : World} {B : Nat} (h : Below B w w') {p : Addr} (hp : p.block < B) {v : Value} (hv : w.cell? p = some v) : w'.cell? p = some v :=
  (World.cell?_of_block (h.block p.block hp)).trans hv

theorem ins_trunc {w : World} {B p h : Nat} {O : Nat → Prop} {ks : List Int} {n : Nat} (a : Sd w B p h O [1] ks (bF ks)) (hl : ks.length ≤ n) (hn : n ≤ 900) (hk6 : ∀ k ∈ ks, k < 60) (u : Option Addr) (m c : Nat) (hv : Vo w (.slice u m c) [1]) (key : Int) (hk : (Lit.int .i64 key).wf = true) (h60 : key < 60) :
    Calls Try.prog 14 #[.pointer (some ⟨h, 0, none⟩), .agg #[.int .i64 2, .slice u m c, .int .i64 1], .agg #[.int .i64 key, .string ⟨#[]⟩]] w fun e w' => ∃ E, e = .returned (.int .i64 E) ∧ ∃ O' ks', Sd w' B p h O' [1] ks' (bF ks') ∧ Stp O O' w w' ∧ ks'.length ≤ n + 1 ∧ (∀ k ∈ ks', k < 60) := by
  have := insert_sd a 2 1 u m c [1] hv (by decide) key ⟨#[]⟩ hk (by omega) (by have := bF_length ks key; omega)
  obtain ⟨e1, e2⟩ := first_ins ks key
  have e2' : putF (insE [1] ⟨2, [1], 1⟩ (bF ks key)) key ⟨⟨#[]⟩, 1, 0⟩ (bF ks) = bF (if key ∈ ks then ks else insK key ks) := e2
  rw [e1, e2'] at this
  refine this.mono ?_
  rintro e w' ⟨rfl, O', s, f⟩
  refine ⟨_, rfl, O', _, s, f, ?_, ?_⟩
  · split
    · omega
    · have := (insK_length key ks).1; omega
  · intro k hk2
    split at hk2
    · exact hk6 k hk2
    · rcases mem_insK.1 hk2 with rfl | h
      · exact h60
      · exact hk6 k h

/-- Insert of a row at a key behind all others. -/
theorem ins_last {w : World} {B p h : Nat} {O : Nat → Prop} {st : List Nat} {ks : List Int} {F : Int → List Vr} (a : Sd w B p h O st ks F) (mx own : Int) (u : Option Addr) (m c : Nat) (opl : List Int) (hv : Vo w (.slice u m c) opl) (ho : (Lit.int .i64 own).wf = true) (hs : stAt st own = 1) (key : Int) (hk : (Lit.int .i64 key).wf = true) (hlt : ∀ y ∈ ks, y < key) (hks : ks.length < 1000000) :
    Calls Try.prog 14 #[.pointer (some ⟨h, 0, none⟩), .agg #[.int .i64 mx, .slice u m c, .int .i64 own], .agg #[.int .i64 key, .string ⟨#[]⟩]] w fun e w' => e = .returned (.int .i64 0) ∧ ∃ O', Sd w' B p h O' st (ks ++ [key]) (updF F key [⟨⟨#[]⟩, own, 0⟩]) ∧ Stp O O' w w' := by
  have hF : F key = [] := a.facts.2 key (fun h => by have := hlt key h; omega)
  have e0 : insE st ⟨mx, opl, own⟩ (F key) = 0 := by rw [hF]; simp [insE, hs]
  have := insert_sd a mx own u m c opl hv ho key ⟨#[]⟩ hk hks (by rw [hF]; simp)
  rw [e0, putK, putF, if_pos rfl, if_pos rfl, insK_last hlt, hF] at this
  exact this

set_option maxHeartbeats 8000000 in
set_option maxRecDepth 100000 in
theorem walk (a0 : Option Addr) (len0 cap0 : Nat) (z0 : List Int) (a1 a2 : Int) (W : World) (w0 : IsRow .i64 W a0 len0 cap0 z0) (w1 : (Lit.int .u8 a1).wf = true) (w2 : (Lit.int .i64 a2).wf = true) :
    Calls Try.prog 7 #[.slice a0 len0 cap0, .int .u8 a1, .int .i64 a2] W fun e w' => e = .returned (.bool true) ∧ Below W.heap.size W w' := by
  obtain ⟨b1a, b1b⟩ := bounds_u8 w1
  obtain ⟨L, hLl, hrd⟩ := isRow_rdI w0
  have RD := Lib.hid hrd
  have HLl := Lib.hid hLl
  have m9a := Int.tmod_lt_of_pos a2 (by decide : (0 : Int) < 9)
  have m9b := Int.lt_tmod_of_pos a2 (by decide : (0 : Int) < 9)
  clear w0 w1 w2 hLl hrd
  by_cases h30 : 30 < len0
  · have x30 : (30 : Int) < (len0 : Int) := by omega
    go_enter Try.func7, Try.ntmps7
    go_wp2_with fail
    refine (clash_any W).mono ?_
    rintro e w2 ⟨rfl, hk⟩
    have K2 := Lib.hid hk
    clear hk
    go_wp2_with fail
    refine (clash_any w2).mono ?_
    rintro e w4 ⟨rfl, hk⟩
    have K4 := Lib.hid (K2.out.trans hk (by simp))
    clear hk
    go_wp2
    go_ret
    exact ⟨rfl, K4.out.below (Nat.le_refl _) (by simp)⟩
  have x30 : decide ((30 : Int) < (len0 : Int)) = false := by rw [decide_eq_false_iff_not]; omega
  have hl30 : len0 ≤ 30 := by omega
  go_enter Try.func7, Try.ntmps7
  go_wp2_with fail
  refine (clash_any W).mono ?_
  rintro e w2 ⟨rfl, hk⟩
  have K2 := Lib.hid hk
  clear hk
  go_wp2_with fail
  refine (mnew_any w2).mono ?_
  rintro e w3 ⟨p, b, v1, rfl, hm, hk⟩
  have M3 := Lib.hid hm; have K3 := Lib.hid hk
  clear hm hk x30
  go_wp2_with fail
  refine (hnew_sd M3.out).mono ?_
  rintro e w4 ⟨h, O4, rfl, s, hk, _⟩
  have S4 := Lib.hid s; have B4 := Lib.hid (show Below w2.heap.size w2 w4 from (K3.out.trans hk (by simp)).below (Nat.le_refl _) (by simp))
  clear s hk
  have c : Calls Try.prog 12 #[.pointer (some ⟨p, 0, none⟩)] w4 fun e w' => e = .returned (.tuple #[.int .i64 1, .int .i64 0]) ∧ ∃ O', Sd w' w2.heap.size p h O' [1] [] (fun _ => []) ∧ Stp O4 O' w4 w' := begin_sd S4.out (by decide) (by decide)
  go_wp2_with fail
  refine c.mono ?_
  rintro e w5 ⟨rfl, O5, s, f⟩
  have S5 := Lib.hid s; have B5 := Lib.hid (B4.out.trans (S4.out.below f.1))
  clear s f c
  have c : Calls Try.prog 13 #[.pointer (some ⟨p, 0, none⟩)] w5 fun e w' => ∃ u c, e = .returned (.agg #[.int .i64 2, .slice u 1 c]) ∧ Vo w' (.slice u 1 c) [1] ∧ Kept w5 w' [] := now_sd S5.out
  go_wp2_with fail
  refine c.mono ?_
  rintro e x6 ⟨u6, d6, rfl, vo, hk⟩
  obtain ⟨w6, hW⟩ : ∃ w6, w6 = x6.alloc (.cells #[.int .i64 2, .slice u6 1 d6, .int .i64 1] 37) := ⟨_, rfl⟩
  obtain ⟨g1, hg⟩ : ∃ g1, g1 = x6.heap.size := ⟨_, rfl⟩
  have V6 : Hid (Bv w6 g1 2 1 (.slice u6 1 d6) [1]) := Lib.hid (by rw [hW, hg]; exact Bv.make vo)
  have k : Kept w5 w6 [] := by rw [hW]; exact hk.alloc _
  have S6 : Hid (Sd w6 w2.heap.size p h O5 [1] [] (bF [])) := Lib.hid (S5.out.keep k)
  have B6 := Lib.hid (B5.out.trans (k.below (B := w2.heap.size) S5.out.size (by simp)))
  clear vo hk k c
  go_wp2
  rw [← hW, ← hg]
  clear hW hg
  go_loopw [12] (fun t wr => ∃ (i : Nat) (O : Nat → Prop) (ks : List Int), t = .int .i64 i ∧ i ≤ len0 ∧ Sd wr w2.heap.size p h O [1] ks (bF ks) ∧ ks.length ≤ i ∧ (∀ k ∈ ks, k < 60) ∧ Bv wr g1 2 1 (.slice u6 1 d6) [1] ∧ Below w2.heap.size w2 wr) (fun t _ => len0 - (intOf t).toNat)
  case atStart => exact ⟨0, O5, [], rfl, Nat.zero_le _, S6.out, by simp, (fun _ h => by simp at h), V6.out, B6.out⟩
  case round =>
    obtain ⟨i, O, ks, rfl, hi, hs, hlim, h60, hv, hb⟩ := hrel
    have S := Lib.hid hs; have LM := Lib.hid hlim; have H60 := Lib.hid h60; have V := Lib.hid hv; have BW := Lib.hid hb
    have KW := Lib.hid (Kept.ofBelow ((Kept.below K2.out (Nat.le_refl _) (by simp)).trans (hb.mono K2.out.size)) [])
    clear hs hlim h60 hv hb S4 S5 S6 V6 B4 B5 B6
    by_cases hlt : i < len0
    · obtain ⟨ra, rc, hrv, hrc, hrm, _, hcell⟩ := RD.out
      have hne : L ≠ [] := by rintro rfl; have := HLl.out; simp at this; omega
      obtain ⟨ab, ao, hra, hcl⟩ := hcell hne
      have hLl := HLl.out
      simp only [Value.slice.injEq] at hrv
      obtain ⟨hrv, -, -⟩ := hrv
      subst hrv
      subst hra
      obtain ⟨key, hkey⟩ : ∃ key, L.getD i 0 = key := ⟨_, rfl⟩
      have c0 := hcl i (by omega)
      rw [hkey] at c0
      have abl : ab < W.heap.size := World.block_lt_of_cell? W _ c0
      have y2 := KW.out.cell (p := ⟨ab, ao + i, none⟩) (by simp) c0
      obtain ⟨z0, z1, z2⟩ := V.out.cells
      have x1 : (i : Int) < (len0 : Int) := by omega
      have HI := Lib.hid (fun U (hU : Kept wr U []) => ins_trunc (S.out.keep hU) LM.out (by omega) H60.out u6 1 d6 (V.out.keep hU).2 (key.tmod 50) (wf_mod50 key).1 (wf_mod50 key).2)
      have yy : ((wr.cell? ⟨g1, 0, none⟩ = some (.int .i64 2) ∧ wr.cell? ⟨g1, 1, none⟩ = some (.slice u6 1 d6)) ∧ wr.cell? ⟨g1, 2, none⟩ = some (.int .i64 1)) ∧ wr.cell? ⟨ab, ao + i, none⟩ = some (.int .i64 key) := ⟨⟨⟨z0, z1⟩, z2⟩, y2⟩
      have YY := Lib.hid yy
      have k8 : Kept wr wr.drew [] := (Kept.refl wr []).drew
      have yy := cells4 k8 YY.out
      have AB := Lib.hid abl
      clear hcl hcell hkey c0 y2 z0 z1 z2 abl hrc hrm hne hLl
      go_wp2_with fail
      go_region_held3 (fun U => ((U.cell? ⟨g1, 0, none⟩ = some (.int .i64 2) ∧ U.cell? ⟨g1, 1, none⟩ = some (.slice u6 1 d6)) ∧ U.cell? ⟨g1, 2, none⟩ = some (.int .i64 1)) ∧ U.cell? ⟨ab, ao + i, none⟩ = some (.int .i64 key)) (exact yy)
        (first
          | (go_at_call 14; refine (HI.out _ ?_).mono ?_; exact k8; rintro e w8 ⟨E, rfl, O', ks', s8, f8, l8, i8⟩; have S8 := Lib.hid s8; have I8 := Lib.hid i8; have L8 := Lib.hid l8; have V8 := Lib.hid ((V.out.keep k8).fo (S.out.keep k8) f8.1); have B8 := Lib.hid ((BW.out.trans (k8.below (B := w2.heap.size) S.out.size (by simp))).trans ((S.out.keep k8).below f8.1)); have yy := And.intro (And.intro (And.intro V8.out.cells.1 V8.out.cells.2.1) V8.out.cells.2.2) (below_cell ((S.out.keep k8).below f8.1) (p := ⟨ab, ao + i, none⟩) (Nat.lt_of_lt_of_le AB.out K2.out.size) yy.2)))
      clear s8 f8 i8 l8 yy k8
      go_wp2
      go_roundw
      case rel => exact ⟨i + 1, O', ks', by go_num, by omega, S8.out, L8.out, I8.out, V8.out, B8.out⟩
      case measure => simp [intOf]; omega
    · have x1 : ¬ (i : Int) < (len0 : Int) := by omega
      have hi30 : ks.length ≤ 30 := by have := LM.out; omega
      have HI30 := Lib.hid hi30
      have c : Calls Try.prog 15 #[.pointer (some ⟨p, 0, none⟩), .int .i64 1] wr fun e w' => e = .returned (.int .i64 0) ∧ Sd w' w2.heap.size p h O [2] ks (bF ks) ∧ Stp O O wr w' := commit_sd S.out 1 (by decide) (by decide)
      clear hi30
      go_wp2_with fail
      refine c.mono ?_
      rintro e w10 ⟨rfl, s, f⟩
      have S10 := Lib.hid s; have B10 := Lib.hid (BW.out.trans (S.out.below f.1))
      clear s f c x1
      have c : Calls Try.prog 12 #[.pointer (some ⟨p, 0, none⟩)] w10 fun e w' => e = .returned (.tuple #[.int .i64 2, .int .i64 0]) ∧ ∃ O', Sd w' w2.heap.size p h O' [2, 1] ks (bF ks) ∧ Stp O O' w10 w' := begin_sd S10.out (by decide) (by decide)
      go_wp2_with fail
      refine c.mono ?_
      rintro e w11 ⟨rfl, O11, s, f⟩
      have S11 := Lib.hid s; have B11 := Lib.hid (B10.out.trans (S10.out.below f.1))
      clear s f c
      have c : Calls Try.prog 13 #[.pointer (some ⟨p, 0, none⟩)] w11 fun e w' => ∃ u c, e = .returned (.agg #[.int .i64 3, .slice u 1 c]) ∧ Vo w' (.slice u 1 c) [2] ∧ Kept w11 w' [] := now_sd S11.out
      go_wp2_with fail
      refine c.mono ?_
      rintro e x12 ⟨u12, d12, rfl, vo, hk⟩
      obtain ⟨w12, hW⟩ : ∃ w12, w12 = x12.alloc (.cells #[.int .i64 3, .slice u12 1 d12, .int .i64 2] 37) := ⟨_, rfl⟩
      obtain ⟨g2, hg⟩ : ∃ g2, g2 = x12.heap.size := ⟨_, rfl⟩
      have V12 : Hid (Bv w12 g2 3 2 (.slice u12 1 d12) [2]) := Lib.hid (by rw [hW, hg]; exact Bv.make vo)
      have k : Kept w11 w12 [] := by rw [hW]; exact hk.alloc _
      have S12 := Lib.hid (S11.out.keep k); have B12 := Lib.hid (B11.out.trans (k.below (B := w2.heap.size) S11.out.size (by simp)))
      have c : Calls Try.prog 12 #[.pointer (some ⟨p, 0, none⟩)] w12 fun e w' => e = .returned (.tuple #[.int .i64 3, .int .i64 0]) ∧ ∃ O', Sd w' w2.heap.size p h O' [2, 1, 1] ks (bF ks) ∧ Stp O11 O' w12 w' := begin_sd S12.out (by decide) (by decide)
      clear vo hk k
      go_wp2_with fail
      rw [← hW, ← hg]
      clear hW hg
      refine c.mono ?_
      rintro e w13 ⟨rfl, O13, s, f⟩
      have S13 := Lib.hid s; have B13 := Lib.hid (B12.out.trans (S12.out.below f.1)); have V13 := Lib.hid (V12.out.fo S12.out f.1)
      clear s f c
      have c : Calls Try.prog 13 #[.pointer (some ⟨p, 0, none⟩)] w13 fun e w' => ∃ u c, e = .returned (.agg #[.int .i64 4, .slice u 2 c]) ∧ Vo w' (.slice u 2 c) [2, 3] ∧ Kept w13 w' [] := now_sd S13.out
      go_wp2_with fail
      refine c.mono ?_
      rintro e x14 ⟨u14, d14, rfl, vo, hk⟩
      obtain ⟨w14, hW⟩ : ∃ w14, w14 = x14.alloc (.cells #[.int .i64 4, .slice u14 2 d14, .int .i64 3] 37) := ⟨_, rfl⟩
      obtain ⟨g3, hg⟩ : ∃ g3, g3 = x14.heap.size := ⟨_, rfl⟩
      have U14 : Hid (Bv w14 g3 4 3 (.slice u14 2 d14) [2, 3]) := Lib.hid (by rw [hW, hg]; exact Bv.make vo)
      have k : Kept w13 w14 [] := by rw [hW]; exact hk.alloc _
      have S14 := Lib.hid (S13.out.keep k); have B14 := Lib.hid (B13.out.trans (k.below (B := w2.heap.size) S13.out.size (by simp))); have V14 := Lib.hid (V13.out.keep k)
      obtain ⟨kx, hkx⟩ : ∃ kx : Int, kx = 100 + a2.tmod 9 := ⟨_, rfl⟩
      obtain ⟨kw, hkw⟩ : ∃ kw : Int, kw = 200 + a1 := ⟨_, rfl⟩
      have HKX := Lib.hid hkx; have HKW := Lib.hid hkw
      have bx : 60 < kx ∧ kx < 150 := by omega
      have bw : 150 < kw ∧ kw < 500 := by omega
      have BX := Lib.hid bx; have BWW := Lib.hid bw
      have c := ins_last S14.out 4 3 u14 2 d14 [2, 3] U14.out.2 (by decide) (by decide) kx (wf_i64 (by omega)) (fun y hy => by have := H60.out y hy; omega) (by have := HI30.out; omega)
      rw [hkx] at c
      have C := Lib.hid c
      clear vo hk k c bx bw hkx hkw
      go_wp2_with fail
      rw [← hW, ← hg]
      clear hW hg
      refine C.out.mono ?_
      rintro e w15 ⟨rfl, O15, s, f⟩
      rw [← HKX.out] at s
      have S15 := Lib.hid s; have B15 := Lib.hid (B14.out.trans (S14.out.below f.1)); have V15 := Lib.hid (V14.out.fo S14.out f.1)
      have c := ins_last S15.out 3 2 u12 1 d12 [2] V15.out.2 (by decide) (by decide) kw (wf_i64 (by have := BWW.out; omega)) (fun y hy => by
        rcases List.mem_append.1 hy with h | h
        · have := H60.out y h; have := BWW.out; omega
        · simp at h; have := BX.out; have := BWW.out; omega) (by rw [List.length_append]; have := HI30.out; simp; omega)
      rw [HKW.out] at c
      obtain ⟨y0, y1, y2⟩ := V15.out.cells
      have C2 := Lib.hid c
      clear s f C c
      go_wp2_with fail
      refine C2.out.mono ?_
      rintro e w16 ⟨rfl, O16, s, f⟩
      rw [← HKW.out] at s
      have S16 : Hid (Sd w16 w2.heap.size p h O16 [2, 1, 1] (ks ++ [kx] ++ [kw]) (F3 ks kx kw)) := Lib.hid s
      have B16 := Lib.hid (B15.out.trans (S15.out.below f.1)); have V16 := Lib.hid (V15.out.fo S15.out f.1)
      clear s f C2 y0 y1 y2
      have hx : 60 < kx ∧ kx < 150 := BX.out
      have hw : 150 < kw := BWW.out.1
      have len3 : (ks ++ [kx] ++ [kw]).length ≤ 900 := by simp; have := HI30.out; omega
      have len4 : ∀ k, (F3 ks kx kw k).length ≤ 900 := F3_le ks kx kw
      have LEN3 := Lib.hid len3; have LEN4 := Lib.hid len4
      obtain ⟨RR, hRR⟩ : ∃ RR, RR = (ks ++ [kw]).map fun k => ((k, ⟨#[]⟩) : Int × ByteArray) := ⟨_, rfl⟩
      have HRR := Lib.hid hRR
      have P3 : Hid (sees [2, 1, 1] ⟨3, [2], 2⟩ = P0) := Lib.hid (sees_P0 (by decide))
      have R3' : Hid (scanF P0 (ks ++ [kx] ++ [kw]) (F3 ks kx kw) = RR) := Lib.hid (by rw [hRR]; exact rows3 ks kx kw H60.out hx hw)
      have TE : Hid (truE [2, 1, 1] ⟨3, [2], 2⟩ (ks ++ [kx] ++ [kw]) (F3 ks kx kw) = 0) := Lib.hid (tru3 ks kx kw H60.out hx hw)
      have TR : Hid (truR [2, 1, 1] ⟨3, [2], 2⟩ (ks ++ [kx] ++ [kw]) (F3 ks kx kw) = RR) := Lib.hid (by rw [truR, if_pos TE.out, P3.out, scanR_eq, R3'.out])
      have R4' : Hid (scanR (sees [2, 2, 2] ⟨4, [], 0⟩) (ks ++ [kx] ++ [kw]) (truF [2, 1, 1] ⟨3, [2], 2⟩ (ks ++ [kx] ++ [kw]) (F3 ks kx kw)) = [(kx, ⟨#[]⟩)]) := Lib.hid (rows4 ks kx kw H60.out hx hw)
      have SRT : Hid ((ks ++ [kw]).Pairwise (· < ·)) := Lib.hid (by
        have := S16.out.facts.1
        rw [List.append_assoc] at this
        refine List.pairwise_append.2 ⟨(List.pairwise_append.1 this).1, by simp, fun a ha b hb => ?_⟩
        simp at hb
        have := H60.out a ha
        omega)
      have G4L : Hid (∀ k, (truF [2, 1, 1] ⟨3, [2], 2⟩ (ks ++ [kx] ++ [kw]) (F3 ks kx kw) k).length ≤ 900) := Lib.hid (fun k => by
        unfold truF
        split
        · rw [dieL_length]; exact len4 k
        · exact len4 k)
      have c := scan_sd S16.out 3 2 u12 1 d12 [2] V16.out.2 900 ⟨len3, len4, Nat.le_refl _⟩
      rw [P3.out, scanR_eq, R3'.out] at c
      have C := Lib.hid c
      obtain ⟨y0, y1, y2⟩ := V16.out.cells
      clear c hRR len3 len4 hx hw
      go_wp2_with fail
      refine C.out.mono ?_
      rintro e w17 ⟨was, rfl, ho, hk⟩
      obtain ⟨wa, wc, hwas⟩ := ownsRow_shape ho
      subst hwas
      have S17 := Lib.hid (S16.out.keep hk); have V17 := Lib.hid (V16.out.keep hk); have B17 := Lib.hid (B16.out.trans (hk.below (B := w2.heap.size) S16.out.size (by simp)))
      have W17 := Lib.hid (ownsRow_low ho (Nat.zero_le _))
      clear ho hk C y0 y1 y2
      obtain ⟨y0, y1, y2⟩ := V17.out.cells
      have c := truncate_sd S17.out 3 2 u12 1 d12 [2] V17.out.2 (by decide) 900 ⟨LEN3.out, LEN4.out, Nat.le_refl _⟩
      rw [TE.out, TR.out] at c
      obtain ⟨G4, hG4⟩ : ∃ G4, G4 = truF [2, 1, 1] ⟨3, [2], 2⟩ (ks ++ [kx] ++ [kw]) (F3 ks kx kw) := ⟨_, rfl⟩
      rw [← hG4] at c R4' G4L
      have C := Lib.hid c
      clear c hG4
      go_wp2_with fail
      refine C.out.mono ?_
      rintro e w18 ⟨lv, rfl, ho, O18, s, f⟩
      obtain ⟨la, lc, hlv⟩ := ownsRow_shape ho
      subst hlv
      obtain ⟨n, hn⟩ : ∃ n, RR.length = n := ⟨_, rfl⟩
      have HN := Lib.hid hn
      have S18 := Lib.hid s; have B18 := Lib.hid (B17.out.trans (S17.out.below f.1)); have W18 := Lib.hid (S17.out.row f.1 W17.out (by decide)); have L18 := Lib.hid (ownsRow_low ho (Nat.zero_le _))
      rw [hn] at W18 L18 ⊢
      clear ho s f C y0 y1 y2 hn
      have c : Calls Try.prog 15 #[.pointer (some ⟨p, 0, none⟩), .int .i64 2] w18 fun e w' => e = .returned (.int .i64 0) ∧ Sd w' w2.heap.size p h O18 [2, 2, 1] (ks ++ [kx] ++ [kw]) G4 ∧ Stp O18 O18 w18 w' := commit_sd S18.out 2 (by decide) (by decide)
      go_wp2_with fail
      refine c.mono ?_
      rintro e w19 ⟨rfl, s, f⟩
      have S19 := Lib.hid s; have B19 := Lib.hid (B18.out.trans (S18.out.below f.1)); have W19 := Lib.hid (S18.out.row f.1 W18.out (by decide)); have L19 := Lib.hid (S18.out.row f.1 L18.out (by decide))
      clear s f c
      have c : Calls Try.prog 15 #[.pointer (some ⟨p, 0, none⟩), .int .i64 3] w19 fun e w' => e = .returned (.int .i64 0) ∧ Sd w' w2.heap.size p h O18 [2, 2, 2] (ks ++ [kx] ++ [kw]) G4 ∧ Stp O18 O18 w19 w' := commit_sd S19.out 3 (by decide) (by decide)
      go_wp2_with fail
      refine c.mono ?_
      rintro e w20 ⟨rfl, s, f⟩
      have S20 := Lib.hid s; have B20 := Lib.hid (B19.out.trans (S19.out.below f.1)); have W20 := Lib.hid (S19.out.row f.1 W19.out (by decide)); have L20 := Lib.hid (S19.out.row f.1 L19.out (by decide))
      clear s f c
      have c : Calls Try.prog 13 #[.pointer (some ⟨p, 0, none⟩)] w20 fun e w' => ∃ u c, e = .returned (.agg #[.int .i64 4, .slice u 0 c]) ∧ Vo w' (.slice u 0 c) [] ∧ Kept w20 w' [] := now_sd S20.out
      go_wp2_with fail
      refine c.mono ?_
      rintro e w21 ⟨u21, d21, rfl, vo, hk⟩
      have S21 := Lib.hid (S20.out.keep hk); have B21 := Lib.hid (B20.out.trans (hk.below (B := w2.heap.size) S20.out.size (by simp))); have W21 := Lib.hid (ownsRow_fr W20.out (Fr.ofKept hk 0 []) (by simp)); have L21 := Lib.hid (ownsRow_fr L20.out (Fr.ofKept hk 0 []) (by simp))
      clear c
      have c := scan_sd S21.out 4 0 u21 0 d21 [] vo 900 ⟨LEN3.out, G4L.out, Nat.le_refl _⟩
      rw [R4'.out] at c
      have C := Lib.hid c
      clear c vo hk
      go_wp2_with fail
      refine C.out.mono ?_
      rintro e w22 ⟨nv, rfl, ho, hk⟩
      obtain ⟨na, nc, hnv⟩ := ownsRow_shape ho
      subst hnv
      have B22 := Lib.hid (B21.out.trans (hk.below (B := w2.heap.size) S21.out.size (by simp))); have W22 := Lib.hid (ownsRow_fr W21.out (Fr.ofKept hk 0 []) (by simp)); have L22 := Lib.hid (ownsRow_fr L21.out (Fr.ofKept hk 0 []) (by simp))
      have N22 : Hid (w22.ownsRow w21.heap.size 42 2 (.slice na 1 nc) 1 (rcl [(kx, ⟨#[]⟩)])) := Lib.hid ho
      have hn30 : 1 ≤ n ∧ n ≤ 40 := by rw [← HN.out, HRR.out]; simp; have := HI30.out; omega
      obtain ⟨hn1, hn40⟩ := hn30
      clear ho hk C
      go_wp2
      go_loopw [23] (fun t wr => ∃ k : Nat, t = .int .i64 ((k : Int) + 1) ∧ k + 1 ≤ n ∧ Kept w22 wr []) (fun t _ => n - (intOf t).toNat)
      case atStart => exact ⟨0, rfl, by omega, Kept.refl w22 []⟩
      case round =>
        obtain ⟨k, rfl, hk, hkw⟩ := hrel
        have K := Lib.hid hkw
        clear hkw
        by_cases hlt2 : k + 1 < n
        · obtain ⟨r1, hr1⟩ : ∃ r, RR[k]? = some r := ⟨_, List.getElem?_eq_getElem (by have := HN.out; omega)⟩
          obtain ⟨r2, hr2⟩ : ∃ r, RR[k + 1]? = some r := ⟨_, List.getElem?_eq_getElem (by have := HN.out; omega)⟩
          obtain ⟨k1, t1⟩ := r1
          obtain ⟨k2, t2⟩ := r2
          have hlt12 : k1 < k2 := by
            have h := SRT.out
            rw [List.pairwise_iff_getElem] at h
            rw [HRR.out, List.getElem?_map, Option.map_eq_some_iff] at hr1 hr2
            obtain ⟨q1, e1, e1'⟩ := hr1
            obtain ⟨q2, e2, e2'⟩ := hr2
            obtain ⟨i1, j1⟩ := List.getElem?_eq_some_iff.1 e1
            obtain ⟨i2, j2⟩ := List.getElem?_eq_some_iff.1 e2
            have := h k (k + 1) i1 i2 (by omega)
            rw [j1, j2] at this
            simp only [Prod.mk.injEq] at e1' e2'
            omega
          have ro := ownsRow_fr L22.out (Fr.ofKept K.out 0 []) (by simp)
          rw [← HN.out] at ro
          obtain ⟨gl, hgl⟩ : ∃ gl, la = some ⟨gl, 0, none⟩ := by
            rcases ro.2 with ⟨_, h0⟩ | ⟨gk, capk, curk, hv, _⟩
            · have := HN.out; omega
            · simp only [Value.slice.injEq] at hv
              exact ⟨gk, hv.1⟩
          subst hgl
          obtain ⟨c1, _⟩ := rcl_cells ro hr1
          obtain ⟨c2, _⟩ := rcl_cells ro hr2
          have x2 : (k : Int) + 1 < (n : Int) := by omega
          have x3 : ¬ k2 ≤ k1 := by omega
          clear ro hr1 hr2 hlt12
          go_wp2_with fail
          go_quiet (fail)
          go_wp2
          go_roundw
          case rel => exact ⟨k + 1, by go_num, by omega, K.out.drewN _⟩
          case measure => simp [intOf]; omega
        · have x2 : ¬ (k : Int) + 1 < (n : Int) := by omega
          have cr := Lib.hid (lrows_same (R := RR) (w := wr) (by rw [HN.out]; exact ownsRow_fr L22.out (Fr.ofKept K.out 0 []) (by simp)) (by rw [HN.out]; exact ownsRow_fr W22.out (Fr.ofKept K.out 0 []) (by simp)))
          obtain ⟨gn, hgn⟩ : ∃ gn, na = some ⟨gn, 0, none⟩ := by
            rcases N22.out.2 with ⟨_, h0⟩ | ⟨gk, capk, curk, hv, _⟩
            · omega
            · simp only [Value.slice.injEq] at hv
              exact ⟨gk, hv.1⟩
          subst hgn
          obtain ⟨n1, _⟩ := rcl_cells (R := [(kx, ⟨#[]⟩)]) (k := 0) N22.out rfl
          rw [Nat.zero_mul] at n1
          have NC := Lib.hid n1
          clear n1
          go_wp2_with fail
          rw [show n = RR.length from HN.out.symm] at *
          refine cr.out.mono ?_
          rintro e w30 ⟨rfl, k30⟩
          have n1 := (K.out.trans k30 (by simp)).cell (p := ⟨gn, 0, none⟩) (by simp) NC.out
          rw [HKX.out] at n1
          have B30 := Lib.hid (B22.out.trans ((K.out.trans k30 (by simp)).below (B := w2.heap.size) (Nat.le_trans (Nat.le_refl _) B22.out.size) (by simp)))
          clear k30
          go_wp2
          go_ret
          exact ⟨rfl, (Kept.below K2.out (Nat.le_refl _) (by simp)).trans (B30.out.mono K2.out.size)⟩

set_option maxRecDepth 100000 in
theorem lifted (os : Os) (started : os.Started) (H : Type) (enc : TypeId × Value → H) :
    ReturnsInHanded {} Try.checked os 7 .any (Rows.heapTruncatesSpec.pre6 enc Try.prog Try.f7 Rows.heapTruncatesRow.domain false) (Rows.heapTruncatesSpec.post enc Try.prog Try.f7 false true false false) := by
  refine returnsInHanded_of_change (C := Try.checked) own started (by kernel_rfl) Try.func7
    (ChangeSpec.witness6 (enc := enc) (C := Try.checked) false ⟨#[], #[.slice none 0 0, .int .u8 0, .int .i64 0], []⟩ 8 (by kernel_rfl) (by kernel_rfl) (by kernel_rfl) (by kernel_rfl)) ?_
  intro W base args ds gs before hval0 hW hcnd _
  have hval : ∀ (j : Nat) t v, Try.f7.params[j]? = some t → args[j]? = some v → Value.okWide Try.prog W .any base t v := hval0
  have hW' := hW
  obtain ⟨p, q, hA0, hV, rfl, hfz, hnd⟩ := hW
  have hA : DataW.TrodAll enc Try.prog W 0 (fun _ => true) true Try.f7.params.toList args.toList ds p := hA0
  rw [Try.params7] at hA hval
  obtain ⟨v0, vs0, d0, ds0, p0, q0, hargs, rfl, rfl, h0, r0⟩ := trodAll_cons hA
  obtain ⟨v1, vs1, d1, ds1, p1, q1, rfl, rfl, rfl, h1, r1⟩ := trodAll_cons r0
  obtain ⟨v2, vs2, d2, ds2, p2, q2, rfl, rfl, rfl, h2, r2⟩ := trodAll_cons r1
  obtain ⟨rfl, rfl, rfl⟩ := trodAll_nil r2
  obtain rfl : args = #[v0, v1, v2] := by cases args; simp_all
  obtain ⟨rfl, rfl⟩ := trodVars_none hV
  obtain ⟨a0, len0, cap0, rfl⟩ := okWide_slice Try.underlying32 (hval 0 32 v0 rfl rfl)
  have k0 := h0
  have lt0 : ∀ x ∈ p0, x.block < W.heap.size := by obtain ⟨m, hm⟩ := k0; exact DataW.trod_lt m _ _ _ hm
  obtain ⟨z0, w0⟩ : ∃ zs, IsRow .i64 W a0 len0 cap0 zs := by
    obtain ⟨fuel, hf⟩ := h0
    rcases open_ints Try.underlying32 Try.underlying2 (by kernel_rfl) hf with ⟨hcs, _⟩ | ⟨x, l, c, zs, hcs, _, hl, hm, hz, _, hcell, hwz⟩
    · simp [Value.cells] at hcs
      obtain ⟨rfl, rfl, rfl⟩ := hcs
      exact ⟨[], .inl ⟨rfl, rfl, rfl, rfl⟩⟩
    · simp [Value.cells] at hcs
      obtain ⟨rfl, rfl, rfl⟩ := hcs
      exact ⟨zs, .inr ⟨_, rfl, hl, hm, by simpa using hz, hcell, hwz⟩⟩
  obtain ⟨a1, rfl, rfl, rfl, w1⟩ := open_int Try.underlying5 (hval 1 5 v1 rfl rfl) h1
  obtain ⟨a2, rfl, rfl, rfl, w2⟩ := open_int Try.underlying2 (hval 2 2 v2 rfl rfl) h2
  clear hA0 hval0
  refine (walk a0 len0 cap0 z0 a1 a2 W w0 w1 w2).mono fun e W' ⟨he, bel⟩ => ?_
  subst he
  exact ⟨_, rfl, _, _, _, [], _, [], hW', trodAll_mk1 (shut_bool Try.underlying4 _), (trodAll_cons_mk (Below.trod laidOut (by kernel_rfl) (of_decide_eq_true (by kernel_rfl)) k0 bel lt0) (trodAll_cons_mk (shut_int Try.underlying5 w1) (trodAll_cons_mk (shut_int Try.underlying2 w2) trodAll_mk0))), rfl, bel.frame _, fun h => by cases h⟩

theorem over : Rows.heapTruncatesRow.holds Try.pinned (OpenSpec.ofChange Rows.heapTruncatesSpec) :=
  OpenClaim.holds_of_wide 7 Try.f7 rfl rfl rfl rfl rfl rfl rfl ⟨rfl, rfl, rfl, rfl, rfl⟩ rfl rfl rfl rfl rfl (by kernel_rfl) Try.func7 (by kernel_rfl)
    (of_decide_eq_true (by kernel_rfl)) (by unfold Func.isWrapper; first | (rw [if_pos (by decide +kernel)]; kernel_rfl) | (rw [if_neg (by decide +kernel)]; exact ⟨rfl, rfl⟩))
    (fun os started H enc _ => lifted os started H enc)

theorem proved : Rows.HeapTruncatesSaid :=
  over
end Go.Proofs.Ytpknnpdnhdcnjaa.heapTruncates

namespace Go.Proofs.Ytpknnpdnhdcnjaa
theorem heapTruncates_holds : Rows.HeapTruncatesSaid := heapTruncates.proved
#print axioms heapTruncates_holds
end Go.Proofs.Ytpknnpdnhdcnjaa

