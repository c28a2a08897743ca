/-
  Proved: whatever the arguments are, carrierlaw08.RelErrs answers true and leaves its arguments as they were. No condition.
-/
import Derived.Test.YtdjhcdgehmpikaaQg
import Derived.ProofKit
import Derived.OpenShut
import Derived.ChangeOld
import Derived.Below
import Derived.Laws.BytesString
namespace Go.Proofs.Ytdjhcdgehmpikaa.relErrs
open Go.ChangeShapes Go.WideShapes Go.ChangeAt Go.RowKit
set_option linter.unusedVariables false

theorem own : ownKnob Try.prog.godebug = none := by kernel_rfl
theorem laidOut : laidOutB Try.prog = true := by kernel_rfl

theorem getElem!_replicate (n i : Nat) (v : Value) (hi : i < n) : (Array.replicate n v)[i]! = v := by
  rw [getElem!_pos _ _ (by simpa using hi)]; simp

theorem Try.infoUB : (Try.prog.info? 5).map (fun i => (i.zero, i.size, i.bytes)) = some (some (.int .u8 0), 1, 1) := by kernel_rfl

theorem made_bytes (k : Nat) : madeCells (Value.int .u8 0).cells k = (bc (List.replicate k 0)).toArray := by
  apply Array.ext
  · rw [size_madeCells, List.size_toArray, bc_length, List.length_replicate]
  · intro i h1 h2
    have e : (Value.int .u8 0).cells = Array.replicate 1 (.int .u8 0) := rfl
    simp only [madeCells, e, Array.size_replicate, Array.getElem_map, bc, List.map_replicate, List.getElem_toArray, List.getElem_replicate]
    rw [getElem!_replicate _ _ _ (Nat.mod_lt _ (by decide))]
    rfl

theorem mk_bytes (k : Nat) (hk : k ≤ 131072) (w : World) : (Instr.makeSlice 28 (.int .i64 k) (.int .i64 k)).run Try.prog w = .ok (.slice (some ⟨w.heap.size, 0, none⟩) k k) (w.alloc (.cells (bc (List.replicate k 0)).toArray 5)) := by
  obtain ⟨i0, hi, hz0, hz1, hz2⟩ := info_parts Try.infoUB
  have h := run_make (P := Try.prog) w 28 5 i0 _ Try.underlying28 hi hz0 .i64 .i64 k k (by omega) (by omega) (by rw [hz2]; omega) (by omega)
  rw [h, hz1]
  have e := made_bytes k
  simp only [Int.toNat_natCast, Nat.mul_one]
  rw [e]

theorem foldl_push (l : List UInt8) : ∀ (s : ByteArray), ((l.map fun b => (b.toNat : Int)).foldl (fun r n => r.push (UInt8.ofNat n.toNat)) s).data.toList = s.data.toList ++ l := by
  induction l with
  | nil => intro s; simp
  | cons b r ih =>
    intro s
    rw [List.map_cons, List.foldl_cons, ih]
    simp [ByteArray.push]

/-- 'string(b)' of bytes that can be read, at an address. -/
theorem run_str {P : Program} (w : World) (src dst e : TypeId) (hs : P.underlying src = some (.slice e)) (he : P.underlying e = some (.int .u8)) (hd : P.underlying dst = some .string) (a : Addr) (c : Nat) (l : List UInt8) (n : Nat) (hn : n = l.length) (h : ∀ j u, (bc l)[j]? = some u → w.cell? (a.add j) = some u) :
    (convert src dst (.slice (some a) n c)).run P w = .ok (.string ⟨l.toArray⟩) w := by
  subst hn
  have hl : (loadCells a l.length).run P w = .ok (bc l).toArray w := by
    have := run_loadCells_list (P := P) w a (bc l) h
    rwa [bc_length] at this
  have hm : (bc l).toArray = ((l.map fun b => (b.toNat : Int)).map (Value.int .u8)).toArray := by simp [bc]
  rw [run_convert_bytes_string w src dst e _ _ _ hs he hd, run_bytesToString w a l.length c (l.map fun b => (b.toNat : Int)) (by rw [hl, hm])]
  congr 2
  have h2 := foldl_push l ByteArray.empty
  generalize (l.map fun b => (b.toNat : Int)).foldl (fun r n => r.push (UInt8.ofNat n.toNat)) ByteArray.empty = s at h2
  cases s with
  | mk d =>
    congr 1
    apply Array.ext'
    simpa using h2

/-- A text of so many noughts, made anew. -/
theorem text_of (n : Nat) (hn : n ≤ 1000) : ∃ (C : Array Value) (txt : ByteArray), txt.size = n ∧ (∀ w, (Instr.makeSlice 28 (.int .i64 n) (.int .i64 n)).run Try.prog w = .ok (.slice (some ⟨w.heap.size, 0, none⟩) n n) (w.alloc (.cells C 5))) ∧
    ∀ (w : World) (g : Nat), w.heap.size = g → (convert 28 9 (.slice (some ⟨g, 0, none⟩) n n)).run Try.prog (w.alloc (.cells C 5)) = .ok (.string txt) (w.alloc (.cells C 5)) := by
  refine ⟨(bc (List.replicate n 0)).toArray, ⟨(List.replicate n (0 : UInt8)).toArray⟩, ?_, fun w => mk_bytes n (by omega) w, fun w g hg => ?_⟩
  · simp [ByteArray.size]
  · subst hg
    refine run_str (P := Try.prog) _ 28 9 5 Try.underlying28 Try.underlying5 Try.underlying9 _ n (List.replicate n 0) n (by simp) (fun j u hu => ?_)
    rw [Addr.add_lit, cell_of_row _ _ _ _ _ _ (heap_alloc_new w _), Nat.zero_add]
    simpa using hu

/-- When a statement on three new tables is told ErrArg. -/
theorem errs (q : Nat) (tb key : Int) (txt : ByteArray) : runE [1] ⟨2, [1], 1⟩ q tb key txt (List.replicate 3 noTab) = 1 ↔ (q < 1 ∨ 6 < q ∨ tb < 0 ∨ 2 < tb ∨ (q < 3 ∧ 40 < txt.size)) := by
  unfold runE
  by_cases h0 : tb < 0
  · rw [if_pos h0]; simp [h0]
  · rw [if_neg h0]
    by_cases h2 : 2 < tb
    · have : (List.replicate 3 noTab)[tb.toNat]? = none := by rw [List.getElem?_eq_none]; simp; omega
      rw [this]; simp [h2]
    · have : (List.replicate 3 noTab)[tb.toNat]? = some noTab := by rw [List.getElem?_replicate]; rw [if_pos (by omega)]
      rw [this]
      simp only
      have st1 : stAt [1] 1 = 1 := by decide
      have f0 : ∀ P : Vr → Bool, (noTab.F key).findIdx? P = none := fun P => rfl
      have hins : insE [1] ⟨2, [1], 1⟩ (noTab.F key) = 0 := by unfold insE; simp [st1, f0]
      have hdel : (delL [1] ⟨2, [1], 1⟩ (noTab.F key)).1 = 4 := by unfold delL; simp [st1, f0]
      have htru : truE [1] ⟨2, [1], 1⟩ noTab.ks noTab.F = 0 := by decide
      by_cases k1 : q = 1 ∨ q = 2
      · have : (runH [1] ⟨2, [1], 1⟩ q key txt noTab).e = (putH [1] ⟨2, [1], 1⟩ q key txt noTab).1 := by rw [runH, if_pos k1]
        rw [this]
        unfold putH
        by_cases h40 : 40 < txt.size
        · rw [if_pos h40]; simp; omega
        · rw [if_neg h40]
          by_cases k11 : q = 1
          · rw [if_pos k11, hins]; simp; omega
          · rw [if_neg k11, hdel]; simp; omega
      · by_cases k3 : q = 3
        · subst k3
          have : (runH [1] ⟨2, [1], 1⟩ 3 key txt noTab).e = 4 := by rw [runH, if_neg k1, if_pos rfl]; exact hdel
          rw [this]; simp; omega
        · by_cases k4 : q = 4
          · subst k4
            have : (runH [1] ⟨2, [1], 1⟩ 4 key txt noTab).e = 0 := by rw [runH, if_neg k1, if_neg k3, if_pos rfl]; exact htru
            rw [this]; simp; omega
          · by_cases k5 : q = 5
            · subst k5
              have : (runH [1] ⟨2, [1], 1⟩ 5 key txt noTab).e = 4 := by
                rw [runH, if_neg k1, if_neg k3, if_neg k4, if_pos rfl, getH]
                simp [f0]
              rw [this]; simp; omega
            · by_cases k6 : q = 6
              · subst k6
                have : (runH [1] ⟨2, [1], 1⟩ 6 key txt noTab).e = 0 := by rw [runH, if_neg k1, if_neg k3, if_neg k4, if_neg k5, if_pos rfl]
                rw [this]; simp; omega
              · have : (runH [1] ⟨2, [1], 1⟩ q key txt noTab).e = 1 := by rw [runH, if_neg k1, if_neg k3, if_neg k4, if_neg k5, if_neg k6]
                rw [this]; simp; omega

set_option maxHeartbeats 8000000 in
set_option maxRecDepth 100000 in
theorem walk (a0 a1 a2 a3 : Int) (w0 : (Lit.int .u8 a0).wf = true) (w1 : (Lit.int .i64 a1).wf = true) (w2 : (Lit.int .i64 a2).wf = true) (w3 : (Lit.int .u8 a3).wf = true) (W : World) :
    Calls Try.prog 4 #[.int .u8 a0, .int .i64 a1, .int .i64 a2, .int .u8 a3] W fun e w' => e = .returned (.bool true) ∧ Below W.heap.size W w' := by
  obtain ⟨b0a, b0b⟩ := bounds_u8 w0
  obtain ⟨b3a, b3b⟩ := bounds_u8 w3
  obtain ⟨q, rfl⟩ : ∃ q : Nat, a0 = q := ⟨a0.toNat, by omega⟩
  obtain ⟨n, hn⟩ : ∃ n : Nat, a3.tmod 60 = n := ⟨(a3.tmod 60).toNat, by have := Int.tmod_nonneg 60 b3a; omega⟩
  have hn60 : n < 60 := by have := Int.tmod_lt_of_pos a3 (show (0 : Int) < 60 by omega); omega
  obtain ⟨C, txt, hsz, hmk, hcv⟩ := text_of n (by omega)
  have W1 := Lib.hid w1; have W2 := Lib.hid w2
  have HSZ := Lib.hid hsz; have HCV := Lib.hid hcv
  clear w0 w1 w2 w3 hsz hcv
  go_enter Try.func4, Try.ntmps4
  go_wp2_with fail
  refine (row_any W).mono ?_
  rintro e w1 ⟨rfl, k1⟩
  have K1 := Lib.hid k1
  clear k1
  go_wp2_with fail
  refine (mnew_any w1).mono ?_
  rintro e w2 ⟨p, b, v1, rfl, hm, hk⟩
  have M2 := Lib.hid hm; have K2 := Lib.hid (K1.out.trans hk (by simp)); have H1 := Lib.hid K1.out.size
  clear hm hk
  go_wp2_with fail
  refine (relnew_any M2.out 3).mono ?_
  rintro e w3 ⟨r, O3, rfl, s, hk, _⟩
  have S3 : Hid (Sto w3 w1.heap.size p r O3 [] (List.replicate 3 noTab)) := Lib.hid s
  have K3 := Lib.hid (K2.out.trans hk (by simp))
  clear s hk
  have c4 : Calls Try.prog 16 #[.pointer (some ⟨p, 0, none⟩)] w3 fun e w' => e = .returned (.tuple #[.int .i64 1, .int .i64 0]) ∧ ∃ O', Sto w' w1.heap.size p r O' [1] (List.replicate 3 noTab) ∧ Stp O3 O' w3 w' := begin_sto S3.out (by decide) (by decide)
  go_wp2_with fail
  refine c4.mono ?_
  rintro e w4 ⟨rfl, O4, s, f⟩
  have S4 := Lib.hid s; have L4 := Lib.hid ((K3.out.below (Nat.le_refl _) (by simp)).trans ((S3.out.below f.1).mono H1.out))
  clear s f c4
  have c5 : Calls Try.prog 28 #[.pointer (some ⟨p, 0, none⟩)] w4 fun e w' => ∃ u c, e = .returned (.agg #[.int .i64 2, .slice u 1 c]) ∧ Vo w' (.slice u 1 c) [1] ∧ Kept w4 w' [] := now_sto S4.out
  go_wp2_with fail
  refine c5.mono ?_
  rintro e w5 ⟨u5, d5, rfl, vo, hk⟩
  have hcv5 := HCV.out (w5.alloc (.cells #[.int .i64 2, .slice u5 1 d5, .int .i64 1] 51)) (w5.heap.size + 1) (by simp)
  obtain ⟨W8, hW8⟩ : ∃ W8, W8 = ((w5.alloc (.cells #[.int .i64 2, .slice u5 1 d5, .int .i64 1] 51)).alloc (.cells C 5)).alloc (.cells #[.int .u8 (q : Int), .int .i64 a1, .int .i64 a2, .string txt] 58) := ⟨_, rfl⟩
  have k8 : Kept w5 W8 [] := by rw [hW8]; exact (((Kept.refl w5 []).alloc _).alloc _).alloc _
  have S8 := Lib.hid (S4.out.keep (hk.trans k8 (by simp)))
  have V8 := Lib.hid (vo.keep k8)
  have L8 := Lib.hid (L4.out.trans (((hk.trans k8 (by simp)).below (B := w1.heap.size) S4.out.size (by simp)).mono H1.out))
  have CR := Lib.hid (run_any S8.out 2 1 u5 1 d5 [1] V8.out (by decide) q a1 W1.out a2 txt W2.out 0 (few_none 0 3) (by decide))
  obtain ⟨E, hE⟩ : ∃ E, runE [1] ⟨2, [1], 1⟩ q a1 a2 txt (List.replicate 3 noTab) = E := ⟨_, rfl⟩
  have HE : Hid (E = 1 ↔ (q < 1 ∨ 6 < q ∨ a1 < 0 ∨ 2 < a1 ∨ (q < 3 ∧ 40 < n))) := Lib.hid (by rw [← hE, errs, HSZ.out])
  rw [hE] at CR
  clear vo hk c5 k8 hE
  go_wp2_with fail
  rw [← hW8]
  clear hW8 hcv5
  refine CR.out.mono ?_
  rintro e w9 ⟨v9, rfl, _, O9, s, f⟩
  have hT : (runT [1] ⟨2, [1], 1⟩ q a1 a2 txt (List.replicate 3 noTab)).length = 3 := by rw [runT_length]; rfl
  have S9 := Lib.hid s; have L9 := Lib.hid (L8.out.trans ((S8.out.below f.1).mono H1.out))
  have CH : Hid (Calls Try.prog 30 #[.pointer (some ⟨r, 0, none⟩), .int .i64 a1] w9 fun e w' => (∃ x : Option Addr, e = .returned (.pointer x) ∧ (x = none ↔ a1 < 0 ∨ 2 < a1)) ∧ w9 = w') := Lib.hid ((heapis_sto S9.out a1 W1.out).mono (by
    rintro e w' ⟨⟨x, rfl, hx⟩, rfl⟩
    exact ⟨⟨x, rfl, by rw [hx, hT]; omega⟩, rfl⟩))
  clear s f hT
  have hEE := HE.out
  have way : q < 1 ∨ (¬ q < 1 ∧ 6 < q) ∨ ((1 ≤ q ∧ q ≤ 6) ∧ a1 < 0) ∨ ((1 ≤ q ∧ q ≤ 6) ∧ 2 < a1) ∨ ((3 ≤ q ∧ q ≤ 6) ∧ 0 ≤ a1 ∧ a1 ≤ 2) ∨ ((1 ≤ q ∧ q ≤ 2) ∧ (0 ≤ a1 ∧ a1 ≤ 2) ∧ 40 < n) ∨ ((1 ≤ q ∧ q ≤ 2) ∧ (0 ≤ a1 ∧ a1 ≤ 2) ∧ n ≤ 40) := by omega
  rcases way with h | h | h | h | h | h | h
  · have x1 : (q : Int) < 1 := by omega
    have hE1 : E = 1 := hEE.2 (by omega)
    subst hE1
    clear hEE HE CR
    by_cases ho : a1 < 0 ∨ 2 < a1
    · by_cases x3 : a1 < 0
      · go_wp2_with fail
        refine CH.out.mono ?_
        rintro e w' ⟨⟨x, rfl, hx⟩, rfl⟩
        obtain rfl := hx.2 (by omega)
        clear hx
        go_wp2
        go_ret
        first | exact ⟨rfl, L9.out⟩ | exact ⟨retb (by simp; omega), L9.out⟩
      · have x4 : 2 < a1 := by omega
        go_wp2_with fail
        refine CH.out.mono ?_
        rintro e w' ⟨⟨x, rfl, hx⟩, rfl⟩
        obtain rfl := hx.2 (by omega)
        clear hx
        go_wp2
        go_ret
        first | exact ⟨rfl, L9.out⟩ | exact ⟨retb (by simp; omega), L9.out⟩
    · have x3 : ¬ a1 < 0 := by omega
      have x4 : ¬ 2 < a1 := by omega
      go_wp2_with fail
      refine CH.out.mono ?_
      rintro e w' ⟨⟨x, rfl, hx⟩, rfl⟩
      obtain ⟨y, rfl⟩ : ∃ y, x = some y := by
        cases x with
        | none => have := hx.1 rfl; omega
        | some y => exact ⟨y, rfl⟩
      clear hx
      go_wp2
      go_ret
      first | exact ⟨rfl, L9.out⟩ | exact ⟨retb (by simp; omega), L9.out⟩
  · have x1 : ¬ (q : Int) < 1 := by omega
    have x2 : (6 : Int) < (q : Int) := by omega
    have hE1 : E = 1 := hEE.2 (by omega)
    subst hE1
    clear hEE HE CR
    by_cases ho : a1 < 0 ∨ 2 < a1
    · by_cases x3 : a1 < 0
      · go_wp2_with fail
        refine CH.out.mono ?_
        rintro e w' ⟨⟨x, rfl, hx⟩, rfl⟩
        obtain rfl := hx.2 (by omega)
        clear hx
        go_wp2
        go_ret
        first | exact ⟨rfl, L9.out⟩ | exact ⟨retb (by simp; omega), L9.out⟩
      · have x4 : 2 < a1 := by omega
        go_wp2_with fail
        refine CH.out.mono ?_
        rintro e w' ⟨⟨x, rfl, hx⟩, rfl⟩
        obtain rfl := hx.2 (by omega)
        clear hx
        go_wp2
        go_ret
        first | exact ⟨rfl, L9.out⟩ | exact ⟨retb (by simp; omega), L9.out⟩
    · have x3 : ¬ a1 < 0 := by omega
      have x4 : ¬ 2 < a1 := by omega
      go_wp2_with fail
      refine CH.out.mono ?_
      rintro e w' ⟨⟨x, rfl, hx⟩, rfl⟩
      obtain ⟨y, rfl⟩ : ∃ y, x = some y := by
        cases x with
        | none => have := hx.1 rfl; omega
        | some y => exact ⟨y, rfl⟩
      clear hx
      go_wp2
      go_ret
      first | exact ⟨rfl, L9.out⟩ | exact ⟨retb (by simp; omega), L9.out⟩
  · have x1 : ¬ (q : Int) < 1 := by omega
    have x2 : ¬ (6 : Int) < (q : Int) := by omega
    have x3 : a1 < 0 := by omega
    have hE1 : E = 1 := hEE.2 (by omega)
    subst hE1
    clear hEE HE CR
    go_wp2_with fail
    refine CH.out.mono ?_
    rintro e w' ⟨⟨x, rfl, hx⟩, rfl⟩
    obtain rfl := hx.2 (by omega)
    clear hx
    go_wp2
    go_ret
    first | exact ⟨rfl, L9.out⟩ | exact ⟨retb (by simp; omega), L9.out⟩
  · have x1 : ¬ (q : Int) < 1 := by omega
    have x2 : ¬ (6 : Int) < (q : Int) := by omega
    have x3 : ¬ a1 < 0 := by omega
    have x4 : 2 < a1 := by omega
    have hE1 : E = 1 := hEE.2 (by omega)
    subst hE1
    clear hEE HE CR
    go_wp2_with fail
    refine CH.out.mono ?_
    rintro e w' ⟨⟨x, rfl, hx⟩, rfl⟩
    obtain rfl := hx.2 (by omega)
    clear hx
    go_wp2
    go_ret
    first | exact ⟨rfl, L9.out⟩ | exact ⟨retb (by simp; omega), L9.out⟩
  · have x1 : ¬ (q : Int) < 1 := by omega
    have x2 : ¬ (6 : Int) < (q : Int) := by omega
    have x3 : ¬ a1 < 0 := by omega
    have x4 : ¬ 2 < a1 := by omega
    have x5 : ¬ (q : Int) < 3 := by omega
    have hE1 : (E == 1) = false := beq_eq_false_iff_ne.2 (fun e => by have := hEE.1 e; omega)
    clear hEE HE CR
    go_wp2_with fail
    refine CH.out.mono ?_
    rintro e w' ⟨⟨x, rfl, hx⟩, rfl⟩
    obtain ⟨y, rfl⟩ : ∃ y, x = some y := by
      cases x with
      | none => have := hx.1 rfl; omega
      | some y => exact ⟨y, rfl⟩
    clear hx
    go_wp2
    go_ret
    first | exact ⟨rfl, L9.out⟩ | exact ⟨retb (by simp; omega), L9.out⟩
  · have x1 : ¬ (q : Int) < 1 := by omega
    have x2 : ¬ (6 : Int) < (q : Int) := by omega
    have x3 : ¬ a1 < 0 := by omega
    have x4 : ¬ 2 < a1 := by omega
    have x5 : (q : Int) < 3 := by omega
    have x6 : (40 : Int) < (n : Int) := by omega
    have hE1 : E = 1 := hEE.2 (by omega)
    subst hE1
    clear hEE HE CR
    go_wp2_with fail
    refine CH.out.mono ?_
    rintro e w' ⟨⟨x, rfl, hx⟩, rfl⟩
    obtain ⟨y, rfl⟩ : ∃ y, x = some y := by
      cases x with
      | none => have := hx.1 rfl; omega
      | some y => exact ⟨y, rfl⟩
    clear hx
    go_wp2
    go_ret
    first | exact ⟨rfl, L9.out⟩ | exact ⟨retb (by simp; omega), L9.out⟩
  · have x1 : ¬ (q : Int) < 1 := by omega
    have x2 : ¬ (6 : Int) < (q : Int) := by omega
    have x3 : ¬ a1 < 0 := by omega
    have x4 : ¬ 2 < a1 := by omega
    have x5 : (q : Int) < 3 := by omega
    have x6 : ¬ (40 : Int) < (n : Int) := by omega
    have hE1 : (E == 1) = false := beq_eq_false_iff_ne.2 (fun e => by have := hEE.1 e; omega)
    clear hEE HE CR
    go_wp2_with fail
    refine CH.out.mono ?_
    rintro e w' ⟨⟨x, rfl, hx⟩, rfl⟩
    obtain ⟨y, rfl⟩ : ∃ y, x = some y := by
      cases x with
      | none => have := hx.1 rfl; omega
      | some y => exact ⟨y, rfl⟩
    clear hx
    go_wp2
    go_ret
    first | exact ⟨rfl, L9.out⟩ | exact ⟨retb (by simp; omega), L9.out⟩

set_option maxRecDepth 100000 in
theorem lifted (os : Os) (started : os.Started) (H : Type) (enc : TypeId × Value → H) :
    ReturnsInHanded {} Try.checked os 4 .any (Rows.relErrsSpec.pre6 enc Try.prog Try.f4 Rows.relErrsRow.domain false) (Rows.relErrsSpec.post enc Try.prog Try.f4 false true false false) := by
  refine returnsInHanded_of_change (C := Try.checked) own started (by kernel_rfl) Try.func4
    (ChangeSpec.witness6 (enc := enc) (C := Try.checked) false ⟨#[], #[.int .u8 0, .int .i64 0, .int .i64 0, .int .u8 0], []⟩ 8 (by kernel_rfl) (by kernel_rfl) (by kernel_rfl) (by kernel_rfl)) ?_
  intro W base args ds gs before hval0 hW hcnd _
  have hval : ∀ (j : Nat) t v, Try.f4.params[j]? = some t → args[j]? = some v → Value.okWide Try.prog W .any base t v := hval0
  have hW' := hW
  obtain ⟨p, q, hA0, hV, rfl, hfz, hnd⟩ := hW
  have hA : DataW.TrodAll enc Try.prog W 0 (fun _ => true) true Try.f4.params.toList args.toList ds p := hA0
  rw [Try.params4] at hA hval
  obtain ⟨v0, vs0, d0, ds0, p0, q0, hargs, rfl, rfl, h0, r0⟩ := trodAll_cons hA
  obtain ⟨v1, vs1, d1, ds1, p1, q1, rfl, rfl, rfl, h1, r1⟩ := trodAll_cons r0
  obtain ⟨v2, vs2, d2, ds2, p2, q2, rfl, rfl, rfl, h2, r2⟩ := trodAll_cons r1
  obtain ⟨v3, vs3, d3, ds3, p3, q3, rfl, rfl, rfl, h3, r3⟩ := trodAll_cons r2
  obtain ⟨rfl, rfl, rfl⟩ := trodAll_nil r3
  obtain rfl : args = #[v0, v1, v2, v3] := by cases args; simp_all
  obtain ⟨rfl, rfl⟩ := trodVars_none hV
  obtain ⟨a0, rfl, rfl, rfl, w0⟩ := open_int Try.underlying5 (hval 0 5 v0 rfl rfl) h0
  obtain ⟨a1, rfl, rfl, rfl, w1⟩ := open_int Try.underlying3 (hval 1 3 v1 rfl rfl) h1
  obtain ⟨a2, rfl, rfl, rfl, w2⟩ := open_int Try.underlying2 (hval 2 2 v2 rfl rfl) h2
  obtain ⟨a3, rfl, rfl, rfl, w3⟩ := open_int Try.underlying5 (hval 3 5 v3 rfl rfl) h3
  clear hA0 hval0
  simp only [List.append_nil] at hW'
  refine (walk a0 a1 a2 a3 w0 w1 w2 w3 W).mono fun e W' ⟨he, bel⟩ => ?_
  subst he
  exact ⟨_, rfl, _, _, _, [], _, [], hW', trodAll_mk1 (shut_bool Try.underlying4 _), (trodAll_cons_mk (shut_int Try.underlying5 w0) (trodAll_cons_mk (shut_int Try.underlying3 w1) (trodAll_cons_mk (shut_int Try.underlying2 w2) (trodAll_cons_mk (shut_int Try.underlying5 w3) trodAll_mk0)))), rfl, bel.frame _, fun h => by cases h⟩

theorem over : Rows.relErrsRow.holds Try.pinned (OpenSpec.ofChange Rows.relErrsSpec) :=
  OpenClaim.holds_of_wide 4 Try.f4 rfl rfl rfl rfl rfl rfl rfl ⟨rfl, rfl, rfl, rfl, rfl⟩ rfl rfl rfl rfl rfl (by kernel_rfl) Try.func4 (by kernel_rfl)
    (of_decide_eq_true (by kernel_rfl)) (by unfold Func.isWrapper; first | (rw [if_pos (by decide +kernel)]; kernel_rfl) | (rw [if_neg (by decide +kernel)]; exact ⟨rfl, rfl⟩))
    (fun os started H enc _ => lifted os started H enc)

theorem proved : Rows.RelErrsSaid :=
  over
end Go.Proofs.Ytdjhcdgehmpikaa.relErrs

namespace Go.Proofs.Ytdjhcdgehmpikaa
theorem relErrs_holds : Rows.RelErrsSaid := relErrs.proved
#print axioms relErrs_holds
end Go.Proofs.Ytdjhcdgehmpikaa

