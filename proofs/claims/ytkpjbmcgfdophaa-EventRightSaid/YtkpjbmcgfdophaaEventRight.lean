/-
  Proved: whatever the arguments are, carrierlaw09.EventRight answers true and leaves its arguments as they were. No condition.
-/
import Derived.Test.YtkpjbmcgfdophaaEk
import Derived.ProofKit
import Derived.OpenShut
import Derived.ChangeOld
import Derived.Below
import Derived.Laws.BytesString
import Derived.Laws.MakeOwn
import Derived.Deep.DeepCutAuto
import Derived.Deep.RegionWith
namespace Go.Proofs.Ytkpjbmcgfdophaa.eventRight
open Go.ChangeShapes Go.WideShapes Go.ChangeAt Go.RowKit
set_option linter.unusedVariables false

theorem own : ownKnob Try.prog.godebug = none := by kernel_rfl
theorem laidOut : laidOutB Try.prog = true := by kernel_rfl

theorem hp_old {w : World} {g : Nat} {o : Obj} (h : w.heap[g]? = some o) (x : Obj) : (w.alloc x).heap[g]? = some o := ((Kept.refl w []).alloc x).heap (by simp) h
theorem hp1 (w : World) (x : Obj) (C : Array Value) (T : TypeId) : ((w.alloc x).alloc (.cells C T)).heap[w.heap.size + 1]? = some (.cells C T (0, 0)) := by simpa using heap_alloc_new (w.alloc x) (.cells C T)
theorem hp2 (w : World) (x y : Obj) (C : Array Value) (T : TypeId) : (((w.alloc x).alloc y).alloc (.cells C T)).heap[w.heap.size + 2]? = some (.cells C T (0, 0)) := by simpa using heap_alloc_new ((w.alloc x).alloc y) (.cells C T)

theorem getElem!_replicate (n i : Nat) (v : Value) (hi : i < n) : (Array.replicate n v)[i]! = v := by
  rw [getElem!_pos _ _ (by simpa using hi)]; simp

theorem Try.infoUB : (Try.prog.info? 5).map (fun i => (i.zero, i.size, i.bytes)) = some (some (.int .u8 0), 1, 1) := by kernel_rfl

theorem made_bytes (k : Nat) : madeCells (Value.int .u8 0).cells k = (bc (List.replicate k 0)).toArray := by
  apply Array.ext
  · rw [size_madeCells, List.size_toArray, bc_length, List.length_replicate]
  · intro i h1 h2
    have e : (Value.int .u8 0).cells = Array.replicate 1 (.int .u8 0) := rfl
    simp only [madeCells, e, Array.size_replicate, Array.getElem_map, bc, List.map_replicate, List.getElem_toArray, List.getElem_replicate]
    rw [getElem!_replicate _ _ _ (Nat.mod_lt _ (by decide))]
    rfl

theorem mk_bytes (k : Nat) (hk : k ≤ 131072) (w : World) : (Instr.makeSlice 28 (.int .i64 k) (.int .i64 k)).run Try.prog w = .ok (.slice (some ⟨w.heap.size, 0, none⟩) k k) (w.alloc (.cells (bc (List.replicate k 0)).toArray 5)) := by
  obtain ⟨i0, hi, hz0, hz1, hz2⟩ := info_parts Try.infoUB
  have h := run_make (P := Try.prog) w 28 5 i0 _ Try.underlying28 hi hz0 .i64 .i64 k k (by omega) (by omega) (by rw [hz2]; omega) (by omega)
  rw [h, hz1]
  have e := made_bytes k
  simp only [Int.toNat_natCast, Nat.mul_one]
  rw [e]

theorem foldl_push (l : List UInt8) : ∀ (s : ByteArray), ((l.map fun b => (b.toNat : Int)).foldl (fun r n => r.push (UInt8.ofNat n.toNat)) s).data.toList = s.data.toList ++ l := by
  induction l with
  | nil => intro s; simp
  | cons b r ih =>
    intro s
    rw [List.map_cons, List.foldl_cons, ih]
    simp [ByteArray.push]

/-- 'string(b)' of bytes that can be read, at an address. -/
theorem run_str {P : Program} (w : World) (src dst e : TypeId) (hs : P.underlying src = some (.slice e)) (he : P.underlying e = some (.int .u8)) (hd : P.underlying dst = some .string) (a : Addr) (c : Nat) (l : List UInt8) (n : Nat) (hn : n = l.length) (h : ∀ j u, (bc l)[j]? = some u → w.cell? (a.add j) = some u) :
    (convert src dst (.slice (some a) n c)).run P w = .ok (.string ⟨l.toArray⟩) w := by
  subst hn
  have hl : (loadCells a l.length).run P w = .ok (bc l).toArray w := by
    have := run_loadCells_list (P := P) w a (bc l) h
    rwa [bc_length] at this
  have hm : (bc l).toArray = ((l.map fun b => (b.toNat : Int)).map (Value.int .u8)).toArray := by simp [bc]
  rw [run_convert_bytes_string w src dst e _ _ _ hs he hd, run_bytesToString w a l.length c (l.map fun b => (b.toNat : Int)) (by rw [hl, hm])]
  congr 2
  have h2 := foldl_push l ByteArray.empty
  generalize (l.map fun b => (b.toNat : Int)).foldl (fun r n => r.push (UInt8.ofNat n.toNat)) ByteArray.empty = s at h2
  cases s with
  | mk d =>
    congr 1
    apply Array.ext'
    simpa using h2

/-- A text of so many noughts, made anew, wherever it lies. -/
theorem text_of (n : Nat) (hn : n ≤ 1000) : ∃ (C : Array Value) (txt : ByteArray), txt.size = n ∧ (∀ w, (Instr.makeSlice 28 (.int .i64 n) (.int .i64 n)).run Try.prog w = .ok (.slice (some ⟨w.heap.size, 0, none⟩) n n) (w.alloc (.cells C 5))) ∧
    ∀ (w : World) (g : Nat), w.heap[g]? = some (.cells C 5 (0, 0)) → (convert 28 9 (.slice (some ⟨g, 0, none⟩) n n)).run Try.prog w = .ok (.string txt) w := by
  refine ⟨(bc (List.replicate n 0)).toArray, ⟨(List.replicate n (0 : UInt8)).toArray⟩, ?_, fun w => mk_bytes n (by omega) w, fun w g hg => ?_⟩
  · simp [ByteArray.size]
  · refine run_str (P := Try.prog) _ 28 9 5 Try.underlying28 Try.underlying5 Try.underlying9 _ n (List.replicate n 0) n (by simp) (fun j u hu => ?_)
    rw [Addr.add_lit, cell_of_row _ _ _ _ _ _ hg, Nat.zero_add]
    simpa using hu

set_option maxHeartbeats 8000000 in
set_option maxRecDepth 100000 in
theorem walk (a0 a1 a2 a3 a4 a5 a6 : Int) (w0 : (Lit.int .i64 a0).wf = true) (w1 : (Lit.int .i64 a1).wf = true) (w2 : (Lit.int .u8 a2).wf = true) (w3 : (Lit.int .u8 a3).wf = true) (w4 : (Lit.int .i64 a4).wf = true) (w5 : (Lit.int .i64 a5).wf = true) (w6 : (Lit.int .u8 a6).wf = true) (W : World) :
    Calls Try.prog 6 #[.int .i64 a0, .int .i64 a1, .int .u8 a2, .int .u8 a3, .int .i64 a4, .int .i64 a5, .int .u8 a6] W fun e w' => e = .returned (.bool true) ∧ Below W.heap.size W w' := by
  have B2 := bounds_u8 w2; have B3 := bounds_u8 w3; have B6 := bounds_u8 w6
  obtain ⟨n1, hn1⟩ : ∃ n : Nat, a2.tmod 50 = n := ⟨(a2.tmod 50).toNat, by have := Int.tmod_nonneg 50 B2.1; omega⟩
  obtain ⟨n2, hn2⟩ : ∃ n : Nat, a3.tmod 50 = n := ⟨(a3.tmod 50).toNat, by have := Int.tmod_nonneg 50 B3.1; omega⟩
  have l1 : n1 < 50 := by have := Int.tmod_lt_of_pos a2 (show (0 : Int) < 50 by omega); omega
  have l2 : n2 < 50 := by have := Int.tmod_lt_of_pos a3 (show (0 : Int) < 50 by omega); omega
  obtain ⟨C1, S1, hsz1, hmk1, hcv1⟩ := text_of n1 (by omega)
  obtain ⟨C2, S2, hsz2, hmk2, hcv2⟩ := text_of n2 (by omega)
  have fA1 : (convert 28 9 (.slice (some ⟨W.heap.size, 0, none⟩) n1 n1)).run Try.prog (W.alloc (.cells C1 5)).drew = .ok (.string S1) (W.alloc (.cells C1 5)).drew := hcv1 _ _ (heap_alloc_new W _)
  have fA2 : (convert 28 9 (.slice (some ⟨W.heap.size, 0, none⟩) n1 n1)).run Try.prog ((W.alloc (.cells C1 5)).alloc (.cells C2 5)).drew = .ok (.string S1) ((W.alloc (.cells C1 5)).alloc (.cells C2 5)).drew := hcv1 _ _ (hp_old (heap_alloc_new W _) _)
  have fA3 : (convert 28 9 (.slice (some ⟨W.heap.size, 0, none⟩) n1 n1)).run Try.prog ((W.alloc (.cells C1 5)).alloc (.cells #[.int .i64 0, .int .i64 0, .string ⟨#[]⟩, .int .i64 0, .int .i64 0, .int .u8 0, .int .i64 0, .string ⟨#[]⟩] 26)).drew = .ok (.string S1) ((W.alloc (.cells C1 5)).alloc (.cells #[.int .i64 0, .int .i64 0, .string ⟨#[]⟩, .int .i64 0, .int .i64 0, .int .u8 0, .int .i64 0, .string ⟨#[]⟩] 26)).drew := hcv1 _ _ (hp_old (heap_alloc_new W _) _)
  have fA4 : (convert 28 9 (.slice (some ⟨W.heap.size + 1, 0, none⟩) n1 n1)).run Try.prog ((W.alloc (.cells C2 5)).alloc (.cells C1 5)).drew = .ok (.string S1) ((W.alloc (.cells C2 5)).alloc (.cells C1 5)).drew := hcv1 _ _ (hp1 W _ _ _)
  have fA5 : (convert 28 9 (.slice (some ⟨W.heap.size + 1, 0, none⟩) n1 n1)).run Try.prog ((W.alloc (.cells #[.int .i64 0, .int .i64 0, .string ⟨#[]⟩, .int .i64 0, .int .i64 0, .int .u8 0, .int .i64 0, .string ⟨#[]⟩] 26)).alloc (.cells C1 5)).drew = .ok (.string S1) ((W.alloc (.cells #[.int .i64 0, .int .i64 0, .string ⟨#[]⟩, .int .i64 0, .int .i64 0, .int .u8 0, .int .i64 0, .string ⟨#[]⟩] 26)).alloc (.cells C1 5)).drew := hcv1 _ _ (hp1 W _ _ _)
  have fA6 : (convert 28 9 (.slice (some ⟨W.heap.size, 0, none⟩) n1 n1)).run Try.prog (((W.alloc (.cells C1 5)).alloc (.cells C2 5)).alloc (.cells #[.int .i64 0, .int .i64 0, .string ⟨#[]⟩, .int .i64 0, .int .i64 0, .int .u8 0, .int .i64 0, .string ⟨#[]⟩] 26)).drew = .ok (.string S1) (((W.alloc (.cells C1 5)).alloc (.cells C2 5)).alloc (.cells #[.int .i64 0, .int .i64 0, .string ⟨#[]⟩, .int .i64 0, .int .i64 0, .int .u8 0, .int .i64 0, .string ⟨#[]⟩] 26)).drew := hcv1 _ _ (hp_old (hp_old (heap_alloc_new W _) _) _)
  have fA7 : (convert 28 9 (.slice (some ⟨W.heap.size, 0, none⟩) n1 n1)).run Try.prog (((W.alloc (.cells C1 5)).alloc (.cells #[.int .i64 0, .int .i64 0, .string ⟨#[]⟩, .int .i64 0, .int .i64 0, .int .u8 0, .int .i64 0, .string ⟨#[]⟩] 26)).alloc (.cells C2 5)).drew = .ok (.string S1) (((W.alloc (.cells C1 5)).alloc (.cells #[.int .i64 0, .int .i64 0, .string ⟨#[]⟩, .int .i64 0, .int .i64 0, .int .u8 0, .int .i64 0, .string ⟨#[]⟩] 26)).alloc (.cells C2 5)).drew := hcv1 _ _ (hp_old (hp_old (heap_alloc_new W _) _) _)
  have fA8 : (convert 28 9 (.slice (some ⟨W.heap.size + 1, 0, none⟩) n1 n1)).run Try.prog (((W.alloc (.cells C2 5)).alloc (.cells C1 5)).alloc (.cells #[.int .i64 0, .int .i64 0, .string ⟨#[]⟩, .int .i64 0, .int .i64 0, .int .u8 0, .int .i64 0, .string ⟨#[]⟩] 26)).drew = .ok (.string S1) (((W.alloc (.cells C2 5)).alloc (.cells C1 5)).alloc (.cells #[.int .i64 0, .int .i64 0, .string ⟨#[]⟩, .int .i64 0, .int .i64 0, .int .u8 0, .int .i64 0, .string ⟨#[]⟩] 26)).drew := hcv1 _ _ (hp_old (hp1 W _ _ _) _)
  have fA9 : (convert 28 9 (.slice (some ⟨W.heap.size + 2, 0, none⟩) n1 n1)).run Try.prog (((W.alloc (.cells C2 5)).alloc (.cells #[.int .i64 0, .int .i64 0, .string ⟨#[]⟩, .int .i64 0, .int .i64 0, .int .u8 0, .int .i64 0, .string ⟨#[]⟩] 26)).alloc (.cells C1 5)).drew = .ok (.string S1) (((W.alloc (.cells C2 5)).alloc (.cells #[.int .i64 0, .int .i64 0, .string ⟨#[]⟩, .int .i64 0, .int .i64 0, .int .u8 0, .int .i64 0, .string ⟨#[]⟩] 26)).alloc (.cells C1 5)).drew := hcv1 _ _ (hp2 W _ _ _ _)
  have fA10 : (convert 28 9 (.slice (some ⟨W.heap.size + 1, 0, none⟩) n1 n1)).run Try.prog (((W.alloc (.cells #[.int .i64 0, .int .i64 0, .string ⟨#[]⟩, .int .i64 0, .int .i64 0, .int .u8 0, .int .i64 0, .string ⟨#[]⟩] 26)).alloc (.cells C1 5)).alloc (.cells C2 5)).drew = .ok (.string S1) (((W.alloc (.cells #[.int .i64 0, .int .i64 0, .string ⟨#[]⟩, .int .i64 0, .int .i64 0, .int .u8 0, .int .i64 0, .string ⟨#[]⟩] 26)).alloc (.cells C1 5)).alloc (.cells C2 5)).drew := hcv1 _ _ (hp_old (hp1 W _ _ _) _)
  have fA11 : (convert 28 9 (.slice (some ⟨W.heap.size + 2, 0, none⟩) n1 n1)).run Try.prog (((W.alloc (.cells #[.int .i64 0, .int .i64 0, .string ⟨#[]⟩, .int .i64 0, .int .i64 0, .int .u8 0, .int .i64 0, .string ⟨#[]⟩] 26)).alloc (.cells C2 5)).alloc (.cells C1 5)).drew = .ok (.string S1) (((W.alloc (.cells #[.int .i64 0, .int .i64 0, .string ⟨#[]⟩, .int .i64 0, .int .i64 0, .int .u8 0, .int .i64 0, .string ⟨#[]⟩] 26)).alloc (.cells C2 5)).alloc (.cells C1 5)).drew := hcv1 _ _ (hp2 W _ _ _ _)
  have fB1 : (convert 28 9 (.slice (some ⟨W.heap.size, 0, none⟩) n2 n2)).run Try.prog (W.alloc (.cells C2 5)).drew = .ok (.string S2) (W.alloc (.cells C2 5)).drew := hcv2 _ _ (heap_alloc_new W _)
  have fB2 : (convert 28 9 (.slice (some ⟨W.heap.size + 1, 0, none⟩) n2 n2)).run Try.prog ((W.alloc (.cells C1 5)).alloc (.cells C2 5)).drew = .ok (.string S2) ((W.alloc (.cells C1 5)).alloc (.cells C2 5)).drew := hcv2 _ _ (hp1 W _ _ _)
  have fB3 : (convert 28 9 (.slice (some ⟨W.heap.size, 0, none⟩) n2 n2)).run Try.prog ((W.alloc (.cells C2 5)).alloc (.cells C1 5)).drew = .ok (.string S2) ((W.alloc (.cells C2 5)).alloc (.cells C1 5)).drew := hcv2 _ _ (hp_old (heap_alloc_new W _) _)
  have fB4 : (convert 28 9 (.slice (some ⟨W.heap.size, 0, none⟩) n2 n2)).run Try.prog ((W.alloc (.cells C2 5)).alloc (.cells #[.int .i64 0, .int .i64 0, .string ⟨#[]⟩, .int .i64 0, .int .i64 0, .int .u8 0, .int .i64 0, .string ⟨#[]⟩] 26)).drew = .ok (.string S2) ((W.alloc (.cells C2 5)).alloc (.cells #[.int .i64 0, .int .i64 0, .string ⟨#[]⟩, .int .i64 0, .int .i64 0, .int .u8 0, .int .i64 0, .string ⟨#[]⟩] 26)).drew := hcv2 _ _ (hp_old (heap_alloc_new W _) _)
  have fB5 : (convert 28 9 (.slice (some ⟨W.heap.size + 1, 0, none⟩) n2 n2)).run Try.prog ((W.alloc (.cells #[.int .i64 0, .int .i64 0, .string ⟨#[]⟩, .int .i64 0, .int .i64 0, .int .u8 0, .int .i64 0, .string ⟨#[]⟩] 26)).alloc (.cells C2 5)).drew = .ok (.string S2) ((W.alloc (.cells #[.int .i64 0, .int .i64 0, .string ⟨#[]⟩, .int .i64 0, .int .i64 0, .int .u8 0, .int .i64 0, .string ⟨#[]⟩] 26)).alloc (.cells C2 5)).drew := hcv2 _ _ (hp1 W _ _ _)
  have fB6 : (convert 28 9 (.slice (some ⟨W.heap.size + 1, 0, none⟩) n2 n2)).run Try.prog (((W.alloc (.cells C1 5)).alloc (.cells C2 5)).alloc (.cells #[.int .i64 0, .int .i64 0, .string ⟨#[]⟩, .int .i64 0, .int .i64 0, .int .u8 0, .int .i64 0, .string ⟨#[]⟩] 26)).drew = .ok (.string S2) (((W.alloc (.cells C1 5)).alloc (.cells C2 5)).alloc (.cells #[.int .i64 0, .int .i64 0, .string ⟨#[]⟩, .int .i64 0, .int .i64 0, .int .u8 0, .int .i64 0, .string ⟨#[]⟩] 26)).drew := hcv2 _ _ (hp_old (hp1 W _ _ _) _)
  have fB7 : (convert 28 9 (.slice (some ⟨W.heap.size + 2, 0, none⟩) n2 n2)).run Try.prog (((W.alloc (.cells C1 5)).alloc (.cells #[.int .i64 0, .int .i64 0, .string ⟨#[]⟩, .int .i64 0, .int .i64 0, .int .u8 0, .int .i64 0, .string ⟨#[]⟩] 26)).alloc (.cells C2 5)).drew = .ok (.string S2) (((W.alloc (.cells C1 5)).alloc (.cells #[.int .i64 0, .int .i64 0, .string ⟨#[]⟩, .int .i64 0, .int .i64 0, .int .u8 0, .int .i64 0, .string ⟨#[]⟩] 26)).alloc (.cells C2 5)).drew := hcv2 _ _ (hp2 W _ _ _ _)
  have fB8 : (convert 28 9 (.slice (some ⟨W.heap.size, 0, none⟩) n2 n2)).run Try.prog (((W.alloc (.cells C2 5)).alloc (.cells C1 5)).alloc (.cells #[.int .i64 0, .int .i64 0, .string ⟨#[]⟩, .int .i64 0, .int .i64 0, .int .u8 0, .int .i64 0, .string ⟨#[]⟩] 26)).drew = .ok (.string S2) (((W.alloc (.cells C2 5)).alloc (.cells C1 5)).alloc (.cells #[.int .i64 0, .int .i64 0, .string ⟨#[]⟩, .int .i64 0, .int .i64 0, .int .u8 0, .int .i64 0, .string ⟨#[]⟩] 26)).drew := hcv2 _ _ (hp_old (hp_old (heap_alloc_new W _) _) _)
  have fB9 : (convert 28 9 (.slice (some ⟨W.heap.size, 0, none⟩) n2 n2)).run Try.prog (((W.alloc (.cells C2 5)).alloc (.cells #[.int .i64 0, .int .i64 0, .string ⟨#[]⟩, .int .i64 0, .int .i64 0, .int .u8 0, .int .i64 0, .string ⟨#[]⟩] 26)).alloc (.cells C1 5)).drew = .ok (.string S2) (((W.alloc (.cells C2 5)).alloc (.cells #[.int .i64 0, .int .i64 0, .string ⟨#[]⟩, .int .i64 0, .int .i64 0, .int .u8 0, .int .i64 0, .string ⟨#[]⟩] 26)).alloc (.cells C1 5)).drew := hcv2 _ _ (hp_old (hp_old (heap_alloc_new W _) _) _)
  have fB10 : (convert 28 9 (.slice (some ⟨W.heap.size + 2, 0, none⟩) n2 n2)).run Try.prog (((W.alloc (.cells #[.int .i64 0, .int .i64 0, .string ⟨#[]⟩, .int .i64 0, .int .i64 0, .int .u8 0, .int .i64 0, .string ⟨#[]⟩] 26)).alloc (.cells C1 5)).alloc (.cells C2 5)).drew = .ok (.string S2) (((W.alloc (.cells #[.int .i64 0, .int .i64 0, .string ⟨#[]⟩, .int .i64 0, .int .i64 0, .int .u8 0, .int .i64 0, .string ⟨#[]⟩] 26)).alloc (.cells C1 5)).alloc (.cells C2 5)).drew := hcv2 _ _ (hp2 W _ _ _ _)
  have fB11 : (convert 28 9 (.slice (some ⟨W.heap.size + 1, 0, none⟩) n2 n2)).run Try.prog (((W.alloc (.cells #[.int .i64 0, .int .i64 0, .string ⟨#[]⟩, .int .i64 0, .int .i64 0, .int .u8 0, .int .i64 0, .string ⟨#[]⟩] 26)).alloc (.cells C2 5)).alloc (.cells C1 5)).drew = .ok (.string S2) (((W.alloc (.cells #[.int .i64 0, .int .i64 0, .string ⟨#[]⟩, .int .i64 0, .int .i64 0, .int .u8 0, .int .i64 0, .string ⟨#[]⟩] 26)).alloc (.cells C2 5)).alloc (.cells C1 5)).drew := hcv2 _ _ (hp_old (hp1 W _ _ _) _)
  have m1 : IntKind.i64.wrap (n1 : Int) = n1 := by rw [IntKind.wrap_i64]; omega
  have m2 : IntKind.i64.wrap (n2 : Int) = n2 := by rw [IntKind.wrap_i64]; omega
  have Bd := Lib.hid (And.intro B2 (And.intro B3 B6))
  clear w0 w1 w2 w3 w4 w5 w6 hcv1 hcv2 hsz1 hsz2 B2 B3 B6
  go_enter Try.func6, Try.ntmps6
  go_upto_region 1 with fail
  go_cut [15] (fun s15 wx => ∃ g, s15 = .pointer (some ⟨g, 0, none⟩) ∧ Kept W wx [] ∧ W.heap.size ≤ g ∧ wx.heap[g]? = some (.cells #[.int .i64 a0, .int .i64 a1, .string S1, .int .i64 a4, .int .i64 a5, .int .u8 a6, .int .i64 0, .string S2] 26 (0, 0)))
  case first =>
    go_region
    all_goals go_wp2_with fail
    all_goals go_meet
    all_goals refine ⟨_, rfl, ((((Kept.refl W []).alloc _).alloc _).alloc _).drew, by omega, ?_⟩
    all_goals first | exact hp2 W _ _ _ _ | exact hp_old (hp1 W _ _ _) _ | exact hp_old (hp_old (heap_alloc_new W _) _) _
  case rest =>
    obtain ⟨g, rfl, kc, hg, hb⟩ := hcut
    clear hmk1 hmk2 m1 m2 fA1 fA2 fA3 fA4 fA5 fA6 fA7 fA8 fA9 fA10 fA11 fB1 fB2 fB3 fB4 fB5 fB6 fB7 fB8 fB9 fB10 fB11
    have hn1' := Lib.hid hn1; have hn2' := Lib.hid hn2
    clear hn1 hn2
    obtain ⟨⟨b0, b1, b2, b3, b4, b5, b6, b7⟩, hE⟩ : ∃ E, E = ofE a0 a1 S1 a4 a2 a6 0 S2 := ⟨_, rfl⟩
    have HO : RowKit.Hid (∀ V, Calls Try.prog 10 #[.int .i64 a0, .int .i64 a1, .string S1, .int .i64 a4, .int .u8 a2, .int .u8 a6, .agg #[.int .i64 0, .string S2]] V fun e w' => e = .returned (.agg #[.int .i64 b0, .int .i64 b1, .string b2, .int .i64 b3, .int .i64 b4, .int .u8 b5, .int .i64 b6, .string b7]) ∧ Kept V w' []) := Lib.hid (fun V => by
      have := of_any a0 a1 S1 a4 a2 a6 0 S2 V Bd.out.2.2 Bd.out.1
      rw [← hE] at this
      exact this)
    obtain ⟨r1, hr1⟩ : ∃ r, r = Ev.rightB ⟨a0, a1, S1, a4, a5, a6, 0, S2⟩ := ⟨_, rfl⟩
    obtain ⟨r2, hr2⟩ : ∃ r, r = Ev.rightB ⟨b0, b1, b2, b3, a5, b5, b6, b7⟩ := ⟨_, rfl⟩
    have HR1 : RowKit.Hid (∀ V, Calls Try.prog 13 #[.agg #[.int .i64 a0, .int .i64 a1, .string S1, .int .i64 a4, .int .i64 a5, .int .u8 a6, .int .i64 0, .string S2]] V fun e w' => e = .returned (.bool r1) ∧ Kept V w' []) := Lib.hid (fun V => by rw [hr1]; exact right_any ⟨a0, a1, S1, a4, a5, a6, 0, S2⟩ V)
    have HQ1 : RowKit.Hid (∀ V, Calls Try.prog 18 #[.agg #[.int .i64 a0, .int .i64 a1, .string S1, .int .i64 a4, .int .i64 a5, .int .u8 a6, .int .i64 0, .string S2]] V fun e w' => e = .returned (.bool r1) ∧ Kept V w' []) := Lib.hid (fun V => by rw [hr1]; exact refright_any ⟨a0, a1, S1, a4, a5, a6, 0, S2⟩ V)
    have HR2 : RowKit.Hid (∀ V, Calls Try.prog 13 #[.agg #[.int .i64 b0, .int .i64 b1, .string b2, .int .i64 b3, .int .i64 a5, .int .u8 b5, .int .i64 b6, .string b7]] V fun e w' => e = .returned (.bool r2) ∧ Kept V w' []) := Lib.hid (fun V => by rw [hr2]; exact right_any ⟨b0, b1, b2, b3, a5, b5, b6, b7⟩ V)
    have HQ2 : RowKit.Hid (∀ V, Calls Try.prog 18 #[.agg #[.int .i64 b0, .int .i64 b1, .string b2, .int .i64 b3, .int .i64 a5, .int .u8 b5, .int .i64 b6, .string b7]] V fun e w' => e = .returned (.bool r2) ∧ Kept V w' []) := Lib.hid (fun V => by rw [hr2]; exact refright_any ⟨b0, b1, b2, b3, a5, b5, b6, b7⟩ V)
    clear hE hr1 hr2
    have Hb := Lib.hid hb; have Kc := Lib.hid kc
    have hgw : g < wc.heap.size := (Array.getElem?_eq_some_iff.1 hb).1
    have z2 := cell_of_row wc g 2 _ _ _ hb
    have z6 := cell_of_row wc g 6 _ _ _ hb
    have z7 := cell_of_row wc g 7 _ _ _ hb
    simp at z2 z6 z7
    clear hb kc
    go_wp2_with fail
    refine (HO.out _).mono ?_
    rintro e w2 ⟨rfl, k2⟩
    have hb2 := Lib.hid (k2.heap (by simp) Hb.out)
    have hz2 := k2.size
    have K2 := Lib.hid (Kc.out.trans k2 (by simp))
    clear k2 z2 z6 z7
    obtain ⟨W3, hW3⟩ : ∃ W3, W3 = w2.alloc (.cells #[.int .i64 b0, .int .i64 b1, .string b2, .int .i64 b3, .int .i64 a5, .int .u8 b5, .int .i64 b6, .string b7] 26) := ⟨_, rfl⟩
    have K3 : RowKit.Hid (Kept W W3 []) := Lib.hid (by rw [hW3]; exact K2.out.alloc _)
    have Q3 : RowKit.Hid (W3.heap[g]? = some (.cells #[.int .i64 a0, .int .i64 a1, .string S1, .int .i64 a4, .int .i64 a5, .int .u8 a6, .int .i64 0, .string S2] 26 (0, 0)) ∧ W3.heap[w2.heap.size]? = some (.cells #[.int .i64 b0, .int .i64 b1, .string b2, .int .i64 b3, .int .i64 a5, .int .u8 b5, .int .i64 b6, .string b7] 26 (0, 0))) := Lib.hid (by rw [hW3]; exact ⟨((Kept.refl w2 []).alloc _).heap (by simp) hb2.out, heap_alloc_new w2 _⟩)
    have SS : RowKit.Hid (∀ V, Kept W3 V [] → V.heap[g]? = some (.cells #[.int .i64 a0, .int .i64 a1, .string S1, .int .i64 a4, .int .i64 a5, .int .u8 a6, .int .i64 0, .string S2] 26 (0, 0)) ∧ V.heap[w2.heap.size]? = some (.cells #[.int .i64 b0, .int .i64 b1, .string b2, .int .i64 b3, .int .i64 a5, .int .u8 b5, .int .i64 b6, .string b7] 26 (0, 0))) := Lib.hid (fun V hk => ⟨hk.heap (by simp) Q3.out.1, hk.heap (by simp) Q3.out.2⟩)
    have k8 : Kept W3 W3.drew [] := (Kept.refl W3 []).drew
    have yy := SS.out _ k8
    go_wp2_with fail
    rw [← hW3]
    clear hW3
    refine wp_region_held_drew (S := fun V => V.heap[g]? = some (.cells #[.int .i64 a0, .int .i64 a1, .string S1, .int .i64 a4, .int .i64 a5, .int .u8 a6, .int .i64 0, .string S2] 26 (0, 0)) ∧ V.heap[w2.heap.size]? = some (.cells #[.int .i64 b0, .int .i64 b1, .string b2, .int .i64 b3, .int .i64 a5, .int .u8 b5, .int .i64 b6, .string b7] 26 (0, 0))) (by kernel_rfl) yy (fun hHeld => ?_)
    have HN := Lib.hid (fun V => nine_any V)
    refine wpAnyH_ready (rs := [0]) (by kernel_rfl) (by simp) ?_
    refine AllReadyH.cons (o := _) rfl (fun K hK => ?_) AllReadyH.nil
    go_simp
    go_at_call 9
    refine (HN.out _).mono ?_
    rintro e w9 ⟨rfl, k⟩
    replace k8 := k8.trans k (by simp)
    clear k
    go_wp2_with fail
    refine hK.out _ _ (SS.out _ k8) (fun hHeld => ?_)
    clear hK K
    refine wpAnyH_take (i := 1) (oi := _) (v := .bool true) rfl (by kernel_rfl) (by kernel_rfl) (by kernel_rfl) (fun _ _ _ h => h) (Or.inl ⟨by rfl, fun V hV => by go_simp⟩) hHeld ?_
    change wpAnyH _ _ _ _ _ _ _ (Act.put _ (some 47) _) _
    simp only [Act.put, List.setIfInBounds_toArray, List.set_cons_zero, List.set_cons_succ]
    refine wpAnyH_take (i := 2) (oi := _) (v := .agg #[.int .i64 a0, .int .i64 a1, .string S1, .int .i64 a4, .int .i64 a5, .int .u8 a6, .int .i64 0, .string S2]) rfl (by kernel_rfl) (by kernel_rfl) (by kernel_rfl) (fun _ _ _ h => h) (Or.inl ⟨by rfl, fun V hV => by (obtain ⟨q1, q2⟩ := hV; have c0 := cell_of_row V g 0 _ _ _ q1; have c1 := cell_of_row V g 1 _ _ _ q1; have c2 := cell_of_row V g 2 _ _ _ q1; have c3 := cell_of_row V g 3 _ _ _ q1; have c4 := cell_of_row V g 4 _ _ _ q1; have c5 := cell_of_row V g 5 _ _ _ q1; have c6 := cell_of_row V g 6 _ _ _ q1; have c7 := cell_of_row V g 7 _ _ _ q1; clear q1 q2; simp at c0 c1 c2 c3 c4 c5 c6 c7; go_simp)⟩) hHeld ?_
    change wpAnyH _ _ _ _ _ _ _ (Act.put _ (some 48) _) _
    simp only [Act.put, List.setIfInBounds_toArray, List.set_cons_zero, List.set_cons_succ]
    refine wpAnyH_take (i := 4) (oi := _) (v := .agg #[.int .i64 a0, .int .i64 a1, .string S1, .int .i64 a4, .int .i64 a5, .int .u8 a6, .int .i64 0, .string S2]) rfl (by kernel_rfl) (by kernel_rfl) (by kernel_rfl) (fun _ _ _ h => h) (Or.inl ⟨by rfl, fun V hV => by (obtain ⟨q1, q2⟩ := hV; have c0 := cell_of_row V g 0 _ _ _ q1; have c1 := cell_of_row V g 1 _ _ _ q1; have c2 := cell_of_row V g 2 _ _ _ q1; have c3 := cell_of_row V g 3 _ _ _ q1; have c4 := cell_of_row V g 4 _ _ _ q1; have c5 := cell_of_row V g 5 _ _ _ q1; have c6 := cell_of_row V g 6 _ _ _ q1; have c7 := cell_of_row V g 7 _ _ _ q1; clear q1 q2; simp at c0 c1 c2 c3 c4 c5 c6 c7; go_simp)⟩) hHeld ?_
    change wpAnyH _ _ _ _ _ _ _ (Act.put _ (some 50) _) _
    simp only [Act.put, List.setIfInBounds_toArray, List.set_cons_zero, List.set_cons_succ]
    refine wpAnyH_ready (rs := [3]) (by kernel_rfl) (by simp) ?_
    refine AllReadyH.cons (o := _) rfl (fun K hK => ?_) AllReadyH.nil
    go_simp
    go_at_call 13
    refine (HR1.out _).mono ?_
    rintro e w10 ⟨rfl, k⟩
    replace k8 := k8.trans k (by simp)
    clear k
    go_wp2_with fail
    refine hK.out _ _ (SS.out _ k8) (fun hHeld => ?_)
    clear hK K
    refine wpAnyH_ready (rs := [5]) (by kernel_rfl) (by simp) ?_
    refine AllReadyH.cons (o := _) rfl (fun K hK => ?_) AllReadyH.nil
    go_simp
    go_at_call 18
    refine (HQ1.out _).mono ?_
    rintro e w11 ⟨rfl, k⟩
    replace k8 := k8.trans k (by simp)
    clear k
    go_wp2_with fail
    refine hK.out _ _ (SS.out _ k8) (fun hHeld => ?_)
    clear hK K
    refine wpAnyH_take (i := 6) (oi := _) (v := .bool true) rfl (by kernel_rfl) (by kernel_rfl) (by kernel_rfl) (fun _ _ _ h => h) (Or.inl ⟨by rfl, fun V hV => by go_simp⟩) hHeld ?_
    change wpAnyH _ _ _ _ _ _ _ (Act.put _ (some 52) _) _
    simp only [Act.put, List.setIfInBounds_toArray, List.set_cons_zero, List.set_cons_succ]
    refine wpAnyH_take (i := 7) (oi := _) (v := .bool true) rfl (by kernel_rfl) (by kernel_rfl) (by kernel_rfl) (fun _ _ _ h => h) (Or.inl ⟨by rfl, fun V hV => by go_simp⟩) hHeld ?_
    change wpAnyH _ _ _ _ _ _ _ (Act.put _ (some 53) _) _
    simp only [Act.put, List.setIfInBounds_toArray, List.set_cons_zero, List.set_cons_succ]
    refine wpAnyH_take (i := 8) (oi := _) (v := .bool true) rfl (by kernel_rfl) (by kernel_rfl) (by kernel_rfl) (fun _ _ _ h => h) (Or.inl ⟨by rfl, fun V hV => by go_simp⟩) hHeld ?_
    change wpAnyH _ _ _ _ _ _ _ (Act.put _ (some 54) _) _
    simp only [Act.put, List.setIfInBounds_toArray, List.set_cons_zero, List.set_cons_succ]
    refine wpAnyH_take (i := 9) (oi := _) (v := .agg #[.int .i64 b0, .int .i64 b1, .string b2, .int .i64 b3, .int .i64 a5, .int .u8 b5, .int .i64 b6, .string b7]) rfl (by kernel_rfl) (by kernel_rfl) (by kernel_rfl) (fun _ _ _ h => h) (Or.inl ⟨by rfl, fun V hV => by (obtain ⟨q1, q2⟩ := hV; have c0 := cell_of_row V w2.heap.size 0 _ _ _ q2; have c1 := cell_of_row V w2.heap.size 1 _ _ _ q2; have c2 := cell_of_row V w2.heap.size 2 _ _ _ q2; have c3 := cell_of_row V w2.heap.size 3 _ _ _ q2; have c4 := cell_of_row V w2.heap.size 4 _ _ _ q2; have c5 := cell_of_row V w2.heap.size 5 _ _ _ q2; have c6 := cell_of_row V w2.heap.size 6 _ _ _ q2; have c7 := cell_of_row V w2.heap.size 7 _ _ _ q2; clear q1 q2; simp at c0 c1 c2 c3 c4 c5 c6 c7; go_simp)⟩) hHeld ?_
    change wpAnyH _ _ _ _ _ _ _ (Act.put _ (some 55) _) _
    simp only [Act.put, List.setIfInBounds_toArray, List.set_cons_zero, List.set_cons_succ]
    refine wpAnyH_take (i := 11) (oi := _) (v := .agg #[.int .i64 b0, .int .i64 b1, .string b2, .int .i64 b3, .int .i64 a5, .int .u8 b5, .int .i64 b6, .string b7]) rfl (by kernel_rfl) (by kernel_rfl) (by kernel_rfl) (fun _ _ _ h => h) (Or.inl ⟨by rfl, fun V hV => by (obtain ⟨q1, q2⟩ := hV; have c0 := cell_of_row V w2.heap.size 0 _ _ _ q2; have c1 := cell_of_row V w2.heap.size 1 _ _ _ q2; have c2 := cell_of_row V w2.heap.size 2 _ _ _ q2; have c3 := cell_of_row V w2.heap.size 3 _ _ _ q2; have c4 := cell_of_row V w2.heap.size 4 _ _ _ q2; have c5 := cell_of_row V w2.heap.size 5 _ _ _ q2; have c6 := cell_of_row V w2.heap.size 6 _ _ _ q2; have c7 := cell_of_row V w2.heap.size 7 _ _ _ q2; clear q1 q2; simp at c0 c1 c2 c3 c4 c5 c6 c7; go_simp)⟩) hHeld ?_
    change wpAnyH _ _ _ _ _ _ _ (Act.put _ (some 57) _) _
    simp only [Act.put, List.setIfInBounds_toArray, List.set_cons_zero, List.set_cons_succ]
    refine wpAnyH_ready (rs := [10]) (by kernel_rfl) (by simp) ?_
    refine AllReadyH.cons (o := _) rfl (fun K hK => ?_) AllReadyH.nil
    go_simp
    go_at_call 13
    refine (HR2.out _).mono ?_
    rintro e w12 ⟨rfl, k⟩
    replace k8 := k8.trans k (by simp)
    clear k
    go_wp2_with fail
    refine hK.out _ _ (SS.out _ k8) (fun hHeld => ?_)
    clear hK K
    refine wpAnyH_ready (rs := [12]) (by kernel_rfl) (by simp) ?_
    refine AllReadyH.cons (o := _) rfl (fun K hK => ?_) AllReadyH.nil
    go_simp
    go_at_call 18
    refine (HQ2.out _).mono ?_
    rintro e w13 ⟨rfl, k⟩
    replace k8 := k8.trans k (by simp)
    clear k
    go_wp2_with fail
    refine hK.out _ _ (SS.out _ k8) (fun hHeld => ?_)
    clear hK K
    refine wpAnyH_take (i := 13) (oi := _) (v := .bool true) rfl (by kernel_rfl) (by kernel_rfl) (by kernel_rfl) (fun _ _ _ h => h) (Or.inl ⟨by rfl, fun V hV => by go_simp⟩) hHeld ?_
    change wpAnyH _ _ _ _ _ _ _ (Act.put _ (some 59) _) _
    simp only [Act.put, List.setIfInBounds_toArray, List.set_cons_zero, List.set_cons_succ]
    refine wpAnyH_take (i := 14) (oi := _) (v := .bool true) rfl (by kernel_rfl) (by kernel_rfl) (by kernel_rfl) (fun _ _ _ h => h) (Or.inl ⟨by rfl, fun V hV => by go_simp⟩) hHeld ?_
    change wpAnyH _ _ _ _ _ _ _ (Act.put _ (some 60) _) _
    simp only [Act.put, List.setIfInBounds_toArray, List.set_cons_zero, List.set_cons_succ]
    refine wpAnyH_take (i := 15) (oi := _) (v := .bool true) rfl (by kernel_rfl) (by kernel_rfl) (by kernel_rfl) (fun _ _ _ h => h) (Or.inl ⟨by rfl, fun V hV => by go_simp⟩) hHeld ?_
    change wpAnyH _ _ _ _ _ _ _ (Act.put _ (some 14) _) _
    simp only [Act.put, List.setIfInBounds_toArray, List.set_cons_zero, List.set_cons_succ]
    refine wpAnyH_done (by kernel_rfl) ?_ _
    go_wp2
    go_ret
    exact ⟨rfl, (K3.out.trans k8 (by simp)).below (Nat.le_refl _) (by simp)⟩

set_option maxRecDepth 100000 in
theorem lifted (os : Os) (started : os.Started) (H : Type) (enc : TypeId × Value → H) :
    ReturnsInHanded {} Try.checked os 6 .any (Rows.eventRightSpec.pre6 enc Try.prog Try.f6 Rows.eventRightRow.domain false) (Rows.eventRightSpec.post enc Try.prog Try.f6 false true false false) := by
  refine returnsInHanded_of_change (C := Try.checked) own started (by kernel_rfl) Try.func6
    (ChangeSpec.witness6 (enc := enc) (C := Try.checked) false ⟨#[], #[.int .i64 0, .int .i64 0, .int .u8 0, .int .u8 0, .int .i64 0, .int .i64 0, .int .u8 0], []⟩ 8 (by kernel_rfl) (by kernel_rfl) (by kernel_rfl) (by kernel_rfl)) ?_
  intro W base args ds gs before hval0 hW hcnd _
  have hval : ∀ (j : Nat) t v, Try.f6.params[j]? = some t → args[j]? = some v → Value.okWide Try.prog W .any base t v := hval0
  have hW' := hW
  obtain ⟨p, q, hA0, hV, rfl, hfz, hnd⟩ := hW
  have hA : DataW.TrodAll enc Try.prog W 0 (fun _ => true) true Try.f6.params.toList args.toList ds p := hA0
  rw [Try.params6] at hA hval
  obtain ⟨v0, vs0, d0, ds0, p0, q0, hargs, rfl, rfl, h0, r0⟩ := trodAll_cons hA
  obtain ⟨v1, vs1, d1, ds1, p1, q1, rfl, rfl, rfl, h1, r1⟩ := trodAll_cons r0
  obtain ⟨v2, vs2, d2, ds2, p2, q2, rfl, rfl, rfl, h2, r2⟩ := trodAll_cons r1
  obtain ⟨v3, vs3, d3, ds3, p3, q3, rfl, rfl, rfl, h3, r3⟩ := trodAll_cons r2
  obtain ⟨v4, vs4, d4, ds4, p4, q4, rfl, rfl, rfl, h4, r4⟩ := trodAll_cons r3
  obtain ⟨v5, vs5, d5, ds5, p5, q5, rfl, rfl, rfl, h5, r5⟩ := trodAll_cons r4
  obtain ⟨v6, vs6, d6, ds6, p6, q6, rfl, rfl, rfl, h6, r6⟩ := trodAll_cons r5
  obtain ⟨rfl, rfl, rfl⟩ := trodAll_nil r6
  obtain rfl : args = #[v0, v1, v2, v3, v4, v5, v6] := by cases args; simp_all
  obtain ⟨rfl, rfl⟩ := trodVars_none hV
  obtain ⟨a0, rfl, rfl, rfl, w0⟩ := open_int Try.underlying2 (hval 0 2 v0 rfl rfl) h0
  obtain ⟨a1, rfl, rfl, rfl, w1⟩ := open_int Try.underlying2 (hval 1 2 v1 rfl rfl) h1
  obtain ⟨a2, rfl, rfl, rfl, w2⟩ := open_int Try.underlying5 (hval 2 5 v2 rfl rfl) h2
  obtain ⟨a3, rfl, rfl, rfl, w3⟩ := open_int Try.underlying5 (hval 3 5 v3 rfl rfl) h3
  obtain ⟨a4, rfl, rfl, rfl, w4⟩ := open_int Try.underlying3 (hval 4 3 v4 rfl rfl) h4
  obtain ⟨a5, rfl, rfl, rfl, w5⟩ := open_int Try.underlying3 (hval 5 3 v5 rfl rfl) h5
  obtain ⟨a6, rfl, rfl, rfl, w6⟩ := open_int Try.underlying5 (hval 6 5 v6 rfl rfl) h6
  clear hA0 hval0
  simp only [List.append_nil] at hW'
  refine (walk a0 a1 a2 a3 a4 a5 a6 w0 w1 w2 w3 w4 w5 w6 W).mono fun e W' ⟨he, bel⟩ => ?_
  subst he
  exact ⟨_, rfl, _, _, _, [], _, [], hW', trodAll_mk1 (shut_bool Try.underlying4 _), (trodAll_cons_mk (shut_int Try.underlying2 w0) (trodAll_cons_mk (shut_int Try.underlying2 w1) (trodAll_cons_mk (shut_int Try.underlying5 w2) (trodAll_cons_mk (shut_int Try.underlying5 w3) (trodAll_cons_mk (shut_int Try.underlying3 w4) (trodAll_cons_mk (shut_int Try.underlying3 w5) (trodAll_cons_mk (shut_int Try.underlying5 w6) trodAll_mk0))))))), rfl, bel.frame _, fun h => by cases h⟩

theorem over : Rows.eventRightRow.holds Try.pinned (OpenSpec.ofChange Rows.eventRightSpec) :=
  OpenClaim.holds_of_wide 6 Try.f6 rfl rfl rfl rfl rfl rfl rfl ⟨rfl, rfl, rfl, rfl, rfl⟩ rfl rfl rfl rfl rfl (by kernel_rfl) Try.func6 (by kernel_rfl)
    (of_decide_eq_true (by kernel_rfl)) (by unfold Func.isWrapper; first | (rw [if_pos (by decide +kernel)]; kernel_rfl) | (rw [if_neg (by decide +kernel)]; exact ⟨rfl, rfl⟩))
    (fun os started H enc _ => lifted os started H enc)

theorem proved : Rows.EventRightSaid :=
  over
end Go.Proofs.Ytkpjbmcgfdophaa.eventRight

namespace Go.Proofs.Ytkpjbmcgfdophaa
theorem eventRight_holds : Rows.EventRightSaid := eventRight.proved
#print axioms eventRight_holds
end Go.Proofs.Ytkpjbmcgfdophaa

