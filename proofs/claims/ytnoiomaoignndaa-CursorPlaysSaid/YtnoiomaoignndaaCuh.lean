/-
  Texts that the laws make: of so many noughts, of one byte; what becomes of consumers with such names.
-/
import Derived.Test.YtnoiomaoignndaaCug
namespace Go.Proofs.Ytnoiomaoignndaa
set_option linter.unusedVariables false
open Go.RowKit

theorem getElem!_replicate (n i : Nat) (v : Value) (hi : i < n) : (Array.replicate n v)[i]! = v := by
  rw [getElem!_pos _ _ (by simpa using hi)]; simp

theorem Try.infoUB : (Try.prog.info? 5).map (fun i => (i.zero, i.size, i.bytes)) = some (some (.int .u8 0), 1, 1) := by kernel_rfl

theorem made_bytes (k : Nat) : madeCells (Value.int .u8 0).cells k = (bc (List.replicate k 0)).toArray := by
  apply Array.ext
  · rw [size_madeCells, List.size_toArray, bc_length, List.length_replicate]
  · intro i h1 h2
    have e : (Value.int .u8 0).cells = Array.replicate 1 (.int .u8 0) := rfl
    simp only [madeCells, e, Array.size_replicate, Array.getElem_map, bc, List.map_replicate, List.getElem_toArray, List.getElem_replicate]
    rw [getElem!_replicate _ _ _ (Nat.mod_lt _ (by decide))]
    rfl

theorem mk_bytes (k : Nat) (hk : k ≤ 131072) (w : World) : (Instr.makeSlice 45 (.int .i64 k) (.int .i64 k)).run Try.prog w = .ok (.slice (some ⟨w.heap.size, 0, none⟩) k k) (w.alloc (.cells (bc (List.replicate k 0)).toArray 5)) := by
  obtain ⟨i0, hi, hz0, hz1, hz2⟩ := info_parts Try.infoUB
  have h := run_make (P := Try.prog) w 45 5 i0 _ Try.underlying45 hi hz0 .i64 .i64 k k (by omega) (by omega) (by rw [hz2]; omega) (by omega)
  rw [h, hz1]
  have e := made_bytes k
  simp only [Int.toNat_natCast, Nat.mul_one]
  rw [e]

theorem foldl_push (l : List UInt8) : ∀ (s : ByteArray), ((l.map fun b => (b.toNat : Int)).foldl (fun r n => r.push (UInt8.ofNat n.toNat)) s).data.toList = s.data.toList ++ l := by
  induction l with
  | nil => intro s; simp
  | cons b r ih =>
    intro s
    rw [List.map_cons, List.foldl_cons, ih]
    simp [ByteArray.push]

/-- 'string(b)' of bytes that can be read, at an address. -/
theorem run_str {P : Program} (w : World) (src dst e : TypeId) (hs : P.underlying src = some (.slice e)) (he : P.underlying e = some (.int .u8)) (hd : P.underlying dst = some .string) (a : Addr) (c : Nat) (l : List UInt8) (n : Nat) (hn : n = l.length) (h : ∀ j u, (bc l)[j]? = some u → w.cell? (a.add j) = some u) :
    (convert src dst (.slice (some a) n c)).run P w = .ok (.string ⟨l.toArray⟩) w := by
  subst hn
  have hl : (loadCells a l.length).run P w = .ok (bc l).toArray w := by
    have := run_loadCells_list (P := P) w a (bc l) h
    rwa [bc_length] at this
  have hm : (bc l).toArray = ((l.map fun b => (b.toNat : Int)).map (Value.int .u8)).toArray := by simp [bc]
  rw [run_convert_bytes_string w src dst e _ _ _ hs he hd, run_bytesToString w a l.length c (l.map fun b => (b.toNat : Int)) (by rw [hl, hm])]
  congr 2
  have h2 := foldl_push l ByteArray.empty
  generalize (l.map fun b => (b.toNat : Int)).foldl (fun r n => r.push (UInt8.ofNat n.toNat)) ByteArray.empty = s at h2
  cases s with
  | mk d =>
    congr 1
    apply Array.ext'
    simpa using h2

/-- A text of so many noughts, made anew. -/
theorem text_of (n : Nat) (hn : n ≤ 1000) : ∃ (C : Array Value) (txt : ByteArray), txt.size = n ∧ (∀ w, (Instr.makeSlice 45 (.int .i64 n) (.int .i64 n)).run Try.prog w = .ok (.slice (some ⟨w.heap.size, 0, none⟩) n n) (w.alloc (.cells C 5))) ∧
    ∀ (w : World) (g : Nat), w.heap.size = g → (convert 45 9 (.slice (some ⟨g, 0, none⟩) n n)).run Try.prog (w.alloc (.cells C 5)) = .ok (.string txt) (w.alloc (.cells C 5)) := by
  refine ⟨(bc (List.replicate n 0)).toArray, ⟨(List.replicate n (0 : UInt8)).toArray⟩, ?_, fun w => mk_bytes n (by omega) w, fun w g hg => ?_⟩
  · simp [ByteArray.size]
  · subst hg
    refine run_str (P := Try.prog) _ 45 9 5 Try.underlying45 Try.underlying5 Try.underlying9 _ n (List.replicate n 0) n (by simp) (fun j u hu => ?_)
    rw [Addr.add_lit, cell_of_row _ _ _ _ _ _ (heap_alloc_new w _), Nat.zero_add]
    simpa using hu


/-- A text of one byte. -/
def bN (x : Int) : ByteArray := ⟨#[UInt8.ofNat x.toNat]⟩

theorem bc_one8 {x : Int} (h0 : 0 ≤ x) (h1 : x < 256) : bc [UInt8.ofNat x.toNat] = [.int .u8 x] := by
  have := bc_nat (n := x.toNat) (by omega)
  rw [this, Int.toNat_of_nonneg h0]

theorem str1 {x : Int} (h0 : 0 ≤ x) (h1 : x < 256) (w : World) (g : Nat) (hg : w.heap.size = g) : (convert 45 9 (.slice (some ⟨g, 0, none⟩) 1 1)).run Try.prog (w.alloc (.cells #[.int .u8 x] 5)) = .ok (.string (bN x)) (w.alloc (.cells #[.int .u8 x] 5)) := by
  subst hg
  refine run_str (P := Try.prog) _ 45 9 5 Try.underlying45 Try.underlying5 Try.underlying9 _ 1 [UInt8.ofNat x.toNat] 1 rfl (fun j u hu => ?_)
  rw [bc_one8 h0 h1] at hu
  rw [Addr.add_lit, cell_of_row _ _ _ _ _ _ (heap_alloc_new w _), Nat.zero_add]
  simpa using hu

theorem bN_size (x : Int) : (bN x).size = 1 := rfl
theorem bN_list (x : Int) : (bN x).toList = [UInt8.ofNat x.toNat] := by rw [ByteArray.toList_eq]; rfl
theorem bN_inj {x y : Int} (h0 : 0 ≤ x) (h1 : x < 256) (k0 : 0 ≤ y) (k1 : y < 256) : bN x = bN y ↔ x = y := by
  constructor
  · intro h
    have e : (bN x).toList = (bN y).toList := by rw [h]
    rw [bN_list, bN_list] at e
    simp only [List.cons.injEq, and_true] at e
    have e2 := congrArg UInt8.toNat e
    simp only [UInt8.toNat_ofNat'] at e2
    omega
  · intro h; rw [h]
theorem bN_lt {x y : Int} (h0 : 0 ≤ x) (h1 : x < 256) (k0 : 0 ≤ y) (k1 : y < 256) : ltN (bN x) (bN y) = decide (x < y) := by
  rw [ltN, bN_list, bN_list, Op.bytesLess, Op.bytesLess]
  simp only [Bool.and_false, Bool.or_false]
  rw [Bool.eq_iff_iff]
  simp only [decide_eq_true_eq, UInt8.lt_iff_toNat_lt, UInt8.toNat_ofNat']
  omega

/-- The j-th small letter. -/
def nAt (j : Nat) : ByteArray := bN (97 + j)
theorem nAt_isN {i j : Nat} (hi : i < 100) (hj : j < 100) (a b : Int) : isN (nAt i) ⟨nAt j, a, b⟩ = decide (j = i) := by
  rw [Bool.eq_iff_iff, isN_iff, decide_eq_true_eq]
  show nAt j = nAt i ↔ _
  rw [nAt, nAt, bN_inj (by omega) (by omega) (by omega) (by omega)]
  omega
theorem nAt_lt {i j : Nat} (hi : i < 100) (hj : j < 100) : ltN (nAt i) (nAt j) = decide (i < j) := by
  rw [nAt, nAt, bN_lt (by omega) (by omega) (by omega) (by omega)]
  rw [Bool.eq_iff_iff, decide_eq_true_eq, decide_eq_true_eq]
  omega

/-- The first i letters, four at most, each at 1. -/
def fullL : Nat → List Cu
  | 0 => []
  | 1 => [⟨nAt 0, 1, 0⟩]
  | 2 => [⟨nAt 0, 1, 0⟩, ⟨nAt 1, 1, 0⟩]
  | 3 => [⟨nAt 0, 1, 0⟩, ⟨nAt 1, 1, 0⟩, ⟨nAt 2, 1, 0⟩]
  | _ => [⟨nAt 0, 1, 0⟩, ⟨nAt 1, 1, 0⟩, ⟨nAt 2, 1, 0⟩, ⟨nAt 3, 1, 0⟩]

theorem nAt_sz (i : Nat) : ¬ ((nAt i).size < 1 ∨ 40 < (nAt i).size ∨ (1 : Int) < 1) := by rw [nAt, bN_size]; omega

theorem full_step {i : Nat} (hi : i < 6) : regE (fullL i) (nAt i) 1 = (if i < 4 then 0 else 8) ∧ regL (fullL i) (nAt i) 1 = fullL (i + 1) := by
  have he : regE (fullL i) (nAt i) 1 = (if i < 4 then 0 else 8) := by
    rw [regE, if_neg (nAt_sz i)]
    match i, hi with
    | 0, _ => rfl
    | 1, _ => simp [fullL, plc, List.findIdx?_cons, nAt_isN]
    | 2, _ => simp [fullL, plc, List.findIdx?_cons, nAt_isN]
    | 3, _ => simp [fullL, plc, List.findIdx?_cons, nAt_isN]
    | 4, _ => simp [fullL, plc, List.findIdx?_cons, nAt_isN]
    | 5, _ => simp [fullL, plc, List.findIdx?_cons, nAt_isN]
  refine ⟨he, ?_⟩
  rw [regL, he]
  match i, hi with
  | 0, _ => rfl
  | 1, _ => simp [fullL, insC, nAt_lt]
  | 2, _ => simp [fullL, insC, nAt_lt]
  | 3, _ => simp [fullL, insC, nAt_lt]
  | 4, _ => rfl
  | 5, _ => rfl

/-- One of the four again; it goes; it isn't there; another one comes. -/
theorem full_end {k : Nat} (hk : k < 4) : regE (fullL 6) (nAt k) 1 = 5 ∧ regL (fullL 6) (nAt k) 1 = fullL 6 ∧ unrE (fullL 6) (nAt k) = 0 ∧ unrE (unrL (fullL 6) (nAt k)) (nAt k) = 4 ∧ unrL (unrL (fullL 6) (nAt k)) (nAt k) = unrL (fullL 6) (nAt k) ∧
    regE (unrL (fullL 6) (nAt k)) (nAt 25) 1 = 0 ∧ (regL (unrL (fullL 6) (nAt k)) (nAt 25) 1).length = 4 := by
  have he : regE (fullL 6) (nAt k) 1 = 5 := by
    rw [regE, if_neg (nAt_sz k)]
    match k, hk with
    | 0, _ => simp [fullL, plc, List.findIdx?_cons, nAt_isN]
    | 1, _ => simp [fullL, plc, List.findIdx?_cons, nAt_isN]
    | 2, _ => simp [fullL, plc, List.findIdx?_cons, nAt_isN]
    | 3, _ => simp [fullL, plc, List.findIdx?_cons, nAt_isN]
  have hu : unrL (fullL 6) (nAt k) = (fullL 6).eraseIdx k := by
    match k, hk with
    | 0, _ => simp [unrL, fullL, plc, List.findIdx?_cons, nAt_isN]
    | 1, _ => simp [unrL, fullL, plc, List.findIdx?_cons, nAt_isN]
    | 2, _ => simp [unrL, fullL, plc, List.findIdx?_cons, nAt_isN]
    | 3, _ => simp [unrL, fullL, plc, List.findIdx?_cons, nAt_isN]
  have hz : regE ((fullL 6).eraseIdx k) (nAt 25) 1 = 0 := by
    rw [regE, if_neg (nAt_sz 25)]
    match k, hk with
    | 0, _ => simp [fullL, plc, List.findIdx?_cons, nAt_isN]
    | 1, _ => simp [fullL, plc, List.findIdx?_cons, nAt_isN]
    | 2, _ => simp [fullL, plc, List.findIdx?_cons, nAt_isN]
    | 3, _ => simp [fullL, plc, List.findIdx?_cons, nAt_isN]
  have hp : plc ((fullL 6).eraseIdx k) (nAt k) = none := by
    match k, hk with
    | 0, _ => simp [fullL, plc, List.findIdx?_cons, nAt_isN]
    | 1, _ => simp [fullL, plc, List.findIdx?_cons, nAt_isN]
    | 2, _ => simp [fullL, plc, List.findIdx?_cons, nAt_isN]
    | 3, _ => simp [fullL, plc, List.findIdx?_cons, nAt_isN]
  have hq : (plc (fullL 6) (nAt k)).isSome = true := by
    match k, hk with
    | 0, _ => simp [fullL, plc, List.findIdx?_cons, nAt_isN]
    | 1, _ => simp [fullL, plc, List.findIdx?_cons, nAt_isN]
    | 2, _ => simp [fullL, plc, List.findIdx?_cons, nAt_isN]
    | 3, _ => simp [fullL, plc, List.findIdx?_cons, nAt_isN]
  have h4 : (fullL 6).length = 4 := rfl
  refine ⟨he, by rw [regL, he]; rfl, by rw [unrE, hq]; rfl, by rw [hu, unrE, hp]; rfl, by rw [hu, unrL, hp], by rw [hu]; exact hz, ?_⟩
  rw [hu, regL, if_pos hz, insC_length, List.length_eraseIdx, if_pos (by rw [h4]; exact hk), h4]

end Go.Proofs.Ytnoiomaoignndaa
