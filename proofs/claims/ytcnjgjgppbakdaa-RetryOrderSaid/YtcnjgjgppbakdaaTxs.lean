/-
  Texts that laws make of bytes: of one byte. No function of the program.
-/
import Derived.Test.YtcnjgjgppbakdaaRows
import Derived.Test.YtcnjgjgppbakdaaFr
import Derived.Test.YtcnjgjgppbakdaaCua
namespace Go.Proofs.Ytcnjgjgppbakdaa
set_option linter.unusedVariables false
open Go.RowKit

theorem foldl_push (l : List UInt8) : ∀ (s : ByteArray), ((l.map fun b => (b.toNat : Int)).foldl (fun r n => r.push (UInt8.ofNat n.toNat)) s).data.toList = s.data.toList ++ l := by
  induction l with
  | nil => intro s; simp
  | cons b r ih =>
    intro s
    rw [List.map_cons, List.foldl_cons, ih]
    simp [ByteArray.push]

/-- 'string(b)' of bytes that can be read, at an address. -/
theorem run_str {P : Program} (w : World) (src dst e : TypeId) (hs : P.underlying src = some (.slice e)) (he : P.underlying e = some (.int .u8)) (hd : P.underlying dst = some .string) (a : Addr) (c : Nat) (l : List UInt8) (n : Nat) (hn : n = l.length) (h : ∀ j u, (bc l)[j]? = some u → w.cell? (a.add j) = some u) :
    (convert src dst (.slice (some a) n c)).run P w = .ok (.string ⟨l.toArray⟩) w := by
  subst hn
  have hl : (loadCells a l.length).run P w = .ok (bc l).toArray w := by
    have := run_loadCells_list (P := P) w a (bc l) h
    rwa [bc_length] at this
  have hm : (bc l).toArray = ((l.map fun b => (b.toNat : Int)).map (Value.int .u8)).toArray := by simp [bc]
  rw [run_convert_bytes_string w src dst e _ _ _ hs he hd, run_bytesToString w a l.length c (l.map fun b => (b.toNat : Int)) (by rw [hl, hm])]
  congr 2
  have h2 := foldl_push l ByteArray.empty
  generalize (l.map fun b => (b.toNat : Int)).foldl (fun r n => r.push (UInt8.ofNat n.toNat)) ByteArray.empty = s at h2
  cases s with
  | mk d =>
    congr 1
    apply Array.ext'
    simpa using h2

/-- A text of one byte. -/
def bN (x : Int) : ByteArray := ⟨#[UInt8.ofNat x.toNat]⟩

theorem bc_one8 {x : Int} (h0 : 0 ≤ x) (h1 : x < 256) : bc [UInt8.ofNat x.toNat] = [.int .u8 x] := by
  have := bc_nat (n := x.toNat) (by omega)
  rw [this, Int.toNat_of_nonneg h0]

theorem str1 {x : Int} (h0 : 0 ≤ x) (h1 : x < 256) (w : World) (g : Nat) (hg : w.heap.size = g) : (convert 61 9 (.slice (some ⟨g, 0, none⟩) 1 1)).run Try.prog (w.alloc (.cells #[.int .u8 x] 5)) = .ok (.string (bN x)) (w.alloc (.cells #[.int .u8 x] 5)) := by
  subst hg
  refine run_str (P := Try.prog) _ 61 9 5 Try.underlying61 Try.underlying5 Try.underlying9 _ 1 [UInt8.ofNat x.toNat] 1 rfl (fun j u hu => ?_)
  rw [bc_one8 h0 h1] at hu
  rw [Addr.add_lit, cell_of_row _ _ _ _ _ _ (heap_alloc_new w _), Nat.zero_add]
  simpa using hu

theorem bN_size (x : Int) : (bN x).size = 1 := rfl
theorem bN_list (x : Int) : (bN x).toList = [UInt8.ofNat x.toNat] := by rw [ByteArray.toList_eq]; rfl
theorem bN_inj {x y : Int} (h0 : 0 ≤ x) (h1 : x < 256) (k0 : 0 ≤ y) (k1 : y < 256) : bN x = bN y ↔ x = y := by
  constructor
  · intro h
    have e : (bN x).toList = (bN y).toList := by rw [h]
    rw [bN_list, bN_list] at e
    simp only [List.cons.injEq, and_true] at e
    have e2 := congrArg UInt8.toNat e
    simp only [UInt8.toNat_ofNat'] at e2
    omega
  · intro h; rw [h]
theorem bN_lt {x y : Int} (h0 : 0 ≤ x) (h1 : x < 256) (k0 : 0 ≤ y) (k1 : y < 256) : ltN (bN x) (bN y) = decide (x < y) := by
  rw [ltN, bN_list, bN_list, Op.bytesLess, Op.bytesLess]
  simp only [Bool.and_false, Bool.or_false]
  rw [Bool.eq_iff_iff]
  simp only [decide_eq_true_eq, UInt8.lt_iff_toNat_lt, UInt8.toNat_ofNat']
  omega

end Go.Proofs.Ytcnjgjgppbakdaa
