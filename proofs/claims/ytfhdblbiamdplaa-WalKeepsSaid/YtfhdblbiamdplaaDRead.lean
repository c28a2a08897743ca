/-
  The contracts of package block, third part: Write and Read where they are refused, Read.
-/
import Derived.Test.YtfhdblbiamdplaaWrite
namespace Go.Proofs.Ytfhdblbiamdplaa
open Go.RowKit

theorem write_nil (w : World) (i : Int) (v : Value) (hs : ∃ a n c, v = .slice a n c) :
    Calls Try.prog 65 #[.pointer none, .int .i64 i, v] w fun e w' => e = .returned (.int .i64 4) ∧ w = w' := by
  obtain ⟨a, n, c, rfl⟩ := hs
  go_enter Try.func65, Try.ntmps65
  go_wp2
  go_ret
  exact ⟨rfl, rfl⟩

theorem write_bad {w : World} {B p gn gs n : Nat} {v : Value} {now safe : List UInt8} {ws : List Wt} (h : Dv w B p gn gs v n now safe ws) (i : Int) (a : Option Addr) (len c : Nat) (hi : i < 0 ∨ (n : Int) ≤ i ∨ 32 < len) :
    Calls Try.prog 65 #[.pointer (some ⟨p, 0, none⟩), .int .i64 i, .slice a len c] w fun e w' => e = .returned (.int .i64 1) ∧ w = w' := by
  by_cases h1 : i < 0 ∨ (n : Int) ≤ i
  · clear hi
    go_enter Try.func65, Try.ntmps65
    go_wp2_with fail
    refine (has_no h i h1).mono ?_
    rintro e w1 ⟨rfl, rfl⟩
    go_wp2
    go_ret
    exact ⟨rfl, rfl⟩
  · obtain ⟨k, rfl⟩ : ∃ k : Nat, i = k := ⟨i.toNat, by omega⟩
    have hk : k < n := by omega
    have hl : (32 : Int) < (len : Int) := by omega
    clear hi h1
    go_enter Try.func65, Try.ntmps65
    go_wp2_with fail
    refine (has_yes h k hk).mono ?_
    rintro e w1 ⟨rfl, rfl⟩
    go_wp2
    go_ret
    exact ⟨rfl, rfl⟩

theorem read_nil (w : World) (i : Int) :
    Calls Try.prog 63 #[.pointer none, .int .i64 i] w fun e w' => e = .returned (.tuple #[.slice none 0 0, .int .i64 4]) ∧ w = w' := by
  go_enter Try.func63, Try.ntmps63
  go_wp2
  go_ret2
  exact ⟨rfl, rfl⟩

theorem read_bad {w : World} {B p gn gs n : Nat} {v : Value} {now safe : List UInt8} {ws : List Wt} (h : Dv w B p gn gs v n now safe ws) (i : Int) (hi : i < 0 ∨ (n : Int) ≤ i) :
    Calls Try.prog 63 #[.pointer (some ⟨p, 0, none⟩), .int .i64 i] w fun e w' => e = .returned (.tuple #[.slice none 0 0, .int .i64 1]) ∧ w = w' := by
  go_enter Try.func63, Try.ntmps63
  go_wp2_with fail
  refine (has_no h i hi).mono ?_
  rintro e w1 ⟨rfl, rfl⟩
  go_wp2
  go_ret2
  exact ⟨rfl, rfl⟩

theorem Try.infoU : (Try.prog.info? 5).map (fun i => (i.zero, i.size, i.bytes)) = some (some (.int .u8 0), 1, 1) := by kernel_rfl

theorem made_bytes (k : Nat) : madeCells (Value.int .u8 0).cells k = (bc (List.replicate k 0)).toArray := by
  apply Array.ext
  · rw [size_madeCells, List.size_toArray, bc_length, List.length_replicate]
  · intro i h1 h2
    have e : (Value.int .u8 0).cells = Array.replicate 1 (.int .u8 0) := rfl
    simp only [madeCells, e, Array.size_replicate, Array.getElem_map, bc, List.map_replicate, List.getElem_toArray, List.getElem_replicate]
    rw [getElem!_replicate _ _ _ (Nat.mod_lt _ (by decide))]
    rfl

theorem mk_bytes (k : Nat) (hk : k ≤ 131072) (w : World) : (Instr.makeSlice 36 (.int .i64 k) (.int .i64 k)).run Try.prog w = .ok (.slice (some ⟨w.heap.size, 0, none⟩) k k) (w.alloc (.cells (bc (List.replicate k 0)).toArray 5)) := by
  obtain ⟨i0, hi, hz0, hz1, hz2⟩ := info_parts Try.infoU
  have h := run_make (P := Try.prog) w 36 5 i0 _ Try.underlying36 hi hz0 .i64 .i64 k k (by omega) (by omega) (by rw [hz2]; omega) (by omega)
  rw [h, hz1]
  have e := made_bytes k
  simp only [Int.toNat_natCast, Nat.mul_one]
  rw [e]

/-- A row that was made, whole. -/
theorem own_block {w : World} {B g n : Nat} {e : TypeId} {l : List UInt8} (h : w.heap[g]? = some (.cells (bc l).toArray e (0, 0))) (hB : B ≤ g) (hl : l.length = n) (hm : n ≤ maxLen) : Own w B e (.slice (some ⟨g, 0, none⟩) n n) l := by
  subst hl
  refine ⟨by rw [bc_length, Nat.mul_one], .inr ⟨g, l.length, (bc l).toArray, rfl, hB, h, Nat.le_refl _, hm, by simp [bc_length], ?_⟩⟩
  rw [Nat.mul_one, List.take_of_length_le (by simp [bc_length])]

set_option maxHeartbeats 1000000 in
set_option maxRecDepth 100000 in
theorem read_ok {w : World} {B p gn gs n : Nat} {v : Value} {now safe : List UInt8} {ws : List Wt} (h : Dv w B p gn gs v n now safe ws) (i : Nat) (hi : i < n) :
    Calls Try.prog 63 #[.pointer (some ⟨p, 0, none⟩), .int .i64 i] w fun e w' => ∃ v', e = .returned (.tuple #[v', .int .i64 0]) ∧ Own w' w.heap.size 5 v' (blkOf now i) ∧ Kept w w' [] := by
  have H := Lib.hid h; clear h
  have Hb := Lib.hid (blkOf_length now n i H.out.ln hi)
  go_enter Try.func63, Try.ntmps63
  go_wp2_with fail
  refine (has_yes H.out i hi).mono ?_
  rintro e w0 ⟨rfl, rfl⟩
  go_wp2_with (refine wpList_make w rfl 36 _ _ rfl (.slice (some ⟨w.heap.size, 0, none⟩) 32 32) (.cells (bc (List.replicate 32 0)).toArray 5) (mk_bytes 32 (by decide) w) ?_)
  intro w1 Hg1 Hk1 hz1
  have D1 := Lib.hid (H.out.kept Hk1.out (by simp) (by simp) (by simp) (by simp))
  have c0 := D1.out.cell0
  go_wp2_with (refine wpList_copy_fr w1 rfl (.tmp 14) (.tmp 21) 36 36 rfl 5 Try.underlying36 Try.size5 _ _ _ _ _ _ rfl rfl w.heap.size 0 (bc (List.replicate 32 0)) 5 Hg1.out (bc (blkOf now i)) ?hn ?hpos ?hfit ?h1 ?next)
  case hn => rw [bc_length, Hb.out]; rfl
  case hpos =>
    intro _
    have f : ∀ j u, (bc (blkOf now i))[j]? = some u → w1.cell? ((⟨gn, i * 32, none⟩ : Addr).add j) = some u := fun j u hu => by
      obtain ⟨hj, rfl⟩ := bc_get _ j u hu
      rw [Addr.add_lit, cell_of_row w1 gn (i * 32 + j) _ _ _ D1.out.hn]
      rw [Hb.out] at hj
      have := bc_at now (32 * i + j) (by rw [D1.out.ln]; omega)
      rw [List.getElem?_toArray, Nat.mul_comm, this]
      congr 3
      simp only [List.getD, blkOf_at, if_pos hj]
    first | exact ⟨rfl, _, rfl, f⟩ | exact ⟨_, rfl, f⟩ | exact f | (simpa only [Addr.add_lit] using f)
  case hfit => rw [bc_length, bc_length, Hb.out]; decide
  case h1 => exact bc_one _
  case next =>
    intro w2 hg2 _ hk2
    have hg3 : w2.heap[w.heap.size]? = some (.cells (bc (blkOf now i)).toArray 5 (0, 0)) := by
      have := hg2.out
      rw [splice_all _ _ (by rw [bc_length, bc_length, Hb.out]; rfl)] at this
      exact this
    have hko : Kept w w2 [] := Hk1.out.trans hk2 (by intro x hx; simp at hx; exact .inr (by omega))
    have O2 := Lib.hid (own_block hg3 (Nat.le_refl w.heap.size) Hb.out (by decide)); have K2 := Lib.hid hko
    clear hg2 hk2 hg3 hko
    go_wp2
    go_ret2
    exact ⟨_, rfl, O2.out, K2.out⟩

end Go.Proofs.Ytfhdblbiamdplaa
