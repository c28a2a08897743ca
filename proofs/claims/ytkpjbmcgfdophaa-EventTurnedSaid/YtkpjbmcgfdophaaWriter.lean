/-
  The contracts of code.Writer: Num, Int, Text and Bytes lay the bytes that the document asks behind what was laid, and change nothing but the writer's own blocks.
-/
import Derived.Test.YtkpjbmcgfdophaaRows
import Derived.Test.YtkpjbmcgfdophaaKit
import Derived.Test.YtkpjbmcgfdophaaMath
namespace Go.Proofs.Ytkpjbmcgfdophaa
open Go.RowKit

theorem Try.infoB : (Try.prog.info? 5).map (fun i => (i.zero, i.size, i.bytes)) = some (some (.int .u8 0), 1, 1) := by kernel_rfl

/-- A writer at block p: its one field holds v, which owns the bytes l. -/
def Wr (w : World) (base p : Nat) (v : Value) (l : List UInt8) : Prop :=
  w.heap[p]? = some (.cells #[v] 48 (0, 0)) ∧ Own w base 5 v l

/-- From w to w' only the blocks ps, and what v stood in, have been written; v' stands where v stood, or in a new block. -/
def Stp (w w' : World) (ps : List Nat) (v v' : Value) : Prop :=
  Kept w w' (ps ++ v.ownBlock.toList) ∧ (v'.ownBlock = v.ownBlock ∨ ∃ g, v'.ownBlock = some g ∧ w.heap.size ≤ g)

theorem Stp.refl (w : World) (ps : List Nat) (v : Value) : Stp w w ps v v := ⟨Kept.refl _ _, .inl rfl⟩

theorem Stp.trans {a b c : World} {ps : List Nat} {v v' v'' : Value} (h : Stp a b ps v v') (k : Stp b c ps v' v'') : Stp a c ps v v'' := by
  refine ⟨h.1.trans k.1 (fun x hx => ?_), ?_⟩
  · rcases List.mem_append.1 hx with h1 | h1
    · exact .inl (List.mem_append.2 (.inl h1))
    · rcases h.2 with h2 | ⟨g, h2, h3⟩
      · rw [h2] at h1; exact .inl (List.mem_append.2 (.inr h1))
      · rw [h2] at h1
        simp at h1
        subst h1
        exact .inr h3
  · have hs := h.1.size
    rcases k.2 with h2 | ⟨g, h2, h3⟩
    · rcases h.2 with h4 | ⟨g, h4, h5⟩
      · exact .inl (h2.trans h4)
      · exact .inr ⟨g, h2.trans h4, h5⟩
    · exact .inr ⟨g, h2, by omega⟩

theorem Wr.step {w w' : World} {base p : Nat} {v v' : Value} {l m : List UInt8} {k : Nat} (hw : Wr w base p v l) (ho : w'.ownsRow base 5 1 v' k (bc l ++ bc m))
    (hk : Kept w w' v.ownBlock.toList) (hb : v'.ownBlock = v.ownBlock ∨ ∃ g, v'.ownBlock = some g ∧ w.heap.size ≤ g) :
    Wr (w'.setCell ⟨p, 0, none⟩ v') base p v' (l ++ m) ∧ Stp w (w'.setCell ⟨p, 0, none⟩ v') [p] v v' ∧ w'.cell? ⟨p, 0, none⟩ = some v ∧ w'.frozen? ⟨p, 0, none⟩ = false := by
  have hne := hw.2.apart hw.1 (by decide)
  have hkl : k = (l ++ m).length := by have := ho.1; rw [← bc_append, bc_length] at this; omega
  have ho' : Own w' base 5 v' (l ++ m) := by unfold Own; rw [bc_append, ← hkl]; exact ho
  have hp : w'.heap[p]? = some (.cells #[v] 48 (0, 0)) := hk.heap (by
    intro hm
    have : v.ownBlock = some p := by simpa using hm
    exact hne p this rfl) hw.1
  have hne' : ∀ b, v'.ownBlock = some b → b ≠ p := ho'.apart hp (by decide)
  refine ⟨⟨by simpa using heap_setCell_at hp 0 v', ?_⟩, ⟨?_, ?_⟩, by simpa using cell_of_row w' p 0 #[v] _ _ hp, frozen_of_row w' p 0 _ _ hp⟩
  · exact ho'.kept ((Kept.refl w' [p]).setCell (p := ⟨p, 0, none⟩) (.inl (by simp)) v') (fun b hb' => by simpa using hne' b hb')
  · exact (hk.mono (cs := [p] ++ v.ownBlock.toList) (fun x hx => List.mem_append.2 (.inr hx))).setCell (p := ⟨p, 0, none⟩) (.inl (by simp)) v'
  · rcases hb with h | ⟨g, h1, h2⟩
    · exact .inl h
    · exact .inr ⟨g, h1, h2⟩

set_option maxHeartbeats 400000 in
set_option maxRecDepth 100000 in
theorem num_any (base p : Nat) (v : Value) (l : List UInt8) (n : Nat) (w : World) (hw : Wr w base p v l) (hbase : base ≤ w.heap.size) (hn : n ≤ 18446744073709551615) (hl : l.length ≤ 1099511627776) :
    Calls Try.prog 23 #[.pointer (some ⟨p, 0, none⟩), .int .u64 n] w fun e w' => e = .returned (.pointer (some ⟨p, 0, none⟩)) ∧ ∃ v', Wr w' base p v' (l ++ numL n) ∧ Stp w w' [p] v v' := by
  obtain ⟨i0, hi, hz0, hz1, hz2⟩ := info_parts Try.infoB
  go_enter Try.func23, Try.ntmps23
  go_wp2
  go_loopw [1] (fun t wr => ∃ (m : Nat) (v' : Value) (l' : List UInt8), t = .int .u64 m ∧ m ≤ n ∧ numL n = l' ++ numL m ∧ l'.length + (numL m).length ≤ 10 ∧ Wr wr base p v' (l ++ l') ∧ Stp w wr [p] v v') (fun t _ => (intOf t).toNat)
  case atStart => exact ⟨n, v, [], rfl, by omega, rfl, by have := numL_ten (n := n) (by omega); simpa using this, by simpa using hw, Stp.refl _ _ _⟩
  case round =>
    obtain ⟨m, v', l', rfl, hmn, hnum, hlen, hwr, hst⟩ := hrel
    have Hnum := Lib.hid hnum; clear hnum
    have hpos := numL_pos m
    have hll : (l ++ l').length ≤ 1099511627786 := by rw [List.length_append]; omega
    have hbr : base ≤ wr.heap.size := Nat.le_trans hbase hst.1.size
    have hc : wr.cell? ⟨p, 0, none⟩ = some v' := by simpa using cell_of_row wr p 0 #[v'] _ _ hwr.1
    have Hwr := Lib.hid hwr; clear hwr
    have Hst := Lib.hid hst; clear hst
    by_cases hlt : 128 ≤ m
    · have H2 := Lib.hid (numL_great hlt)
      go_wp2_with (at_builtin; refine wpList_append_src _ rfl (.tmp 13) (.tmp 18) 28 28 rfl base 5 i0 (.int .u8 0) 1 1 Try.underlying28 hi hz0 hz1 hz2 rfl v' (l ++ l').length (bc (l ++ l')) rfl ?hown _ 1 [.int .u8 ((m : Int) % 128 + 128)] rfl (src_one Try.underlying28 wr _ rfl _) ?b1 ?b2 ?base ?next)
      case hown => exact World.ownsRow.alloc Hwr.out.2 _
      case b1 => unfold maxLen; omega
      case b2 => omega
      case base => simp; omega
      case next =>
        intro v2 w2 hown hgrow hblk _
        have e1 : bc [UInt8.ofNat (m % 128 + 128)] = [Value.int .u8 ((m : Int) % 128 + 128)] := by rw [bc_nat (by omega)]; simp
        rw [← e1] at hown
        obtain ⟨hw2, hs2, k0, e0⟩ := Wr.step (m := [UInt8.ofNat (m % 128 + 128)]) Hwr.out hown (((Kept.refl wr _).alloc _).grown hgrow (fun k hk => .inl (by simp [hk]))) (hblk.imp id fun ⟨g, h1, h2⟩ => ⟨g, h1, by omega⟩)
        obtain ⟨a2, n2, c2, hv2⟩ := Own.shape3 hw2.2
        have Hw2 := Lib.hid hw2; have Hs2 := Lib.hid hs2
        clear hw2 hs2 e1 hown hgrow hblk hc
        subst hv2
        go_wp2
        go_roundw
        case rel =>
          refine ⟨m / 128, _, l' ++ [UInt8.ofNat (m % 128 + 128)], by go_num, by omega, ?_, ?_, by rw [← List.append_assoc]; exact Hw2.out, Hst.out.trans Hs2.out⟩
          · rw [Hnum.out, H2.out]; simp
          · have := H2.out; rw [this] at hlen; simp at hlen ⊢; omega
        case measure => simp [intOf]; omega
    · have hm : (m : Int) < 128 := by omega
      have H2 := Lib.hid (numL_small (n := m) (by omega))
      go_wp2_with (at_builtin; refine wpList_append_src _ rfl (.tmp 28) (.tmp 31) 28 28 rfl base 5 i0 (.int .u8 0) 1 1 Try.underlying28 hi hz0 hz1 hz2 rfl v' (l ++ l').length (bc (l ++ l')) rfl ?hown _ 1 [.int .u8 (m : Int)] rfl (src_one Try.underlying28 wr _ rfl _) ?b1 ?b2 ?base ?next)
      case hown => exact World.ownsRow.alloc Hwr.out.2 _
      case b1 => unfold maxLen; omega
      case b2 => omega
      case base => simp; omega
      case next =>
        intro v2 w2 hown hgrow hblk _
        have e1 : bc [UInt8.ofNat m] = [Value.int .u8 (m : Int)] := bc_nat (by omega)
        rw [← e1] at hown
        obtain ⟨hw2, hs2, k0, e0⟩ := Wr.step (m := [UInt8.ofNat m]) Hwr.out hown (((Kept.refl wr _).alloc _).grown hgrow (fun k hk => .inl (by simp [hk]))) (hblk.imp id fun ⟨g, h1, h2⟩ => ⟨g, h1, by omega⟩)
        obtain ⟨a2, n2, c2, hv2⟩ := Own.shape3 hw2.2
        have Hw2 := Lib.hid hw2; have Hs2 := Lib.hid hs2
        clear hw2 hs2 e1 hown hgrow hblk hc
        subst hv2
        go_wp2
        go_ret
        refine ⟨rfl, _, ?_, Hst.out.trans Hs2.out⟩
        rw [Hnum.out, H2.out, ← List.append_assoc]
        exact Hw2.out

end Go.Proofs.Ytkpjbmcgfdophaa
