/-
  Eof, Eog in one text.
-/
import Derived.Test.YtjdbmlifekghfaaEr14
import Derived.Test.YtjdbmlifekghfaaEr12
namespace Go.Proofs.Ytjdbmlifekghfaa
set_option linter.unusedVariables false
open Go.RowKit

set_option maxRecDepth 100000 in
theorem wparts_any (e : En) (B p : Nat) (v vo ve vi : Value) (l : List UInt8) (w : World) (W : Wr wB w B p v l) (hB : B ≤ w.heap.size) (L : Lay w e vo ve vi p v) (hl' : l.length ≤ 1000000) :
    Calls Try.prog 27 #[.pointer (some ⟨p, 0, none⟩), .agg (e.cs vo ve vi)] w fun en w' => en = .returned (.tuple #[]) ∧ ∃ v', Wr wB w' B p v' (l ++ e.body) ∧ Wtp w w' [p] v v' := by
  have hk := L.r.k
  obtain ⟨k, tx, nx, id, ops, evs, tn, tm, op, ta, nm, n, at1⟩ := e
  dsimp only at hk
  by_cases h1 : k = 1
  · subst h1; exact wp1 B p v vo ve vi tx nx id ops evs tn tm op ta nm n at1 l w W hB L hl'
  by_cases h8 : k = 8
  · subst h8; exact wp8 B p v vo ve vi tx nx id ops evs tn tm op ta nm n at1 l w W hB L hl'
  by_cases h2 : k = 2
  · subst h2; exact wp2 B p v vo ve vi tx nx id ops evs tn tm op ta nm n at1 l w W hB L hl'
  by_cases h3 : 3 ≤ k ∧ k ≤ 6
  · have := wp3 B p v vo ve vi k (by omega) tx nx id ops evs tn tm op ta nm n at1 l w W hB L hl'
    rw [show En.body ⟨k, tx, nx, id, ops, evs, tn, tm, op, ta, nm, n, at1⟩ = En.b3 ⟨k, tx, nx, id, ops, evs, tn, tm, op, ta, nm, n, at1⟩ from by unfold En.body; dsimp only; rw [if_neg h1, if_neg h8, if_neg h2, if_pos h3]]
    exact this
  by_cases h7 : k = 7
  · subst h7; exact wp7 B p v vo ve vi tx nx id ops evs tn tm op ta nm n at1 l w W hB L hl'
  by_cases h9 : k = 9 ∨ k = 10
  · have := wp9 B p v vo ve vi k h9 tx nx id ops evs tn tm op ta nm n at1 l w W hB L hl'
    rw [show En.body ⟨k, tx, nx, id, ops, evs, tn, tm, op, ta, nm, n, at1⟩ = En.b9 ⟨k, tx, nx, id, ops, evs, tn, tm, op, ta, nm, n, at1⟩ from by unfold En.body; dsimp only; rw [if_neg h1, if_neg h8, if_neg h2, if_neg h3, if_neg h7, if_pos h9]]
    exact this
  · obtain rfl : k = 11 := by omega
    exact wp11 B p v vo ve vi tx nx id ops evs tn tm op ta nm n at1 l w W hB L hl'

theorem own_lit {w : World} {base g n : Nat} {us : Array Value} {T : TypeId} (h : w.heap[g]? = some (.cells us T (0, 0))) (hn : us.size = n) (hm : n ≤ 1000) (hb : base ≤ g) : w.ownsRow base T 1 (.slice (some ⟨g, 0, none⟩) n n) n us.toList :=
  ⟨by rw [Array.length_toList, hn, Nat.mul_one], .inr ⟨g, n, us, rfl, hb, h, Nat.le_refl _, by unfold maxLen; omega, by rw [hn, Nat.mul_one], by rw [Nat.mul_one, ← hn, ← Array.length_toList, List.take_length]⟩⟩

theorem body_len {w : World} {e : En} {vo ve vi : Value} {p : Nat} {v : Value} (L : Lay w e vo ve vi p v) : e.body.length ≤ 200000 := by
  obtain ⟨h1, h2, h3, h4, h5, h6, h7⟩ := L.lens
  have h8 := openL_len L.r.op L.r.nop
  have h9 := intL_len L.r.at'
  have h10 := intL_len L.r.ta
  have h11 := wholeL_len L.r.tn
  have h12 := wholeL_len L.r.tm
  unfold En.body
  repeat' split
  all_goals (try simp only [En.b1, En.b8, En.b2, En.b3, En.b7, En.b9, En.b11, List.length_append, List.length_nil])
  all_goals omega

set_option maxHeartbeats 4000000 in
set_option maxRecDepth 100000 in
theorem eencode_any (e : En) (vo ve vi : Value) (w : World) (hr : e.Right) (hd : RdN w e vo ve vi) (fo : ∀ b, vo.ownBlock = some b → b < w.heap.size) (fe : ∀ b, ve.ownBlock = some b → b < w.heap.size) (fi : ∀ b, vi.ownBlock = some b → b < w.heap.size) :
    Calls Try.prog 12 #[.agg (e.cs vo ve vi)] w fun en w' => ∃ v', en = .returned v' ∧ Own w' w.heap.size 5 v' e.encL ∧ Kept w w' [] := by
  obtain ⟨i0, hi, hz0, hz1, hz2⟩ := info_parts Try.infoB
  obtain ⟨oa, oc, hvo⟩ := hd.ro.shape
  obtain ⟨ea, ec, hve⟩ := hd.re.shape
  obtain ⟨ia, ic1, hvi, _⟩ := id hd.ri
  subst hvo hve hvi
  have hk := hr.k
  have HP := fun V B p v l (W : Wr wB V B p v l) (hB : B ≤ V.heap.size) L hl' => wparts_any e B p v (.slice oa e.ops.length oc) (.slice ea e.evs.length ec) (.slice ia e.op.length ic1) l V W hB L hl'
  obtain ⟨BD, hBD⟩ : ∃ BD, BD = e.body := ⟨_, rfl⟩
  rw [← hBD] at HP
  have HENC : RowKit.Hid (e.encL = UInt8.ofNat e.k.toNat :: BD) := Lib.hid (by rw [hBD]; rfl)
  obtain ⟨k, tx, nx, id, ops, evs, tn, tm, op, ta, nm, n, at1⟩ := e
  dsimp only at hk HP HENC
  have HBC : RowKit.Hid (bc (UInt8.ofNat k.toNat :: BD) = [.int .u8 k] ++ bc BD) := Lib.hid (by
    rw [show UInt8.ofNat k.toNat :: BD = [UInt8.ofNat k.toNat] ++ BD from rfl, bc_append, bc_nat (by omega)]
    rw [show ((k.toNat : Nat) : Int) = k from by omega])
  obtain ⟨W1, hW1⟩ : ∃ W1, W1 = (w.alloc (.cells #[.int .u8 k, .int .i64 tx, .int .i64 nx, .int .i64 id, .slice oa ops.length oc, .slice ea evs.length ec, .int .i64 tn, .int .i64 tm, .slice ia op.length ic1, .int .i64 ta, .string nm, .int .i64 n, .int .i64 at1] 41)).alloc (.cells #[.slice none 0 0, .bool false] 83) := ⟨_, rfl⟩
  have hz : (w.alloc (.cells #[.int .u8 k, .int .i64 tx, .int .i64 nx, .int .i64 id, .slice oa ops.length oc, .slice ea evs.length ec, .int .i64 tn, .int .i64 tm, .slice ia op.length ic1, .int .i64 ta, .string nm, .int .i64 n, .int .i64 at1] 41)).heap.size = w.heap.size + 1 := by simp
  have k1 : Kept w W1 [] := by rw [hW1]; exact ((Kept.refl w []).alloc _).alloc _
  have b1 : W1.heap[w.heap.size]? = some (.cells #[.int .u8 k, .int .i64 tx, .int .i64 nx, .int .i64 id, .slice oa ops.length oc, .slice ea evs.length ec, .int .i64 tn, .int .i64 tm, .slice ia op.length ic1, .int .i64 ta, .string nm, .int .i64 n, .int .i64 at1] 41 (0, 0)) := by rw [hW1]; exact ((Kept.refl _ []).alloc _).heap (by simp) (heap_alloc_new w _)
  have b2 : W1.heap[w.heap.size + 1]? = some (.cells #[.slice none 0 0, .bool false] 83 (0, 0)) := by rw [hW1, ← hz]; exact heap_alloc_new _ _
  have g1 : Wr wB W1 (w.heap.size + 1) (w.heap.size + 1) (.slice none 0 0) [] := ⟨b2, Own.nil _ _ _⟩
  have c1 : ∀ j, W1.cell? ⟨w.heap.size, j, none⟩ = (#[.int .u8 k, .int .i64 tx, .int .i64 nx, .int .i64 id, .slice oa ops.length oc, .slice ea evs.length ec, .int .i64 tn, .int .i64 tm, .slice ia op.length ic1, .int .i64 ta, .string nm, .int .i64 n, .int .i64 at1] : Array Value)[j]? := fun j => cell_of_row _ _ j _ _ _ b1
  have L1 : Lay W1 (⟨k, tx, nx, id, ops, evs, tn, tm, op, ta, nm, n, at1⟩ : En) (.slice oa ops.length oc) (.slice ea evs.length ec) (.slice ia op.length ic1) (w.heap.size + 1) (.slice none 0 0) :=
    ⟨hr, hd.keep k1, fun b hb => ⟨⟨by have := fo b hb; omega, by simp [Value.ownBlock]⟩, by have := fo b hb; have := k1.size; omega⟩, fun b hb => ⟨⟨by have := fe b hb; omega, by simp [Value.ownBlock]⟩, by have := fe b hb; have := k1.size; omega⟩, fun b hb => ⟨⟨by have := fi b hb; omega, by simp [Value.ownBlock]⟩, by have := fi b hb; have := k1.size; omega⟩⟩
  have LB : RowKit.Hid (BD.length ≤ 200000) := Lib.hid (by rw [hBD]; exact body_len L1)
  have HPC := Lib.hid (HP W1 _ _ _ [] g1 (by have := k1.size; simp [hW1]) L1 (by simp))
  have fb : Far (w.heap.size + 1) (.slice none 0 0) w.heap.size := ⟨by omega, by simp [Value.ownBlock]⟩
  have C0 := c1 0; have C1 := c1 1; have C2 := c1 2; have C3 := c1 3; have C4 := c1 4; have C5 := c1 5; have C6 := c1 6; have C7 := c1 7; have C8 := c1 8; have C9 := c1 9; have C10 := c1 10; have C11 := c1 11; have C12 := c1 12
  simp only [List.getElem?_toArray, List.getElem?_cons_zero, List.getElem?_cons_succ] at C0 C1 C2 C3 C4 C5 C6 C7 C8 C9 C10 C11 C12
  have B1 := Lib.hid b1; have KW1 := Lib.hid k1; have FB := Lib.hid fb
  clear hr hd fo fe fi HP hBD k1 b1 b2 g1 c1 L1 fb hz hk
  change Calls Try.prog 12 #[.agg #[.int .u8 k, .int .i64 tx, .int .i64 nx, .int .i64 id, .slice oa ops.length oc, .slice ea evs.length ec, .int .i64 tn, .int .i64 tm, .slice ia op.length ic1, .int .i64 ta, .string nm, .int .i64 n, .int .i64 at1]] w _
  go_enter Try.func12, Try.ntmps12
  go_upto_region 2 with fail
  rw [← hW1]
  clear hW1
  go_wp2_with fail
  refine HPC.out.mono ?_
  rintro e w2 ⟨rfl, v2, g2, s2⟩
  obtain ⟨c2, _⟩ := g2.bad
  have G2 := Lib.hid (show Wr wB w2 (w.heap.size + 1) (w.heap.size + 1) v2 BD by simpa using g2)
  have CK : RowKit.Hid (∀ V, Kept w2 V [] → V.cell? ⟨w.heap.size, 0, none⟩ = some (.int .u8 k)) := Lib.hid (fun V hV => cell_of_row V _ 0 _ _ _ (hV.heap (by simp) (s2.heap FB.out B1.out)))
  have K2 : RowKit.Hid (Kept w w2 []) := Lib.hid (KW1.out.trans s2.1 (by intro x hx; simp [Value.ownBlock] at hx; exact .inr (by omega)))
  have HBY : RowKit.Hid (∀ V, Kept w2 V [] → Calls Try.prog 28 #[.pointer (some ⟨w.heap.size + 1, 0, none⟩)] V fun en w' => ∃ v', en = .returned v' ∧ Rd w' v' BD ∧ Kept V w' []) := Lib.hid (fun V hV =>
    (bytes_any _ _ v2 _ V (G2.out.kept hV (by simp) (by simp)) (by have := LB.out; omega)).mono (fun _ _ h => by obtain ⟨v', h1, h2, h3⟩ := h; exact ⟨v', h1, h2.rd, h3⟩))
  clear g2 s2 C0 C1 C2 C3 C4 C5 C6 C7 C8 C9 C10 C11 C12
  go_upto_region 5 with fail
  clear c2
  refine wp_region_held_drew (S := fun Z => Kept w2 Z []) (by kernel_rfl) (Kept.refl w2 []).drew (fun hHeld => ?_)
  refine wpAnyH_take (i := 0) (oi := _) (v := .pointer (some ⟨w.heap.size, 0, none⟩)) rfl (by kernel_rfl) (by kernel_rfl) (by kernel_rfl) (fun _ _ _ h => h) (Or.inl ⟨by rfl, fun V hV => by go_simp⟩) hHeld ?_
  change wpAnyH _ _ _ _ _ _ _ (Act.put _ (some 13) _) _
  simp only [Act.put, List.setIfInBounds_toArray, List.set_cons_zero, List.set_cons_succ]
  refine wpAnyH_take (i := 1) (oi := _) (v := .int .u8 k) rfl (by kernel_rfl) (by kernel_rfl) (by kernel_rfl) (fun _ _ _ h => h) (Or.inl ⟨by rfl, fun V hV => by (have c9 := CK.out V hV; clear hV; go_simp)⟩) hHeld ?_
  change wpAnyH _ _ _ _ _ _ _ (Act.put _ (some 14) _) _
  simp only [Act.put, List.setIfInBounds_toArray, List.set_cons_zero, List.set_cons_succ]
  refine wpAnyH_take (i := 3) (oi := _) (v := .pointer (some ⟨w.heap.size + 1, 0, none⟩)) rfl (by kernel_rfl) (by kernel_rfl) (by kernel_rfl) (fun _ _ _ h => h) (Or.inl ⟨by rfl, fun V hV => by go_simp⟩) hHeld ?_
  change wpAnyH _ _ _ _ _ _ _ (Act.put _ (some 16) _) _
  simp only [Act.put, List.setIfInBounds_toArray, List.set_cons_zero, List.set_cons_succ]
  refine wpAnyH_take (i := 4) (oi := _) (v := .pointer (some ⟨w.heap.size + 1, 0, none⟩)) rfl (by kernel_rfl) (by kernel_rfl) (by kernel_rfl) (fun _ _ _ h => h) (Or.inl ⟨by rfl, fun V hV => by go_simp⟩) hHeld ?_
  change wpAnyH _ _ _ _ _ _ _ (Act.put _ (some 17) _) _
  simp only [Act.put, List.setIfInBounds_toArray, List.set_cons_zero, List.set_cons_succ]
  refine wpAnyH_take (i := 5) (oi := _) (v := .pointer (some ⟨w.heap.size + 1, 0, none⟩)) rfl (by kernel_rfl) (by kernel_rfl) (by kernel_rfl) (fun _ _ _ h => h) (Or.inl ⟨by rfl, fun V hV => by go_simp⟩) hHeld ?_
  change wpAnyH _ _ _ _ _ _ _ (Act.put _ (some 18) _) _
  simp only [Act.put, List.setIfInBounds_toArray, List.set_cons_zero, List.set_cons_succ]
  refine wpAnyH_ready (rs := [2, 6]) (by kernel_rfl) (by simp) ?_
  refine AllReadyH.cons (o := _) rfl (fun K hK => ?_) (AllReadyH.cons (o := _) rfl (fun K hK => ?_) AllReadyH.nil)
  · go_simp
    obtain ⟨W3, hW3⟩ : ∃ W3, W3 = (w2.alloc (.cells #[.int .u8 k] 5)).drew := ⟨_, rfl⟩
    rw [← hW3]
    have K3 : RowKit.Hid (Kept w2 W3 []) := Lib.hid (by rw [hW3]; exact ((Kept.refl w2 []).alloc _).drew)
    have B3 : RowKit.Hid (W3.heap[w2.heap.size]? = some (.cells #[.int .u8 k] 5 (0, 0))) := Lib.hid (by rw [hW3]; exact heap_alloc_new w2 _)
    clear hW3
    refine hK.out _ _ K3.out (fun hHeld => ?_)
    clear hK K
    refine wpAnyH_ready (rs := [6]) (by kernel_rfl) (by simp) ?_
    refine AllReadyH.cons (o := _) rfl (fun K hK => ?_) AllReadyH.nil
    go_simp
    go_at_call 28
    refine (HBY.out _ K3.out).mono ?_
    rintro e w5 ⟨v5, rfl, r5, k5⟩
    obtain ⟨a5, n5, c5, hv5⟩ := r5.shape3
    have R5 := Lib.hid r5; have K5 := Lib.hid k5
    clear r5 k5
    subst hv5
    have K6 := Lib.hid (K3.out.trans K5.out (by simp))
    refine hK.out _ _ K6.out (fun hHeld => ?_)
    clear hK K
    refine wpAnyH_ready (rs := [7]) (by kernel_rfl) (by simp) ?_
    refine AllReadyH.cons (o := _) rfl (fun K hK => ?_) AllReadyH.nil
    refine step_append_fr _ rfl (.tmp 15) (.tmp 19) 22 22 rfl w2.heap.size 5 i0 (.int .u8 0) 1 1 Try.underlying22 hi hz0 hz1 hz2 rfl _ 1 [.int .u8 k] rfl (own_lit (K5.out.heap (by simp) B3.out) rfl (by decide) (Nat.le_refl _)) _ BD.length (bc BD) rfl (Rd.src (R5.out) Try.underlying22) (by have := LB.out; unfold maxLen; omega) (by have := LB.out; omega) K6.out.size ?_
    intro v9 w9 ho9 hf9 _
    have k9 : Kept w2 w9 [] := ((Fr.ofKept K6.out 0 []).later hf9 (Nat.le_refl _)).kept
    have K9 := Lib.hid k9
    have O9 : RowKit.Hid (Own w9 w2.heap.size 5 v9 (UInt8.ofNat k.toNat :: BD)) := Lib.hid (by unfold Own; rw [List.length_cons, Nat.add_comm, HBC.out]; exact ho9)
    clear ho9 hf9 k9
    refine hK.out _ _ K9.out (fun hHeld => ?_)
    clear hK K
    refine wpAnyH_take (i := 8) (oi := _) (v := v9) rfl (by kernel_rfl) (by kernel_rfl) (by kernel_rfl) (fun _ _ _ h => h) (Or.inl ⟨by rfl, fun V hV => by go_simp⟩) hHeld ?_
    refine wpAnyH_done (by kernel_rfl) ?_ _
    clear hHeld
    go_wp2
    go_ret
    exact ⟨v9, rfl, by rw [HENC.out]; exact O9.out.mono (by have := K2.out.size; omega), K2.out.trans K9.out (by simp)⟩
  · go_simp
    go_at_call 28
    refine (HBY.out _ (Kept.refl w2 []).drew).mono ?_
    rintro e w5 ⟨v5, rfl, r5, k5⟩
    obtain ⟨a5, n5, c5, hv5⟩ := r5.shape3
    have R5 := Lib.hid r5; have K5 := Lib.hid ((Kept.refl w2 []).drew.trans k5 (by simp))
    clear r5 k5
    subst hv5
    refine hK.out _ _ K5.out (fun hHeld => ?_)
    clear hK K
    refine wpAnyH_ready (rs := [2]) (by kernel_rfl) (by simp) ?_
    refine AllReadyH.cons (o := _) rfl (fun K hK => ?_) AllReadyH.nil
    go_simp
    obtain ⟨W6, hW6⟩ : ∃ W6, W6 = w5.alloc (.cells #[.int .u8 k] 5) := ⟨_, rfl⟩
    rw [← hW6]
    have K6 : RowKit.Hid (Kept w2 W6 []) := Lib.hid (by rw [hW6]; exact K5.out.alloc _)
    have B6 : RowKit.Hid (W6.heap[w5.heap.size]? = some (.cells #[.int .u8 k] 5 (0, 0))) := Lib.hid (by rw [hW6]; exact heap_alloc_new w5 _)
    have R6 : RowKit.Hid (Rd W6 (.slice a5 n5 c5) BD) := Lib.hid (by rw [hW6]; exact R5.out.kept ((Kept.refl w5 []).alloc _) (by simp))
    clear hW6
    refine hK.out _ _ K6.out (fun hHeld => ?_)
    clear hK K
    refine wpAnyH_ready (rs := [7]) (by kernel_rfl) (by simp) ?_
    refine AllReadyH.cons (o := _) rfl (fun K hK => ?_) AllReadyH.nil
    refine step_append_fr _ rfl (.tmp 15) (.tmp 19) 22 22 rfl w2.heap.size 5 i0 (.int .u8 0) 1 1 Try.underlying22 hi hz0 hz1 hz2 rfl _ 1 [.int .u8 k] rfl (own_lit B6.out rfl (by decide) K5.out.size) _ BD.length (bc BD) rfl (Rd.src (R6.out) Try.underlying22) (by have := LB.out; unfold maxLen; omega) (by have := LB.out; omega) K6.out.size ?_
    intro v9 w9 ho9 hf9 _
    have k9 : Kept w2 w9 [] := ((Fr.ofKept K6.out 0 []).later hf9 (Nat.le_refl _)).kept
    have K9 := Lib.hid k9
    have O9 : RowKit.Hid (Own w9 w2.heap.size 5 v9 (UInt8.ofNat k.toNat :: BD)) := Lib.hid (by unfold Own; rw [List.length_cons, Nat.add_comm, HBC.out]; exact ho9)
    clear ho9 hf9 k9
    refine hK.out _ _ K9.out (fun hHeld => ?_)
    clear hK K
    refine wpAnyH_take (i := 8) (oi := _) (v := v9) rfl (by kernel_rfl) (by kernel_rfl) (by kernel_rfl) (fun _ _ _ h => h) (Or.inl ⟨by rfl, fun V hV => by go_simp⟩) hHeld ?_
    refine wpAnyH_done (by kernel_rfl) ?_ _
    clear hHeld
    go_wp2
    go_ret
    exact ⟨v9, rfl, by rw [HENC.out]; exact O9.out.mono (by have := K2.out.size; omega), K2.out.trans K9.out (by simp)⟩

end Go.Proofs.Ytjdbmlifekghfaa

namespace Go.Proofs.Ytjdbmlifekghfaa
set_option linter.unusedVariables false
open Go.RowKit

def fst1 (x e : Int) : Int := if x = 0 then e else x

def Zr (w : World) (q r c : Nat) (x e : Int) (l : List UInt8) : Prop :=
  ∃ v, w.heap[q]? = some (.cells #[.pointer (some ⟨r, 0, none⟩), .int .i64 x] 90 (0, 0)) ∧ Rr w r v e l ∧ (∀ b, v.ownBlock = some b → b = c) ∧ q ≠ r ∧ c ≠ q ∧ l.length ≤ 1099511627796

theorem Zr.kept {w w' : World} {q r c : Nat} {x e : Int} {l : List UInt8} {bs : List Nat} (h : Zr w q r c x e l) (hk : Kept w w' bs) (hq : q ∉ bs) (hr : r ∉ bs) (hc : c ∉ bs) : Zr w' q r c x e l := by
  obtain ⟨v, h1, h2, h3, h4, h5, h6⟩ := h
  exact ⟨v, hk.heap hq h1, h2.kept hk hr (fun b hb => by rw [h3 b hb]; exact hc), h3, h4, h5, h6⟩
theorem Zr.cells {w : World} {q r c : Nat} {x e : Int} {l : List UInt8} (h : Zr w q r c x e l) :
    w.cell? ⟨q, 0, none⟩ = some (.pointer (some ⟨r, 0, none⟩)) ∧ w.cell? ⟨q, 1, none⟩ = some (.int .i64 x) ∧ w.frozen? ⟨q, 1, none⟩ = false := by
  obtain ⟨v, h1, _⟩ := h
  exact ⟨by simpa using cell_of_row w q 0 _ _ _ h1, by simpa using cell_of_row w q 1 _ _ _ h1, frozen_of_row w q 1 _ _ h1⟩
theorem Zr.lt {w : World} {q r c : Nat} {x e : Int} {l : List UInt8} (h : Zr w q r c x e l) : q < w.heap.size ∧ r < w.heap.size := by
  obtain ⟨v, h1, h2, _⟩ := h
  exact ⟨(Array.getElem?_eq_some_iff.1 h1).1, (Array.getElem?_eq_some_iff.1 h2.1).1⟩
theorem Zr.mark {w : World} {q r c : Nat} {x e : Int} {l : List UInt8} (h : Zr w q r c x e l) (m : Int) : Zr (w.setCell ⟨q, 1, none⟩ (.int .i64 m)) q r c m e l := by
  obtain ⟨v, h1, h2, h3, h4, h5, h6⟩ := h
  exact ⟨v, by simpa using heap_setCell_at h1 1 (.int .i64 m), h2.kept ((Kept.refl w [q]).setCell (.inl (by simp)) _) (by simpa using h4.symm) (fun b hb => by rw [h3 b hb]; simpa using h5), h3, h4, h5, h6⟩
theorem Zr.read {w w' : World} {q r c : Nat} {x e' : Int} {l l' : List UInt8} {v v' : Value} (h1 : w.heap[q]? = some (.cells #[.pointer (some ⟨r, 0, none⟩), .int .i64 x] 90 (0, 0))) (h3 : ∀ b, v.ownBlock = some b → b = c) (h4 : q ≠ r) (h5 : c ≠ q) (h6 : l.length ≤ 1099511627796)
    (g : Rr w' r v' e' l') (k : Kept w w' [r]) (b : ∀ b, v'.ownBlock = some b → v.ownBlock = some b) (hl : l'.length ≤ l.length) : Zr w' q r c x e' l' :=
  ⟨v', k.heap (by simpa using h4) h1, g, fun y hy => h3 y (b y hy), h4, h5, Nat.le_trans hl h6⟩

set_option maxHeartbeats 400000 in
set_option maxRecDepth 100000 in
theorem efirst_any (q r c : Nat) (x e : Int) (l : List UInt8) (w : World) (h : Zr w q r c x e l) :
    Calls Try.prog 64 #[.pointer (some ⟨q, 0, none⟩)] w fun en w' => en = .returned (.int .i64 (fst1 x e)) ∧ w' = w := by
  obtain ⟨c0, c1, _⟩ := h.cells
  obtain ⟨v, _, hr, _⟩ := h
  have HR := Lib.hid hr
  clear hr
  by_cases hx : x = 0
  · subst hx
    have E : RowKit.Hid (fst1 0 e = e) := Lib.hid (if_pos rfl)
    go_enter Try.func64, Try.ntmps64
    go_wp2_with fail
    refine (error_any r v e l w HR.out).mono ?_
    rintro en w1 ⟨rfl, hw⟩
    have hw2 := hw.symm; clear hw; subst hw2
    go_wp2
    go_ret
    rw [E.out]
    exact ⟨rfl, rfl⟩
  · have x0 : (x != 0) = true := by simpa using hx
    have E : RowKit.Hid (fst1 x e = x) := Lib.hid (if_neg hx)
    clear hx
    go_enter Try.func64, Try.ntmps64
    go_wp2
    go_ret
    rw [E.out]
    exact ⟨rfl, rfl⟩

set_option maxHeartbeats 400000 in
set_option maxRecDepth 100000 in
theorem meet_any (q r c : Nat) (x e m : Int) (l : List UInt8) (w : World) (h : Zr w q r c x e l) :
    Calls Try.prog 62 #[.pointer (some ⟨q, 0, none⟩), .int .i64 m] w fun en w' => en = .returned (.tuple #[]) ∧ Zr w' q r c (if fst1 x e = 0 then m else x) e l ∧ Kept w w' [q] := by
  have H := Lib.hid h
  obtain ⟨_, c1, f1⟩ := h.cells
  clear h
  obtain ⟨f, hf⟩ : ∃ f, f = fst1 x e := ⟨_, rfl⟩
  have CF : RowKit.Hid (Calls Try.prog 64 #[.pointer (some ⟨q, 0, none⟩)] w fun en w' => en = .returned (.int .i64 f) ∧ w' = w) := Lib.hid (by rw [hf]; exact efirst_any q r c x e l w H.out)
  rw [← hf]
  clear hf
  by_cases h0 : f = 0
  · subst h0
    go_enter Try.func62, Try.ntmps62
    go_wp2_with fail
    refine CF.out.mono ?_
    rintro en w1 ⟨rfl, hw⟩
    subst hw
    go_wp2
    go_end0
    exact ⟨rfl, H.out.mark m, (Kept.refl _ [q]).setCell (.inl (by simp)) _⟩
  · have x0 : (f == 0) = false := by simpa using h0
    rw [if_neg h0]
    go_enter Try.func62, Try.ntmps62
    go_wp2_with fail
    refine CF.out.mono ?_
    rintro en w1 ⟨rfl, hw⟩
    subst hw
    go_wp2
    go_end0
    exact ⟨rfl, H.out, Kept.refl _ _⟩

set_option maxHeartbeats 1000000 in
set_option maxRecDepth 100000 in
theorem upTo_any (q r c m : Nat) (x e : Int) (l : List UInt8) (w : World) (h : Zr w q r c x e l) (hm : m ≤ 9223372036854775807) :
    Calls Try.prog 81 #[.pointer (some ⟨q, 0, none⟩), .int .i64 m] w fun en w' => en = .returned (.int .i64 (wrap64 (rNum e l).1)) ∧ Zr w' q r c (if m < (rNum e l).1 ∧ fst1 x (rNum e l).2.2 = 0 then 2 else x) (rNum e l).2.2 (rNum e l).2.1 ∧ Kept w w' [q, r] := by
  obtain ⟨c0, _, _⟩ := h.cells
  obtain ⟨v, h1, h2, h3, h4, h5, h6⟩ := h
  have hnb := rNum_lt e l
  obtain ⟨n, hn⟩ : ∃ n, n = (rNum e l).1 := ⟨_, rfl⟩
  obtain ⟨l1, hl1⟩ : ∃ l1, l1 = (rNum e l).2.1 := ⟨_, rfl⟩
  obtain ⟨e1, he1⟩ : ∃ e1, e1 = (rNum e l).2.2 := ⟨_, rfl⟩
  have CN : RowKit.Hid (Calls Try.prog 86 #[.pointer (some ⟨r, 0, none⟩)] w fun en w' => en = .returned (.int .u64 n) ∧ ∃ v', Rr w' r v' e1 l1 ∧ Kept w w' [r] ∧ (∀ b, v'.ownBlock = some b → v.ownBlock = some b)) := Lib.hid (by rw [hn, hl1, he1]; exact rnum_any r v e l w h2 h6)
  have ZN : RowKit.Hid (∀ w' v', Rr w' r v' e1 l1 → Kept w w' [r] → (∀ b, v'.ownBlock = some b → v.ownBlock = some b) → Zr w' q r c x e1 l1) := Lib.hid (fun w' v' g k b => Zr.read h1 h3 h4 h5 h6 g k b (by rw [hl1]; exact rNum_len e l))
  rw [← hn] at hnb
  rw [← hn, ← hl1, ← he1]
  clear hn hl1 he1 h1 h2 h3 h4 h5 h6
  have v3 : IntKind.u64.wrap (m : Int) = m := by rw [IntKind.wrap_u64]; omega
  obtain ⟨X, hX⟩ : ∃ X, X = if m < n ∧ fst1 x e1 = 0 then (2 : Int) else x := ⟨_, rfl⟩
  rw [← hX]
  by_cases hlt : m < n
  · have x1 : (m : Int) < (n : Int) := by omega
    have E : RowKit.Hid (X = if fst1 x e1 = 0 then 2 else x) := Lib.hid (by rw [hX]; simp only [hlt, true_and])
    clear hX
    go_enter Try.func81, Try.ntmps81
    go_wp2_with fail
    refine CN.out.mono ?_
    rintro en w1 ⟨rfl, v1, g1, k1, b1⟩
    have Z1 := Lib.hid (ZN.out w1 v1 g1 k1 b1); have K1 := Lib.hid (k1.mono (cs := [q, r]) (by simp))
    clear g1 k1 b1 c0
    go_wp2_with fail
    refine (meet_any q r c x e1 2 l1 w1 Z1.out).mono ?_
    rintro en w2 ⟨rfl, g2, k2⟩
    have Z2 := Lib.hid g2; have K2 := Lib.hid (K1.out.trans (k2.mono (cs := [q, r]) (by simp)) (fun x hx => .inl hx))
    clear g2 k2
    go_wp2
    go_ret
    rw [E.out]
    exact ⟨rfl, Z2.out, K2.out⟩
  · have x1 : ¬ (m : Int) < (n : Int) := by omega
    have E : RowKit.Hid (X = x) := Lib.hid (by rw [hX]; exact if_neg (fun h => hlt h.1))
    clear hX
    go_enter Try.func81, Try.ntmps81
    go_wp2_with fail
    refine CN.out.mono ?_
    rintro en w1 ⟨rfl, v1, g1, k1, b1⟩
    have Z1 := Lib.hid (ZN.out w1 v1 g1 k1 b1); have K1 := Lib.hid (k1.mono (cs := [q, r]) (by simp))
    clear g1 k1 b1 c0
    go_wp2
    go_ret
    rw [E.out, wrap64_id (by omega)]
    exact ⟨rfl, Z1.out, K1.out⟩

def Sm (x e0 : Int) (l0 : List UInt8) (e : Int) (l : List UInt8) : Prop := fst1 x e0 = e ∧ (e = 0 → l0 = l)
def Zs (w : World) (q r c : Nat) (e : Int) (l : List UInt8) : Prop := ∃ x e0 l0, Zr w q r c x e0 l0 ∧ Sm x e0 l0 e l

theorem fst1_zero {x e : Int} (h : fst1 x e = 0) : x = 0 ∧ e = 0 := by
  unfold fst1 at h
  split at h
  · exact ⟨by assumption, h⟩
  · exact absurd h (by assumption)

theorem rNum_bad {e : Int} (h : e ≠ 0) (l : List UInt8) : rNum e l = (0, l, e) := by rw [rNum, if_neg h]

theorem rfN_bad {e : Int} (h : e ≠ 0) (lo hi : Nat) (l : List UInt8) : rfN lo hi e l = (0, l, e) := by
  unfold rfN
  rw [rNum_bad h, if_neg]
  simp [badN, h]

theorem fst1_step {x e0 : Int} {l0 : List UInt8} (h : fst1 x e0 ≠ 0) : fst1 x (rNum e0 l0).2.2 = fst1 x e0 := by
  unfold fst1 at h ⊢
  split
  · rename_i hx
    rw [if_pos hx] at h
    rw [rNum_bad h]
  · rfl

theorem sm_up {x e0 : Int} {l0 : List UInt8} {e : Int} {l : List UInt8} (s : Sm x e0 l0 e l) (m : Nat) (hm : m ≤ 9223372036854775807) :
    Sm (if m < (rNum e0 l0).1 ∧ fst1 x (rNum e0 l0).2.2 = 0 then 2 else x) (rNum e0 l0).2.2 (rNum e0 l0).2.1 (rfN 0 m e l).2.2 (rfN 0 m e l).2.1 ∧ ((rfN 0 m e l).2.2 = 0 → wrap64 (rNum e0 l0).1 = ((rfN 0 m e l).1 : Nat)) := by
  by_cases he : e = 0
  · subst he
    obtain ⟨rfl, rfl⟩ := fst1_zero s.1
    obtain rfl := s.2 rfl
    unfold rfN
    by_cases hb : badN 0 m (rNum 0 l0).2.2 (rNum 0 l0).1 = true
    · rw [if_pos hb]
      simp only [badN, Bool.and_eq_true, Bool.or_eq_true, decide_eq_true_eq] at hb
      have h2 : m < (rNum 0 l0).1 := by omega
      have h1 : fst1 0 (rNum 0 l0).2.2 = 0 := by rw [hb.1]; rfl
      rw [if_pos ⟨h2, h1⟩]
      exact ⟨⟨rfl, fun h => absurd h (by decide)⟩, fun h => absurd h (by decide)⟩
    · rw [if_neg hb]
      have hn : ¬ (m < (rNum 0 l0).1 ∧ fst1 0 (rNum 0 l0).2.2 = 0) := by
        rintro ⟨h2, h1⟩
        apply hb
        have := (fst1_zero h1).2
        simp [badN, this, h2]
      rw [if_neg hn]
      refine ⟨⟨if_pos rfl, fun _ => rfl⟩, fun h => ?_⟩
      have : (rNum 0 l0).1 ≤ m := by
        rcases Nat.lt_or_ge m (rNum 0 l0).1 with h2 | h2
        · exact absurd ⟨h2, by rw [h]; rfl⟩ hn
        · exact h2
      exact wrap64_id (by omega)
  · have h1 : fst1 x e0 ≠ 0 := by rw [s.1]; exact he
    have h2 := fst1_step (l0 := l0) h1
    rw [rfN_bad he, if_neg (fun h => h1 (h2 ▸ h.2))]
    exact ⟨⟨h2.trans s.1, fun h => absurd h he⟩, fun h => absurd h he⟩

theorem zup_any (q r c m : Nat) (e : Int) (l : List UInt8) (w : World) (h : Zs w q r c e l) (hm : m ≤ 9223372036854775807) :
    Calls Try.prog 81 #[.pointer (some ⟨q, 0, none⟩), .int .i64 m] w fun en w' => ∃ a : Int, en = .returned (.int .i64 a) ∧ Zs w' q r c (rfN 0 m e l).2.2 (rfN 0 m e l).2.1 ∧ Kept w w' [q, r] ∧ ((rfN 0 m e l).2.2 = 0 → a = ((rfN 0 m e l).1 : Nat)) := by
  obtain ⟨x, e0, l0, z, s⟩ := h
  refine (upTo_any q r c m x e0 l0 w z hm).mono ?_
  rintro en w' ⟨rfl, z', k⟩
  obtain ⟨s1, s2⟩ := sm_up s m hm
  exact ⟨_, rfl, ⟨_, _, _, z', s1⟩, k, s2⟩

set_option maxHeartbeats 400000 in
set_option maxRecDepth 100000 in
theorem znum_any (q r c : Nat) (e : Int) (l : List UInt8) (w : World) (h : Zs w q r c e l) :
    Calls Try.prog 56 #[.pointer (some ⟨q, 0, none⟩)] w fun en w' => ∃ a : Int, en = .returned (.int .i64 a) ∧ Zs w' q r c (wA e l).2.2 (wA e l).2.1 ∧ Kept w w' [q, r] ∧ ((wA e l).2.2 = 0 → a = ((wA e l).1 : Nat)) := by
  have HU := Lib.hid (zup_any q r c 9223372036854775807 e l w h (by omega))
  clear h
  go_enter Try.func56, Try.ntmps56
  go_wp2_with fail
  refine HU.out.mono ?_
  rintro en w1 ⟨a, rfl, z1, k1, ha⟩
  have Z := Lib.hid z1; have K := Lib.hid k1; have HA := Lib.hid ha
  clear z1 k1 ha
  go_wp2
  go_ret
  exact ⟨a, rfl, Z.out, K.out, HA.out⟩

theorem Zs.cell {w : World} {q r c : Nat} {e : Int} {l : List UInt8} (h : Zs w q r c e l) : w.cell? ⟨q, 0, none⟩ = some (.pointer (some ⟨r, 0, none⟩)) := by
  obtain ⟨x, e0, l0, z, _⟩ := h
  exact z.cells.1
theorem Zs.kept {w w' : World} {q r c : Nat} {e : Int} {l : List UInt8} {bs : List Nat} (h : Zs w q r c e l) (hk : Kept w w' bs) (hq : q ∉ bs) (hr : r ∉ bs) (hc : c ∉ bs) : Zs w' q r c e l := by
  obtain ⟨x, e0, l0, z, s⟩ := h
  exact ⟨x, e0, l0, z.kept hk hq hr hc, s⟩
theorem Zs.lt {w : World} {q r c : Nat} {e : Int} {l : List UInt8} (h : Zs w q r c e l) : q < w.heap.size ∧ r < w.heap.size := by
  obtain ⟨x, e0, l0, z, s⟩ := h
  exact z.lt

theorem zint_any (q r c : Nat) (e : Int) (l : List UInt8) (w : World) (h : Zs w q r c e l) :
    Calls Try.prog 59 #[.pointer (some ⟨r, 0, none⟩)] w fun en w' => ∃ a : Int, en = .returned (.int .i64 a) ∧ Zs w' q r c (rfI e l).2.2 (rfI e l).2.1 ∧ Kept w w' [q, r] ∧ ((rfI e l).2.2 = 0 → a = (rfI e l).1) := by
  obtain ⟨x, e0, l0, ⟨v, h1, h2, h3, h4, h5, h6⟩, s⟩ := h
  refine (rint_any r v e0 l0 w h2 h6).mono ?_
  rintro en w' ⟨rfl, v', g, k, b⟩
  have z := Zr.read h1 h3 h4 h5 h6 g k b (rNum_len e0 l0)
  by_cases he : e = 0
  · subst he
    obtain ⟨rfl, rfl⟩ := fst1_zero s.1
    obtain rfl := s.2 rfl
    exact ⟨_, rfl, ⟨_, _, _, z, if_pos rfl, fun _ => rfl⟩, k.mono (by simp), fun _ => rfl⟩
  · have hs : fst1 x e0 ≠ 0 := by rw [s.1]; exact he
    refine ⟨_, rfl, ⟨_, _, _, z, ?_, fun h => ?_⟩, k.mono (by simp), fun h => ?_⟩
    · rw [fst1_step hs, s.1, rfI, rNum_bad he]
    · rw [rfI, rNum_bad he] at h; exact absurd h he
    · rw [rfI, rNum_bad he] at h; exact absurd h he

theorem rText_bad {e : Int} (h : e ≠ 0) (m : Int) (l : List UInt8) : rText m e l = ([], l, e) := by rw [rText, rNum_bad h, rTextOf, if_neg h]
theorem fst1_text {x e0 m : Int} {l0 : List UInt8} (h : fst1 x e0 ≠ 0) : fst1 x (rText m e0 l0).2.2 = fst1 x e0 := by
  unfold fst1 at h ⊢
  split
  · rename_i hx
    rw [if_pos hx] at h
    rw [rText_bad h]
  · rfl

theorem ztext_any (q r c : Nat) (m e : Int) (l : List UInt8) (w : World) (h : Zs w q r c e l) (hm : -9223372036854775808 ≤ m ∧ m ≤ 9223372036854775807) :
    Calls Try.prog 61 #[.pointer (some ⟨r, 0, none⟩), .int .i64 m] w fun en w' => ∃ a : ByteArray, en = .returned (.string a) ∧ Zs w' q r c (rText m e l).2.2 (rText m e l).2.1 ∧ Kept w w' [q, r] ∧ ((rText m e l).2.2 = 0 → a = strL (rText m e l).1) ∧ a.size ≤ 1099511627796 := by
  obtain ⟨x, e0, l0, ⟨v, h1, h2, h3, h4, h5, h6⟩, s⟩ := h
  refine (rtext_any r v m e0 l0 w h2 h6 hm).mono ?_
  rintro en w' ⟨rfl, v', g, k, b⟩
  have z := Zr.read h1 h3 h4 h5 h6 g k b (rText_len2 m e0 l0)
  have hsz : (strL (rText m e0 l0).1).size ≤ 1099511627796 := by
    have h7 : (rText m e0 l0).1.length ≤ l0.length := by
      have := rNum_len e0 l0
      unfold rText rTextOf
      split
      · split
        · simp
        · split
          · simp
          · simp only [List.length_take]; omega
      · simp
    rw [strL_size]; omega
  by_cases he : e = 0
  · subst he
    obtain ⟨rfl, rfl⟩ := fst1_zero s.1
    obtain rfl := s.2 rfl
    exact ⟨_, rfl, ⟨_, _, _, z, if_pos rfl, fun _ => rfl⟩, k.mono (by simp), fun _ => rfl, hsz⟩
  · have hs : fst1 x e0 ≠ 0 := by rw [s.1]; exact he
    refine ⟨_, rfl, ⟨_, _, _, z, ?_, fun h => ?_⟩, k.mono (by simp), fun h => ?_, hsz⟩
    · rw [fst1_text hs, s.1, rText_bad he]
    · rw [rText_bad he] at h; exact absurd h he
    · rw [rText_bad he] at h; exact absurd h he

theorem zmeet_any (q r c : Nat) (e m : Int) (l l' : List UInt8) (w : World) (h : Zs w q r c e l) (hl : e = 0 → m = 0 → l' = l) :
    Calls Try.prog 62 #[.pointer (some ⟨q, 0, none⟩), .int .i64 m] w fun en w' => en = .returned (.tuple #[]) ∧ Zs w' q r c (if e = 0 then m else e) l' ∧ Kept w w' [q] := by
  obtain ⟨x, e0, l0, z, s⟩ := h
  refine (meet_any q r c x e0 m l0 w z).mono ?_
  rintro en w' ⟨rfl, z', k⟩
  refine ⟨rfl, ⟨_, _, _, z', ?_⟩, k⟩
  by_cases he : e = 0
  · subst he
    obtain ⟨rfl, rfl⟩ := fst1_zero s.1
    obtain rfl := s.2 rfl
    rw [if_pos rfl, if_pos s.1]
    by_cases hm : m = 0
    · subst hm; exact ⟨rfl, fun _ => (hl rfl rfl).symm⟩
    · exact ⟨if_neg hm, fun h => absurd h hm⟩
  · have hs : fst1 x e0 ≠ 0 := by rw [s.1]; exact he
    rw [if_neg he, if_neg hs]
    exact ⟨s.1, fun h => absurd h he⟩

end Go.Proofs.Ytjdbmlifekghfaa
