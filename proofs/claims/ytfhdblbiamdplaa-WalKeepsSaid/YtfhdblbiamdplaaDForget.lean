/-
  The contracts of package block, fifth part: forget, by which a crash goes back to what is safe.
-/
import Derived.Test.YtfhdblbiamdplaaDSync
namespace Go.Proofs.Ytfhdblbiamdplaa
open Go.RowKit

/-- What the statement that carries one block reads, back. -/
theorem carry_back {W : World} {B p gn gs n b : Nat} {v : Value} {now safe : List UInt8} {ws : List Wt} {x : Wt} (D : Dv W B p gn gs v n now safe ws) (hb : W.heap[b]? = some (.cells (wcell x).toArray 106 (0, 0))) (hx : x.ok n) :
    W.cell? ⟨p, 0, none⟩ = some (.slice (some ⟨gn, 0, none⟩) n n) ∧ W.cell? ⟨p, 1, none⟩ = some (.slice (some ⟨gs, 0, none⟩) n n) ∧ W.cell? ⟨b, 0, none⟩ = some (.int .i64 x.blk) ∧ W.rangeAt gs (x.blk * 32) (bc (blkOf safe x.blk)) ∧ W.there gn (x.blk * 32) 32 := by
  have h1 := hx.1
  refine ⟨D.cell0, D.cell1, by simpa [wcell] using cell_of_row W b 0 _ _ _ hb, range_of_block D.hs (fun j u hu => ?_), there_of_block D.hn (by rw [bc_length, D.ln]; omega)⟩
  obtain ⟨hj, rfl⟩ := bc_get _ j u hu
  rw [blkOf_length safe n x.blk D.ls h1] at hj
  have := bc_at safe (32 * x.blk + j) (by rw [D.ls]; omega)
  rw [Nat.mul_comm, this]
  congr 3
  simp only [List.getD, blkOf_at, if_pos hj]

set_option maxHeartbeats 1000000 in
set_option maxRecDepth 100000 in
theorem forget_any {w : World} {B p gn gs n : Nat} {v : Value} {now safe : List UInt8} {ws : List Wt} (h : Dv w B p gn gs v n now safe ws) (hws : ws.length ≤ 1000000) :
    Calls Try.prog 61 #[.pointer (some ⟨p, 0, none⟩)] w fun e w' => e = .returned (.tuple #[]) ∧ Dv w' B p gn gs (.slice none 0 0) n (carry safe (ws.map Wt.blk) now) safe [] ∧ Fr B dts w w' := by
  obtain ⟨av, cw, rfl⟩ := ownsRow_shape h.hv
  have c2 := h.cell2
  have hlen : 0 ≤ ws.length := Nat.zero_le _
  have H := Lib.hid h; clear h
  go_enter Try.func61, Try.ntmps61
  go_wp2
  go_loopw [9] (fun t wr => ∃ k : Nat, t = .int .i64 k ∧ k ≤ ws.length ∧ Dv wr B p gn gs (.slice av ws.length cw) n (carry safe ((ws.map Wt.blk).take k) now) safe ws ∧ Fr B dts w wr) (fun t _ => ws.length - (intOf t).toNat)
  case atStart => exact ⟨0, rfl, Nat.zero_le _, by simpa [carry] using H.out, Fr.refl _ _ _⟩
  case round =>
    obtain ⟨k, rfl, hk, hd, hf⟩ := hrel
    have D := Lib.hid hd; have F := Lib.hid hf
    clear hd hf c2
    by_cases hlt : k < ws.length
    · obtain ⟨gw, hav, hbw, hra⟩ := waits_at D.out.hv (fun x hx => (D.out.hw x hx).2.2) k hlt
      subst hav
      obtain ⟨x, hx⟩ : ∃ x, x = ws[k] := ⟨_, rfl⟩
      have hxo : x.ok n := by rw [hx]; exact D.out.hw _ (List.getElem_mem _)
      rw [← hx] at hra
      have Hx := Lib.hid hx; have Hra := Lib.hid hra; have Hxo := Lib.hid hxo
      clear hx hra hxo
      go_wp2_with (first
        | (refine wpList_load_mid rfl 106 (.tmp 11) rfl gw (k * 34) rfl (wcell x) _ Hra.out Try.underlying106 rfl (by rw [wcell_length Hxo.out.2.2]; exact Try.size65) ?_)
        | (refine wpList_store_new wr rfl 106 (.tmp 3) (.tmp 12) rfl _ 106 (wcell x) rfl rfl (by rw [wcell_length Hxo.out.2.2]; exact Try.size65) (by rw [wcell_length Hxo.out.2.2]; rfl) (wcell_one x) ?_; intro w2 hbox hk2 hz2))
      have hkA : Fr 0 [] wr w2 := Fr.ofKept hk2.out 0 []
      have D2 := Lib.hid (D.out.frame hkA (by simp) (by simp) (by simp))
      have hu63 := Try.underlying104
      have hi63 : (Try.prog.info? 104).map (·.size) = some (bc (blkOf safe x.blk)).length := by rw [bc_length, blkOf_length safe n x.blk D.out.ls Hxo.out.1]; exact Try.size63
      have hl32 : (bc (blkOf safe x.blk)).length = 32 := by rw [bc_length, blkOf_length safe n x.blk D.out.ls Hxo.out.1]
      have h1c := bc_one (blkOf safe x.blk)
      have hxn := Hxo.out.1
      have R2 := Lib.hid (carry_back D2.out hbox.out Hxo.out)
      obtain ⟨q1, q2, q3⟩ := setCells_fr (w := w2.drew) (off := x.blk * 32) (cells := bc (blkOf safe x.blk)) D2.out.drew.hn (by rw [hl32, bc_length, D.out.ln]; omega)
      rw [← bc_splice] at q1
      have q4 : (lay (carry safe ((ws.map Wt.blk).take k) now) x.blk (blkOf safe x.blk)).length = 32 * n := by rw [lay_length _ _ _ (by rw [D.out.ln, blkOf_length safe n x.blk D.out.ls Hxo.out.1]; omega), D.out.ln]
      have D3 := D2.out.drew.setNow q2 (by rw [lay, Nat.mul_comm 32 x.blk]; exact q1) q4
      have R3 := Lib.hid (carry_back D3 (q2.heap (by simpa using ne_of_types hbox.out D2.out.hn (by decide)) (w := w2.drew) hbox.out) Hxo.out)
      have F3 := Lib.hid ((F.out.trans ((Fr.ofKept hk2.out B dts).drew)).trans (q3.mono D.out.bn (by decide)))
      have D3 := Lib.hid D3
      clear q1 q2 q3 q4 hkA
      go_region_held3 (fun W => W.cell? ⟨p, 0, none⟩ = some (.slice (some ⟨gn, 0, none⟩) n n) ∧ W.cell? ⟨p, 1, none⟩ = some (.slice (some ⟨gs, 0, none⟩) n n) ∧ W.cell? ⟨wr.heap.size, 0, none⟩ = some (.int .i64 x.blk) ∧ W.rangeAt gs (x.blk * 32) (bc (blkOf safe x.blk)) ∧ W.there gn (x.blk * 32) 32)
        (first | exact R2.out | exact R3.out)
        (fail)
      generalize w2.drew.setCells gn (x.blk * 32) (bc (blkOf safe x.blk)) = w3 at *
      go_wp2
      go_roundw
      case rel => exact ⟨k + 1, by go_num, by omega, by rw [carry_step _ _ _ _ hlt, ← Hx.out]; exact D3.out, F3.out⟩
      case measure => simp [intOf]; omega
    · have hke : k = ws.length := by omega
      have hge : ¬ (k : Int) < (ws.length : Int) := by omega
      have e1 : (ws.map Wt.blk).take k = ws.map Wt.blk := List.take_of_length_le (by simp; omega)
      obtain ⟨D4, F4, _⟩ := D.out.setWaits (Fr.refl B _ wr) (World.ownsRow_nil wr B 106 34) (ws' := []) (by simp)
      rw [e1] at D4
      have D4 := Lib.hid D4; have F4 := Lib.hid (F.out.trans F4)
      have c2 := D.out.cell2
      have f2 := D.out.frozen 2
      clear e1 hke hlt
      go_wp2
      go_end0
      exact ⟨rfl, D4.out, F4.out⟩

theorem sync_nil (w : World) : Calls Try.prog 60 #[.pointer none] w fun e w' => e = .returned (.tuple #[]) ∧ w = w' := by
  go_enter Try.func60, Try.ntmps60
  go_wp2
  refine bodyPost_ret (results_none rfl _ _ _) rfl ?_
  exact ⟨rfl, rfl⟩

theorem crash_nil (w : World) (v : Value) (t : Int) : Calls Try.prog 23 #[.pointer none, v, .int .i64 t] w fun e w' => e = .returned (.tuple #[]) ∧ w = w' := by
  go_enter Try.func23, Try.ntmps23
  go_wp2
  refine bodyPost_ret (results_none rfl _ _ _) rfl ?_
  exact ⟨rfl, rfl⟩

end Go.Proofs.Ytfhdblbiamdplaa
