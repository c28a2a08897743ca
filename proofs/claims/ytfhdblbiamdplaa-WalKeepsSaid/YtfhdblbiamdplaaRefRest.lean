/-
  The contracts of the document's own answers for layer 3, fourth part: Read and Sync.
-/
import Derived.Test.YtfhdblbiamdplaaRefAll
namespace Go.Proofs.Ytfhdblbiamdplaa
open Go.RowKit

/-- A part of what can be read. -/
theorem Rb.sub {w : World} {B b o n c : Nat} {e : TypeId} {l : List UInt8} (h : Rb w B e (.slice (some ⟨b, o, none⟩) n c) l) (k m c' : Nat) (hk : k + m ≤ l.length) (hc : m ≤ c') (hm : 0 < m) : Rb w B e (.slice (some ⟨b, o + k, none⟩) m c') ((l.drop k).take m) := by
  obtain ⟨a, d, hv, _, _, hl⟩ := h
  simp only [Value.slice.injEq] at hv
  obtain ⟨rfl, rfl, rfl⟩ := hv
  obtain ⟨b', o', e1, hb, hcell⟩ := hl (by rintro rfl; simp at hk; omega)
  simp only [Option.some.injEq, Addr.mk.injEq, and_true] at e1
  obtain ⟨rfl, rfl⟩ := e1
  have hlen : ((l.drop k).take m).length = m := by simp; omega
  refine ⟨_, c', by rw [hlen], by omega, by simp, fun _ => ⟨b, o + k, rfl, hb, fun i hi => ?_⟩⟩
  rw [hlen] at hi
  rw [Nat.add_assoc, hcell (k + i) (by omega)]
  congr 3
  simp only [List.getD]
  rw [List.getElem?_take, if_pos hi, List.getElem?_drop]

set_option maxHeartbeats 1000000 in
set_option maxRecDepth 100000 in
theorem rsync_any {w : World} {B q n : Nat} {vs vw : Value} {safe : List UInt8} {ws : List (Nat × List UInt8)} (R : Rf w B q vs vw n safe ws) (hws : ws.length ≤ 1000000) (hB : B ≤ w.heap.size) :
    Calls Try.prog 22 #[.pointer (some ⟨q, 0, none⟩)] w fun e w' => e = .returned (.tuple #[]) ∧ ∃ vs', Rf w' B q vs' (.slice none 0 0) n (laid safe ws) [] ∧ Fr B rts w w' := by
  have hlen := laid_length n ws safe R.ls R.ok
  have HR := Lib.hid R; have Hlen := Lib.hid hlen
  clear R hlen
  go_enter Try.func22, Try.ntmps22
  go_wp2_with fail
  refine (rall_any HR.out hws).mono ?_
  rintro e w1 ⟨v1, rfl, ho, hk⟩
  obtain ⟨a1, c1, hv1⟩ := ho.shape
  have R1 := HR.out.frame (Fr.ofKept hk B []) (Nat.le_refl _) (by simp) (by simp) (by simp)
  have q0 := R1.cell0
  have q1 := R1.cell1
  have f0 := R1.frozen 0
  have f1 := R1.frozen 1
  have k2 : Kept w1 ((w1.setCell ⟨q, 0, none⟩ v1).setCell ⟨q, 1, none⟩ (.slice none 0 0)) [q] := ((Kept.refl w1 [q]).setCell (p := ⟨q, 0, none⟩) (.inl (by simp)) v1).setCell (p := ⟨q, 1, none⟩) (.inl (by simp)) _
  have hq2 : ((w1.setCell ⟨q, 0, none⟩ v1).setCell ⟨q, 1, none⟩ (.slice none 0 0)).heap[q]? = some (.cells #[v1, .slice none 0 0] 52 (0, 0)) := by
    have h1 := heap_setCell_at R1.hq 0 v1
    have h2 := heap_setCell_at h1 1 (.slice none 0 0)
    simpa using h2
  have F2 : Fr B rts w1 ((w1.setCell ⟨q, 0, none⟩ v1).setCell ⟨q, 1, none⟩ (.slice none 0 0)) :=
    (((Fr.refl B rts w1).setCell R1.hq (.inr ⟨R1.bq, by decide⟩) 0 v1).setCell (heap_setCell_at R1.hq 0 v1) (.inr ⟨R1.bq, by decide⟩) 1 (.slice none 0 0))
  have R2 : Rf ((w1.setCell ⟨q, 0, none⟩ v1).setCell ⟨q, 1, none⟩ (.slice none 0 0)) B q v1 (.slice none 0 0) n (laid safe ws) [] :=
    { hq := hq2, hs := (ho.mono hB).frame F2 (by decide), hw := ⟨[], World.ownsRow_nil _ _ _ _, rfl, fun i h => by simp at h⟩, bq := R1.bq, n12 := R1.n12, ls := Hlen.out, ok := fun x hx => by simp at hx }
  have F3 := (Fr.ofKept hk B rts).trans F2
  have R3 := Lib.hid R2; have F3 := Lib.hid F3
  clear ho hk R1 k2 hq2 F2 R2
  subst hv1
  go_wp2
  go_end0
  exact ⟨rfl, _, R3.out, F3.out⟩

end Go.Proofs.Ytfhdblbiamdplaa
