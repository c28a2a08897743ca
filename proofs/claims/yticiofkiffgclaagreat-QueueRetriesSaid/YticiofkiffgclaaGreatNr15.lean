/-
  Rtf in one text.
-/
import Derived.Test.YticiofkiffgclaaGreatNr7
import Derived.Test.YticiofkiffgclaaGreatNr6
import Derived.Test.YticiofkiffgclaaGreatNr11
import Derived.Test.YticiofkiffgclaaGreatNr12
import Derived.Test.YticiofkiffgclaaGreatNr14
namespace Go.Proofs.YticiofkiffgclaaGreat
set_option linter.unusedVariables false
open Go.RowKit

abbrev rtT : TypeId := 175
abbrev rtE : TypeId := 173
abbrev evT : TypeId := 50

variable {w w' : World} {B h : Nat} {V : Value} {l : List It}

set_option maxHeartbeats 1000000 in
theorem tnew_any (w : World) : Calls Tryz.prog 77 #[] w fun e w' => e = .returned (.pointer (some ⟨w.heap.size, 0, none⟩)) ∧ Ls encIt rtT rtE w' w.heap.size w.heap.size (.slice none 0 0) [] ∧ Kept w w' [] := by
  go_enter Tryz.func77, Tryz.ntmps77
  go_wp2
  go_ret
  exact ⟨rfl, ⟨heap_alloc_new w _, Nat.le_refl _, by decide, OwnK.nil _ _ _⟩, (Kept.refl w []).alloc _⟩

set_option maxHeartbeats 2000000 in
set_option maxRecDepth 100000 in
theorem twaits_any (a : Ls encIt rtT rtE w B h V l) (hl : l.length ≤ 1000) (id : Int) (ow : ByteArray) : Calls Tryz.prog 153 #[.pointer (some ⟨h, 0, none⟩), .int .i64 id, .string ow] w fun e w' => e = .returned (.bool (l.any (isK id ow))) ∧ Kept w w' [] := by
  obtain ⟨W2, hW2⟩ : ∃ W2, W2 = (w.alloc (.cells #[.int .i64 id] 2)).alloc (.cells #[.string ow] 9) := ⟨_, rfl⟩
  have k2 : Kept w W2 [] := by rw [hW2]; exact ((Kept.refl w []).alloc _).alloc _
  have hz : (w.alloc (.cells #[.int .i64 id] 2)).heap.size = w.heap.size + 1 := by simp
  have g1 : W2.heap[w.heap.size]? = some (.cells #[.int .i64 id] 2 (0, 0)) := by rw [hW2]; exact ((Kept.refl _ []).alloc _).heap (by simp) (heap_alloc_new w _)
  have g2 : W2.heap[w.heap.size + 1]? = some (.cells #[.string ow] 9 (0, 0)) := by rw [hW2, ← hz]; exact heap_alloc_new _ _
  obtain ⟨u, c, e⟩ := a.shape
  have a2 := a.keep k2
  have c0 := a2.cell.1
  have hP : PaysP_r W2 (fun _ => False) 189 #[.pointer (some ⟨w.heap.size, 0, none⟩), .pointer (some ⟨w.heap.size + 1, 0, none⟩)] (isK id ow) := fun r V hV =>
    waitsP_any r id ow w.heap.size (w.heap.size + 1) V (by rw [cell_of_row _ _ _ _ _ _ (hV.heap (fun x => x) g1)]; rfl) (by rw [cell_of_row _ _ _ _ _ _ (hV.heap (fun x => x) g2)]; rfl)
  have CT := Lib.hid (rcontains_any a2.own.rd (by omega) _ _ _ (enters_of Tryz.func189 (by kernel_rfl) rfl) _ hP)
  rw [e] at c0 CT
  have HW2 := Lib.hid hW2; have K2 := Lib.hid k2
  clear a e a2 hz g1 g2 hP hW2 k2
  go_enter Tryz.func153, Tryz.ntmps153
  go_upto_region 1 with fail
  rw [← HW2.out]
  go_wp2_with fail
  refine CT.out.mono ?_
  rintro e w2 ⟨rfl, hk⟩
  have Hk := Lib.hid hk
  clear hk
  go_wp2
  go_ret
  exact ⟨rfl, K2.out.trans Hk.out (by simp)⟩

def agn (e : Ev) (ow : ByteArray) : Ev := ⟨e.id, e.tx, ow, trN e.tr, e.tb, e.kd, e.key, e.t⟩

set_option maxHeartbeats 4000000 in
set_option maxRecDepth 100000 in
theorem tagain_any (e : Ev) (ow : ByteArray) (hb : -9223372036854775808 ≤ e.tr) (w : World) : Calls Tryz.prog 154 #[.agg (encEv.cs e), .string ow] w fun r w' => r = .returned (.agg (encEv.cs (agn e ow))) ∧ Kept w w' [] := by
  obtain ⟨b0, b1, b2, b3, b4, b5, b6, b7⟩ := e
  simp only [encEv, Ev.cs, agn] at *
  by_cases h0 : b3 < 2147483647
  · have e1 : trN b3 = b3 + 1 := by rw [trN, if_pos h0]
    have e2 : wrap64 (b3 + 1) = b3 + 1 := by unfold wrap64; omega
    rw [e1]
    clear e1 hb
    go_enter Tryz.func154, Tryz.ntmps154
    go_wp2
    refine bodyPost_ret (v := .agg #[.int .i64 b0, .int .i64 b1, .string ow, .int .i64 (b3 + 1), .int .i64 b4, .int .u8 b5, .int .i64 b6, .string b7]) (by simp [results, Tryz.results154, go_sem, *]) rfl ?_
    refine ⟨rfl, ?_⟩
    repeat' (first | exact Kept.refl _ _ | refine Kept.alloc ?_ _ | refine Kept.setCell ?_ (.inr (by show w.heap.size ≤ _; first | exact Nat.le_refl _ | exact Nat.le_succ _ | (simp; done))) _)
  · have e1 : trN b3 = b3 := by rw [trN, if_neg h0]
    rw [e1]
    clear e1 hb
    go_enter Tryz.func154, Tryz.ntmps154
    go_wp2
    refine bodyPost_ret (v := .agg #[.int .i64 b0, .int .i64 b1, .string ow, .int .i64 b3, .int .i64 b4, .int .u8 b5, .int .i64 b6, .string b7]) (by simp [results, Tryz.results154, go_sem, *]) rfl ?_
    refine ⟨rfl, ?_⟩
    repeat' (first | exact Kept.refl _ _ | refine Kept.alloc ?_ _ | refine Kept.setCell ?_ (.inr (by show w.heap.size ≤ _; first | exact Nat.le_refl _ | exact Nat.le_succ _ | (simp; done))) _)

end Go.Proofs.YticiofkiffgclaaGreat
