/-
  What Vacuum lets go: its predicate.
-/
import Derived.Test.YtdjhcdgehmpikaaRf
namespace Go.Proofs.Ytdjhcdgehmpikaa
open Go.RowKit Go.Maps

/-- Does nobody see it any more? -/
def goneV (st : List Nat) (mx : Int) (opl : List Int) (r : Vr) : Bool := stAt st r.birth == 3 || did st ⟨mx, opl, 0⟩ r.death

variable {w : World} {B p h b mb : Nat} {v : Value} {S : Int → Value} {st : List Nat} {ks : List Int} {F : Int → List Vr}

/-- As the document says it. -/
theorem goneV_eq (st : List Nat) (mx : Int) (opl : List Int) (r : Vr) : goneV st mx opl r = (stAt st r.birth == 3 || (stAt st r.death == 2 && seesB mx opl r.death)) := by
  have : (decide (0 < r.death) && decide (r.death = 0)) = false := by
    rw [Bool.and_eq_false_iff]
    by_cases e : r.death = 0
    · left; simp; omega
    · right; simp [e]
  simp [goneV, did, this]

theorem stAt_le {st : List Nat} (h : ∀ s ∈ st, 1 ≤ s ∧ s ≤ 3) (x : Int) : stAt st x ≤ 3 := by
  unfold stAt
  split
  · rw [List.getD]
    cases e : st[x.toNat - 1]? with
    | none => simp
    | some s => exact (h s (List.mem_of_getElem? e)).2
  · omega

/-- The cells that the predicate loads. -/
def VacS (V : World) (b1 b2 h p z : Nat) (mx : Int) (sl : Value) (rb rd : Int) : Prop :=
  ((((V.cell? ⟨b1, 0, none⟩ = some (.pointer (some ⟨h, 0, none⟩)) ∧ V.cell? ⟨h, 0, none⟩ = some (.pointer (some ⟨p, 0, none⟩))) ∧ V.cell? ⟨z, 2, none⟩ = some (.int .i64 rb)) ∧ V.cell? ⟨z, 3, none⟩ = some (.int .i64 rd)) ∧ V.cell? ⟨b2, 0, none⟩ = some (.int .i64 mx)) ∧ V.cell? ⟨b2, 1, none⟩ = some sl

theorem vac_keep {w w' : World} {b1 b2 h p z : Nat} {mx : Int} {sl : Value} {rb rd : Int} (hk : Kept w w' []) (f : VacS w b1 b2 h p z mx sl rb rd) : VacS w' b1 b2 h p z mx sl rb rd := by
  obtain ⟨⟨⟨⟨⟨e0, e1⟩, e2⟩, e3⟩, e4⟩, e5⟩ := f
  exact ⟨⟨⟨⟨⟨hk.cell (p := ⟨b1, 0, none⟩) (by simp) e0, hk.cell (p := ⟨h, 0, none⟩) (by simp) e1⟩, hk.cell (p := ⟨z, 2, none⟩) (by simp) e2⟩, hk.cell (p := ⟨z, 3, none⟩) (by simp) e3⟩, hk.cell (p := ⟨b2, 0, none⟩) (by simp) e4⟩, hk.cell (p := ⟨b2, 1, none⟩) (by simp) e5⟩

theorem vac1_any (a : Sx w B p h b mb v S st ks F) (mx : Int) (sl : Value) (opl : List Int) (hsl : RdI w sl opl) (b1 b2 : Nat) (c0 : w.cell? ⟨b1, 0, none⟩ = some (.pointer (some ⟨h, 0, none⟩)))
    (d0 : w.cell? ⟨b2, 0, none⟩ = some (.int .i64 mx)) (d1 : w.cell? ⟨b2, 1, none⟩ = some sl) (key : Int) (r : Vr) (hr : VrOk r) :
    Calls Try.prog 66 #[.agg #[.int .i64 key, .string r.txt, .int .i64 r.birth, .int .i64 r.death], .pointer (some ⟨b1, 0, none⟩), .pointer (some ⟨b2, 0, none⟩)] w fun e w' => e = .returned (.bool (goneV st mx opl r)) ∧ Kept w w' [] := by
  obtain ⟨hr1, hr2⟩ := hr
  obtain ⟨W1, hW1⟩ : ∃ W1, W1 = w.alloc (.cells #[.int .i64 key, .string r.txt, .int .i64 r.birth, .int .i64 r.death] 124) := ⟨_, rfl⟩
  have k1 : Kept w W1 [] := by rw [hW1]; exact (Kept.refl w []).alloc _
  have K1 := Lib.hid k1
  have g1 : W1.heap[w.heap.size]? = some (.cells #[.int .i64 key, .string r.txt, .int .i64 r.birth, .int .i64 r.death] 124 (0, 0)) := by rw [hW1]; exact heap_alloc_new w _
  have A := Lib.hid (a.keep k1); have HS := Lib.hid (hsl.keep k1)
  have f1 : VacS W1 b1 b2 h p w.heap.size mx sl r.birth r.death :=
    ⟨⟨⟨⟨⟨k1.cell (p := ⟨b1, 0, none⟩) (by simp) c0, (a.keep k1).hp.cell.1⟩, by rw [cell_of_row W1 _ 2 _ _ _ g1]; rfl⟩, by rw [cell_of_row W1 _ 3 _ _ _ g1]; rfl⟩, k1.cell (p := ⟨b2, 0, none⟩) (by simp) d0⟩, k1.cell (p := ⟨b2, 1, none⟩) (by simp) d1⟩
  have hF1 := Lib.hid f1
  obtain ⟨sa, sc, rfl, _⟩ := hsl
  obtain ⟨y, hy⟩ : ∃ y, did st ⟨mx, opl, 0⟩ r.death = y := ⟨_, rfl⟩
  obtain ⟨q, hq⟩ : ∃ q, stAt st r.birth = q := ⟨_, rfl⟩
  have hq3 : q ≤ 3 := by rw [← hq]; exact stAt_le A.out.mg.hs _
  have R : Hid (goneV st mx opl r = (q == 3 || y)) := Lib.hid (by rw [goneV, hy, hq])
  have CS : Hid (∀ V, Kept W1 V [] → Calls Try.prog 67 #[.pointer (some ⟨p, 0, none⟩), .int .i64 r.birth] V fun e w' => e = .returned (.int .u8 q) ∧ V = w') := Lib.hid (fun V hV => by
    rw [← hq]; exact mstate_any (A.out.keep hV).mg r.birth hr1)
  have CO : Hid (∀ V, Kept W1 V [] → Calls Try.prog 68 #[.pointer (some ⟨h, 0, none⟩), .agg #[.int .i64 mx, .slice sa opl.length sc, .int .i64 0], .int .i64 r.death] V fun e w' => e = .returned (.bool y) ∧ Kept W1 w' []) := Lib.hid (fun V hV => by
    rw [← hy]; exact (seesOf_any (A.out.keep hV) mx 0 _ opl (HS.out.keep hV) r.death hr2).mono (fun _ _ h => ⟨h.1, hV.trans h.2 (by simp)⟩))
  have HSQ : Hid (∀ k, Calls Try.prog 67 #[.pointer (some ⟨p, 0, none⟩), .int .i64 r.birth] (W1.drewN k) fun e w' => e = .returned (.int .u8 q) ∧ w' = W1.drewN k) := Lib.hid (fun k => (CS.out _ ((Kept.refl _ []).drewN k)).mono fun _ _ h => ⟨h.1, h.2.symm⟩)
  obtain ⟨txt, rb, rd⟩ := r
  unfold VacS at f1
  simp only at R CS CO HSQ f1 hF1
  have l1 := World.block_lt_of_cell? w _ c0
  have l2 := World.block_lt_of_cell? w _ d0
  clear a hr1 hr2 hy hq c0 d0 d1 k1 g1
  by_cases h3 : q = 3
  · subst h3
    obtain ⟨⟨⟨⟨⟨e0, e1⟩, e2⟩, e3⟩, e4⟩, e5⟩ := f1
    go_enter Try.func66, Try.ntmps66
    go_wp2_with fail
    rw [← hW1]
    clear hW1
    go_quiet ((go_at_call 67; exact Calls.quiet_of_same (HSQ.out _)))
    go_wp2
    go_ret
    exact ⟨retb (by rw [R.out]; rfl), K1.out.drewN _⟩
  · have h4 : q = 0 ∨ q = 1 ∨ q = 2 := by omega
    have k8 : Kept W1 W1.drew [] := (Kept.refl W1 []).drew
    have y2 := vac_keep k8 hF1.out
    clear h3 hq3
    unfold VacS at y2
    clear f1
    rcases h4 with rfl | rfl | rfl
    · go_enter Try.func66, Try.ntmps66
      go_wp2_with fail
      rw [← hW1]
      clear hW1
      go_region_held3 (fun V => ((((V.cell? ⟨b1, 0, none⟩ = some (.pointer (some ⟨h, 0, none⟩)) ∧ V.cell? ⟨h, 0, none⟩ = some (.pointer (some ⟨p, 0, none⟩))) ∧ V.cell? ⟨w.heap.size, 2, none⟩ = some (.int .i64 rb)) ∧ V.cell? ⟨w.heap.size, 3, none⟩ = some (.int .i64 rd)) ∧ V.cell? ⟨b2, 0, none⟩ = some (.int .i64 mx)) ∧ V.cell? ⟨b2, 1, none⟩ = some (.slice sa opl.length sc)) (exact y2)
        (first
          | (go_at_call 67; refine (CS.out _ ?_).mono ?_; exact k8; rintro e w8 ⟨rfl, rfl⟩)
          | (go_at_call 68; refine (CO.out _ ?_).mono ?_; exact k8; rintro e w8 ⟨rfl, k8⟩; have y2 := vac_keep k8 hF1.out; unfold VacS at y2))
      all_goals go_wp2
      all_goals go_ret
      all_goals exact ⟨retb (by rw [R.out]; rfl), K1.out.trans k8 (by simp)⟩
    · go_enter Try.func66, Try.ntmps66
      go_wp2_with fail
      rw [← hW1]
      clear hW1
      go_region_held3 (fun V => ((((V.cell? ⟨b1, 0, none⟩ = some (.pointer (some ⟨h, 0, none⟩)) ∧ V.cell? ⟨h, 0, none⟩ = some (.pointer (some ⟨p, 0, none⟩))) ∧ V.cell? ⟨w.heap.size, 2, none⟩ = some (.int .i64 rb)) ∧ V.cell? ⟨w.heap.size, 3, none⟩ = some (.int .i64 rd)) ∧ V.cell? ⟨b2, 0, none⟩ = some (.int .i64 mx)) ∧ V.cell? ⟨b2, 1, none⟩ = some (.slice sa opl.length sc)) (exact y2)
        (first
          | (go_at_call 67; refine (CS.out _ ?_).mono ?_; exact k8; rintro e w8 ⟨rfl, rfl⟩)
          | (go_at_call 68; refine (CO.out _ ?_).mono ?_; exact k8; rintro e w8 ⟨rfl, k8⟩; have y2 := vac_keep k8 hF1.out; unfold VacS at y2))
      all_goals go_wp2
      all_goals go_ret
      all_goals exact ⟨retb (by rw [R.out]; rfl), K1.out.trans k8 (by simp)⟩
    · go_enter Try.func66, Try.ntmps66
      go_wp2_with fail
      rw [← hW1]
      clear hW1
      go_region_held3 (fun V => ((((V.cell? ⟨b1, 0, none⟩ = some (.pointer (some ⟨h, 0, none⟩)) ∧ V.cell? ⟨h, 0, none⟩ = some (.pointer (some ⟨p, 0, none⟩))) ∧ V.cell? ⟨w.heap.size, 2, none⟩ = some (.int .i64 rb)) ∧ V.cell? ⟨w.heap.size, 3, none⟩ = some (.int .i64 rd)) ∧ V.cell? ⟨b2, 0, none⟩ = some (.int .i64 mx)) ∧ V.cell? ⟨b2, 1, none⟩ = some (.slice sa opl.length sc)) (exact y2)
        (first
          | (go_at_call 67; refine (CS.out _ ?_).mono ?_; exact k8; rintro e w8 ⟨rfl, rfl⟩)
          | (go_at_call 68; refine (CO.out _ ?_).mono ?_; exact k8; rintro e w8 ⟨rfl, k8⟩; have y2 := vac_keep k8 hF1.out; unfold VacS at y2))
      all_goals go_wp2
      all_goals go_ret
      all_goals exact ⟨retb (by rw [R.out]; rfl), K1.out.trans k8 (by simp)⟩
end Go.Proofs.Ytdjhcdgehmpikaa
