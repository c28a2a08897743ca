/-
  The contracts of package block, second part: Write.
-/
import Derived.Test.YtfhdblbiamdplaaDev
import Derived.Deep.RegionHeld3
namespace Go.Proofs.Ytfhdblbiamdplaa
open Go.RowKit

theorem Try.size65 : (Try.prog.info? 106).map (·.size) = some 34 := by kernel_rfl
theorem Try.size5 : (Try.prog.info? 5).map (·.size) = some 1 := by kernel_rfl
theorem Try.infoW : (Try.prog.info? 106).map (fun i => (i.zero, i.size, i.bytes)) = some (some (.agg (wcell ⟨0, 0, noughts 1⟩).toArray), 34, 48) := by kernel_rfl

theorem World.drew_size (w : World) : w.drew.heap.size = w.heap.size := rfl

theorem splice_two (u v : Value) (L cs : List Value) : splice (u :: v :: L) 2 cs = u :: v :: splice L 0 cs := by
  have e : (2 + cs.length) = (cs.length + 1) + 1 := by omega
  simp [splice, e]

theorem wcell_splice (x : Wt) (l : List UInt8) : splice (wcell x) 2 (bc l) = wcell ⟨x.blk, x.size, splice x.bytes 0 l⟩ := by
  rw [wcell, splice_two, wcell, bc_splice]

/-- A write's cells, loaded at once. -/
theorem load_box {W : World} {g : Nat} {x : Wt} (hx : x.bytes.length = 32) (h : W.heap[g]? = some (.cells (wcell x).toArray 106 (0, 0))) :
    (Instr.loadAt 106 (.pointer (some ⟨g, 0, none⟩))).run Try.prog W = .ok (.agg (wcell x).toArray) W :=
  run_loadAt_mid W g 0 106 (wcell x) _ (fun j u hu => by rw [cell_of_row W g (0 + j) _ _ _ h]; simpa using hu) Try.underlying106 rfl (by rw [wcell_length hx]; exact Try.size65)

/-- Behind the append: what the store of the new list makes. -/
theorem write_end {w wB w5 : World} {B p gn gs n g : Nat} {v v5 : Value} {now safe : List UInt8} {ws : List Wt} {x : Wt} {C : Array Value} (D : Dv wB B p gn gs v n now safe ws) (hk : Fr B [] w wB) (hbox : wB.heap[g]? = some (.cells C 106 (0, 0)))
    (hg : ∀ k, v.ownBlock = some k → k < g) (ho : w5.ownsRow B 106 34 v5 (ws.length + 1) (wcells ws ++ wcell x)) (hf : Fr B [106] wB w5) (hgr : wB.grownBy w5 v.ownBlock) (hx : x.ok n) :
    (∃ a5 n5 c5, v5 = .slice a5 n5 c5) ∧ w5.heap[g]? = some (.cells C 106 (0, 0)) ∧ w5.cell? ⟨p, 2, none⟩ = some v ∧ w5.frozen? ⟨p, 2, none⟩ = false ∧ (w5.setCell ⟨p, 2, none⟩ v5).heap[g]? = some (.cells C 106 (0, 0)) ∧
      Dv (w5.setCell ⟨p, 2, none⟩ v5) B p gn gs v5 n now safe (ws ++ [x]) ∧ Fr B dts w (w5.setCell ⟨p, 2, none⟩ v5) := by
  have hp := hf.heap D.hp (by decide)
  have hb5 : w5.heap[g]? = some (.cells C 106 (0, 0)) := (hgr.block g (heap_lt hbox) (fun e => by have := hg g e.symm; omega)).trans hbox
  have ho' : w5.ownsRow B 106 34 v5 (ws ++ [x]).length (wcells (ws ++ [x])) := by
    rw [List.length_append, wcells, List.flatMap_append]
    simpa [wcells] using ho
  obtain ⟨h1, h2, h3⟩ := D.setWaits hf ho' (fun y hy => by
    rcases List.mem_append.1 hy with h | h
    · exact D.hw y h
    · obtain rfl : y = x := by simpa using h
      exact hx)
  obtain ⟨a5, c5, hv5⟩ := ownsRow_shape ho
  refine ⟨⟨a5, _, c5, hv5⟩, hb5, by simpa using cell_of_row w5 p 2 _ _ _ hp, frozen_of_row _ _ _ _ _ hp, h3.heap (by simpa using ne_of_types hb5 hp (by decide)) hb5, h1, (hk.mono (Nat.le_refl _) (by simp)).trans h2⟩

set_option maxHeartbeats 1000000 in
set_option maxRecDepth 100000 in
theorem write_ok {w : World} {B p gn gs n : Nat} {v : Value} {now safe : List UInt8} {ws : List Wt} (h : Dv w B p gn gs v n now safe ws) (i : Nat) (hi : i < n) (vp : Value) (l : List UInt8) (hl : l.length ≤ 32)
    (hr : Rb w B 5 vp l) (hws : ws.length ≤ 1000000) (hB : B ≤ w.heap.size) :
    Calls Try.prog 65 #[.pointer (some ⟨p, 0, none⟩), .int .i64 i, vp] w fun e w' => e = .returned (.int .i64 0) ∧
      ∃ v', Dv w' B p gn gs v' n (lay now i l) safe (ws ++ [⟨i, l.length, splice (noughts 1) 0 l⟩]) ∧ Fr B dts w w' := by
  obtain ⟨a, c, rfl, hc, ha, hcell⟩ := id hr
  have H := Lib.hid h; have Hr := Lib.hid hr; clear hr hcell h
  have hlz : (splice (noughts 1) 0 l).length = 32 := by rw [length_splice _ _ _ (by simp [noughts]; omega)]; rfl
  go_enter Try.func65, Try.ntmps65
  go_wp2_with fail
  refine (has_yes H.out i hi).mono ?_
  rintro e w1 ⟨rfl, rfl⟩
  go_wp2_with (refine wpList_store_new w rfl 106 (.tmp 7) (.tmp 22) rfl _ 106 _ rfl rfl Try.size65 rfl ?h1 ?next)
  case h1 => exact wcell_one ⟨i, l.length, noughts 1⟩
  case next =>
    intro w2 hbox hk2 hz2
    have Hbox : Hid (w2.heap[w.heap.size]? = some (.cells (wcell ⟨i, l.length, noughts 1⟩).toArray 106 (0, 0))) := hbox
    clear hbox
    go_wp2_with (refine wpList_copy_fr w2 rfl (.tmp 24) (.tmp 25) 36 36 rfl 5 Try.underlying36 Try.size5 _ _ _ _ _ _ rfl rfl w.heap.size 2 (wcell ⟨i, l.length, noughts 1⟩) 106 Hbox.out (bc l) ?hn ?hpos ?hfit ?h1 ?next)
    case hn => rw [bc_length]; exact (Nat.min_eq_left hl).symm
    case hpos =>
      intro hpos
      rw [bc_length] at hpos
      obtain ⟨a', c', e1, _, _, hcl⟩ := Hr.out.rd.kept hk2.out (by simp)
      simp only [Value.slice.injEq] at e1
      obtain ⟨rfl, _, rfl⟩ := e1
      obtain ⟨b, o, rfl, hce⟩ := hcl (by rintro rfl; simp at hpos)
      have f : ∀ j u, (bc l)[j]? = some u → w2.cell? ((⟨b, o, none⟩ : Addr).add j) = some u := fun j u hu => by
        obtain ⟨hj, rfl⟩ := bc_get l j u hu
        rw [Addr.add_lit]
        exact hce j hj
      first | exact ⟨rfl, _, rfl, f⟩ | exact ⟨_, rfl, f⟩ | exact f
    case hfit => rw [wcell_length rfl, bc_length]; omega
    case h1 => exact bc_one l
    case next => 
      intro w3 hbox3 hf3 _
      have hK3 : Fr 0 [] w w3 := (Fr.ofKept hk2.out 0 []).later hf3 (Nat.le_refl _)
      have hz3 : w3.heap.size ≥ w.heap.size + 1 := by rw [← hz2]; exact hf3.size
      obtain ⟨x, hx⟩ : ∃ x : Wt, x = ⟨i, l.length, splice (noughts 1) 0 l⟩ := ⟨_, rfl⟩
      have hx32 : x.bytes.length = 32 := by rw [hx]; exact hlz
      have hb3 : w3.heap[w.heap.size]? = some (.cells (wcell x).toArray 106 (0, 0)) := by
        have := hbox3.out
        rw [wcell_splice] at this
        rw [hx]
        exact this
      have D3 := Lib.hid (H.out.frame hK3 (by simp) (by simp) (by simp)); have Hb3 := Lib.hid hb3; have HK3 := Lib.hid hK3; have Hx := Lib.hid hx
      clear hb3 hK3 hbox3 hf3 hx
      have c2 := D3.out.cell2
      have f2 := D3.out.frozen 2
      obtain ⟨i0, hi0, hz0, hz1, hzb⟩ := info_parts Try.infoW
      obtain ⟨av, cv, rfl⟩ := ownsRow_shape D3.out.hv
      have hlt : ∀ g, (Value.slice av ws.length cv).ownBlock = some g → g < w.heap.size := fun g hg => (World.ownsRow.lt H.out.hv g hg).2
      obtain ⟨wB, hwB⟩ : ∃ wB, wB = w3.drew.alloc (.cells (wcell x).toArray 106) := ⟨_, rfl⟩
      have hkB : Kept w3 wB [] := by rw [hwB]; exact ((Kept.refl w3 []).drew).alloc _
      have hbB : wB.heap[w3.heap.size]? = some (.cells (wcell x).toArray 106 (0, 0)) := by rw [hwB]; exact heap_alloc_new w3.drew _
      have DB := Lib.hid (D3.out.frame (Fr.ofKept hkB 0 []) (by simp) (by simp) (by simp))
      have cB := DB.out.cell2
      have HbB := Lib.hid (hkB.heap (by simp) Hb3.out)
      have HkB := Lib.hid hkB; have HbB2 := Lib.hid hbB; have HwB := Lib.hid hwB
      have hFB : Fr B [] w wB := (HK3.out.trans (Fr.ofKept hkB 0 [])).kept |> fun h => Fr.ofKept h B []
      have HFB := Lib.hid hFB
      have hxok : x.ok n := by rw [Hx.out]; exact ⟨hi, hl, hlz⟩
      clear hkB hbB hwB hFB
      have hsrc : Src Try.prog 34 93 (.slice (some ⟨w3.heap.size, 0, none⟩) 1 1) 1 (wcell x) wB := Src.ofSlice wB Try.underlying93 ⟨w3.heap.size, 0, none⟩ 1 1 (wcell x) (by rw [wcell_length hx32]) (fun j u hu => by rw [Addr.add_lit, cell_of_row wB _ _ _ _ _ HbB2.out]; simpa using hu) (wcell_one x)
      have hzB : B ≤ wB.heap.size := by have := HkB.out.size; omega
      go_wp2_with fail
      refine wp_region_held_drew (S := fun W => Hid (W.heap[w.heap.size]? = some (.cells (wcell x).toArray 106 (0, 0)))) (by kernel_rfl) Hb3 (fun hHeld => ?_)
      refine wpAnyH_take (i := 0) (oi := _) (v := .pointer (some ⟨p, 0, none⟩)) rfl (by kernel_rfl) (by kernel_rfl) (by kernel_rfl) (fun _ _ _ h => h) (Or.inl ⟨by rfl, fun w hSw => by go_simp⟩) hHeld ?_
      refine wpAnyH_take (i := 1) (oi := _) (v := .pointer (some ⟨p, 0, none⟩)) rfl (by kernel_rfl) (by kernel_rfl) (by kernel_rfl) (fun _ _ _ h => h) (Or.inl ⟨by rfl, fun w hSw => by go_simp⟩) hHeld ?_
      refine wpAnyH_take (i := 2) (oi := _) (v := .pointer (some ⟨p, 0, none⟩)) rfl (by kernel_rfl) (by kernel_rfl) (by kernel_rfl) (fun _ _ _ h => h) (Or.inl ⟨by rfl, fun w hSw => by go_simp⟩) hHeld ?_
      refine wpAnyH_take (i := 3) (oi := _) (v := .pointer (some ⟨p, 2, none⟩)) rfl (by kernel_rfl) (by kernel_rfl) (by kernel_rfl) (fun _ _ _ h => h) (Or.inl ⟨by rfl, fun w hSw => by go_simp⟩) hHeld ?_
      refine wpAnyH_take (i := 5) (oi := _) (v := .agg (wcell x).toArray) rfl (by kernel_rfl) (by kernel_rfl) (by kernel_rfl) (fun _ _ _ h => h) (yieldsIf_load_mid (by rfl) 106 (.tmp 7) rfl w.heap.size 0 rfl (wcell x) _ ?_ Try.underlying106 rfl ?_) hHeld ?_
      · intro W hW j u hu
        rw [cell_of_row W _ (0 + j) _ _ _ hW.out]
        simpa using hu
      · rw [wcell_length hx32]; exact Try.size65
      refine wpAnyH_ready (rs := [4, 6]) (by kernel_rfl) (by simp) ?_
      refine AllReadyH.cons (o := _) rfl (fun K hK => ?wayA) (AllReadyH.cons (o := _) rfl (fun K hK => ?wayB) AllReadyH.nil)
      case' wayA =>
        go_simp
        refine hK.out _ _ Hb3 (fun hHeld => ?_)
        clear hK K
        refine wpAnyH_ready (rs := [6]) (by kernel_rfl) (by simp) ?_
        refine AllReadyH.cons (o := _) rfl (fun K hK => ?_) AllReadyH.nil
        refine step_buildSlice_one _ rfl 93 (.tmp 32) rfl 106 i0 _ 34 Try.underlying93 hi0 hz0 hz1 (by decide) (by decide) (wcell x) rfl (wcell_length hx32) ?_
        rw [World.drew_size, ← HwB.out]
        refine hK.out _ _ HbB (fun hHeld => ?_)
        clear hK K
        refine wpAnyH_ready (rs := [7]) (by kernel_rfl) (by simp) ?_
        refine AllReadyH.cons (o := _) rfl (fun K hK => ?_) AllReadyH.nil
        refine step_append_fr _ rfl (.tmp 31) (.tmp 33) 93 93 rfl B 106 i0 _ 34 48 Try.underlying93 hi0 hz0 hz1 hzb rfl (.slice av ws.length cv) ws.length (wcells ws) rfl DB.out.hv _ 1 (wcell x) rfl hsrc (by unfold maxLen; omega) (by omega) hzB ?_
        intro v5 w5 ho5 hf5 hg5
        obtain ⟨⟨a5, n5, c5, rfl⟩, b5, k5, f5, b6, D6, F6⟩ := write_end DB.out HFB.out HbB.out hlt ho5 hf5 hg5 hxok
        have B6 := Lib.hid b6; have D6 := Lib.hid D6; have F6 := Lib.hid F6
        clear ho5 hf5 hg5 b6
        refine hK.out _ _ (Lib.hid b5) (fun hHeld => ?_)
        clear hK K b5
        refine wpAnyH_take (i := 8) (oi := _) (v := .pointer (some ⟨p, 0, none⟩)) rfl (by kernel_rfl) (by kernel_rfl) (by kernel_rfl) (fun _ _ _ h => h) (Or.inl ⟨by rfl, fun w hSw => by go_simp⟩) hHeld ?_
        refine wpAnyH_take (i := 9) (oi := _) (v := .pointer (some ⟨p, 2, none⟩)) rfl (by kernel_rfl) (by kernel_rfl) (by kernel_rfl) (fun _ _ _ h => h) (Or.inl ⟨by rfl, fun w hSw => by go_simp⟩) hHeld ?_
        refine wpAnyH_ready (rs := [10]) (by kernel_rfl) (by simp) ?_
        refine AllReadyH.cons (o := _) rfl (fun K hK => ?_) AllReadyH.nil
        go_simp
        refine hK.out _ _ B6 (fun hHeld => ?_)
        clear hK K
        refine wpAnyH_done (by kernel_rfl) ?_ _
      case' wayB =>
        refine step_buildSlice_one _ rfl 93 (.tmp 32) rfl 106 i0 _ 34 Try.underlying93 hi0 hz0 hz1 (by decide) (by decide) (wcell x) rfl (wcell_length hx32) ?_
        rw [World.drew_size, ← HwB.out]
        refine hK.out _ _ HbB (fun hHeld => ?_)
        clear hK K
        refine wpAnyH_ready (rs := [4]) (by kernel_rfl) (by simp) ?_
        refine AllReadyH.cons (o := _) rfl (fun K hK => ?_) AllReadyH.nil
        go_simp
        refine hK.out _ _ HbB (fun hHeld => ?_)
        clear hK K
        refine wpAnyH_ready (rs := [7]) (by kernel_rfl) (by simp) ?_
        refine AllReadyH.cons (o := _) rfl (fun K hK => ?_) AllReadyH.nil
        refine step_append_fr _ rfl (.tmp 31) (.tmp 33) 93 93 rfl B 106 i0 _ 34 48 Try.underlying93 hi0 hz0 hz1 hzb rfl (.slice av ws.length cv) ws.length (wcells ws) rfl DB.out.hv _ 1 (wcell x) rfl hsrc (by unfold maxLen; omega) (by omega) hzB ?_
        intro v5 w5 ho5 hf5 hg5
        obtain ⟨⟨a5, n5, c5, rfl⟩, b5, k5, f5, b6, D6, F6⟩ := write_end DB.out HFB.out HbB.out hlt ho5 hf5 hg5 hxok
        have B6 := Lib.hid b6; have D6 := Lib.hid D6; have F6 := Lib.hid F6
        clear ho5 hf5 hg5 b6
        refine hK.out _ _ (Lib.hid b5) (fun hHeld => ?_)
        clear hK K b5
        refine wpAnyH_take (i := 8) (oi := _) (v := .pointer (some ⟨p, 0, none⟩)) rfl (by kernel_rfl) (by kernel_rfl) (by kernel_rfl) (fun _ _ _ h => h) (Or.inl ⟨by rfl, fun w hSw => by go_simp⟩) hHeld ?_
        refine wpAnyH_take (i := 9) (oi := _) (v := .pointer (some ⟨p, 2, none⟩)) rfl (by kernel_rfl) (by kernel_rfl) (by kernel_rfl) (fun _ _ _ h => h) (Or.inl ⟨by rfl, fun w hSw => by go_simp⟩) hHeld ?_
        refine wpAnyH_ready (rs := [10]) (by kernel_rfl) (by simp) ?_
        refine AllReadyH.cons (o := _) rfl (fun K hK => ?_) AllReadyH.nil
        go_simp
        refine hK.out _ _ B6 (fun hHeld => ?_)
        clear hK K
        refine wpAnyH_done (by kernel_rfl) ?_ _

      all_goals
        obtain ⟨w6, hw6⟩ : ∃ w6, w6 = w5.setCell ⟨p, 2, none⟩ (.slice a5 n5 c5) := ⟨_, rfl⟩
        rw [← hw6] at D6 F6 ⊢
        clear hw6 B6 hHeld k5 f5
        have c6 := D6.out.cell0
        go_wp2_with (refine wpList_copy_fr w6 rfl (.tmp 43) (.tmp 44) 36 36 rfl 5 Try.underlying36 Try.size5 _ _ _ _ _ _ rfl rfl gn (i * 32) (bc now) 104 D6.out.hn (bc l) ?_ ?_ ?_ ?_ ?_)
        · rw [bc_length]; exact (Nat.min_eq_left hl).symm
        · intro hpos
          rw [bc_length] at hpos
          obtain ⟨a', c', e1, _, _, hcl⟩ := (Hr.out.frame F6.out (Nat.le_refl _) (by decide)).rd
          simp only [Value.slice.injEq] at e1
          obtain ⟨rfl, _, rfl⟩ := e1
          obtain ⟨b, o, rfl, hce⟩ := hcl (by rintro rfl; simp at hpos)
          have f : ∀ j u, (bc l)[j]? = some u → w6.cell? ((⟨b, o, none⟩ : Addr).add j) = some u := fun j u hu => by
            obtain ⟨hj, rfl⟩ := bc_get l j u hu
            rw [Addr.add_lit]
            exact hce j hj
          first | exact ⟨rfl, _, rfl, f⟩ | exact ⟨_, rfl, f⟩ | exact f
        · rw [bc_length, bc_length, D6.out.ln]; omega
        · exact bc_one l
        · intro w7 hn7 hf7 hk7
          have hn8 : w7.heap[gn]? = some (.cells (bc (lay now i l)).toArray 104 (0, 0)) := by
            have := hn7.out
            rw [← bc_splice, Nat.mul_comm] at this
            exact this
          have D7 := D6.out.setNow hk7 hn8 (by rw [lay_length _ _ _ (by rw [D6.out.ln]; omega), D6.out.ln])
          have F7 := F6.out.trans (hf7.mono D6.out.bn (by decide))
          have D7 := Lib.hid D7; have F7 := Lib.hid F7
          clear hn7 hf7 hk7 hn8
          go_wp2
          go_ret
          exact ⟨rfl, _, by rw [← Hx.out]; exact D7.out, F7.out⟩

end Go.Proofs.Ytfhdblbiamdplaa
