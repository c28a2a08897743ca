/-
  Cuj, Cuk in one text.
-/
import Derived.Test.YticiofkiffgclaaGreatQo4
namespace Go.Proofs.YticiofkiffgclaaGreat
set_option linter.unusedVariables false
open Go.RowKit

set_option maxHeartbeats 4000000 in
set_option maxRecDepth 100000 in
theorem cinsert_grow (g n : Nat) (l : List Cu) (i : Nat) (x : Cu) (xb : Nat) (w : World) (B : Nat) (hn : n = l.length) (h : OwnK encCu w B 99 (.slice (some ⟨g, 0, none⟩) n n) l) (hB : B ≤ w.heap.size) (hx : w.heap[xb]? = some (.cells x.cs 99 (0, 0))) (hi : i < n) (hl : n ≤ 1000) :
    Calls Tryz.prog 135 #[.slice (some ⟨g, 0, none⟩) n n, .int .i64 i, .slice (some ⟨xb, 0, none⟩) 1 1] w (InsPost w B (.slice (some ⟨g, 0, none⟩) n n) l i x) := by
  obtain ⟨i0, hi0, hz0, hz1, hz2⟩ := info_parts Tryz.infoCu
  have hcell : ∀ j u, (kcs encCu l)[j]? = some u → w.cell? ⟨g, j, none⟩ = some u := fun j u hu => by
    have := World.ownsRow.cells h (g := g) rfl j u hu
    simpa [Addr.add_lit] using this
  have hil : i ≤ l.length := by omega
  have hold : (Builtin.firstCells i0.size i (.slice (some ⟨g, 0, none⟩) i n)).run Tryz.prog w.drew = .ok (kcs encCu (l.take i)).toArray w.drew := by
    rw [hz1]
    refine run_firstCells_some w.drew 3 i ⟨g, 0, none⟩ i n (kcs encCu (l.take i)) (by rw [kcs_length, List.length_take, Nat.min_eq_left hil]; rfl) (fun j u hj => ?_)
    rw [kcs_take encCu l i hil, List.getElem?_take] at hj
    split at hj
    · rw [Addr.add_lit, Nat.zero_add]; exact hcell j u hj
    · cases hj
  obtain ⟨G, hG⟩ : ∃ G, G = grownCap w (n + 1) n 99 := ⟨_, rfl⟩
  have hGn : n + 1 ≤ G := by rw [hG]; exact grownCap_ge w _ _ _
  have hGm : G ≤ maxLen := by rw [hG]; exact grownCap_le_maxLen w (n + 1) n 99 (by unfold maxLen; omega)
  obtain ⟨R, hRl, hRt, hrz⟩ : ∃ R : List Value, R.length = G * 3 ∧ R.take (i * 3) = kcs encCu (l.take i) ∧ ∀ ty, (Builtin.append_ #[93, 3] ty #[.slice (some ⟨g, 0, none⟩) i n, .int .i64 ((n : Int) + 1 - (i : Int))]).run Tryz.prog w =
      .ok (.slice (some ⟨w.heap.size, 0, none⟩) (n + 1) G) (w.drew.alloc (.cells R.toArray 99)) := by
    have hik : i + (n + 1 - i) = n + 1 := by omega
    have hkk : (n : Int) + 1 - (i : Int) = ((n + 1 - i : Nat) : Int) := by omega
    have hk3 : (kcs encCu (l.take i)).length = i * 3 := by rw [kcs_length, List.length_take, Nat.min_eq_left hil]; rfl
    refine ⟨kcs encCu (l.take i) ++ (Builtin.zeroCells (Value.agg #[.string ⟨#[]⟩, .int .i64 0, .int .i64 0]).cells (n + 1 - i)).toList ++ (Builtin.zeroCells (Value.agg #[.string ⟨#[]⟩, .int .i64 0, .int .i64 0]).cells (G - (n + 1))).toList, ?_, ?_, fun ty => ?_⟩
    · have hzc : (Value.agg #[.string ⟨#[]⟩, .int .i64 0, .int .i64 0]).cells.size = 3 := rfl
      simp only [List.length_append, hk3, Array.length_toList, Builtin.zeroCells, Array.size_map, Array.size_range, hzc]
      omega
    · rw [List.append_assoc]
      exact List.take_left' hk3
    · have hh := Lib.run_append_grow_zeros w 93 3 ty 99 i0 _ .i64 .i64 Tryz.underlying93 Tryz.underlying3 hi0 hz0 (some ⟨g, 0, none⟩) i n (kcs encCu (l.take i)) hold (n + 1 - i) (by omega) (by omega) (by omega) (by omega) (by rw [hz2]; omega) (by rw [hz2, hik]; exact growslice_fits (by omega) (by omega))
      rw [hik, ← hG] at hh
      rw [hkk, hh]
      congr 3
      apply Array.toList_inj.1
      simp
  have hcx : ∀ j u, x.cs.toList[j]? = some u → w.cell? ⟨xb, 0 + j, none⟩ = some u := fun j u hu => by
    rw [cell_of_row _ _ _ _ _ _ hx, Nat.zero_add]
    simpa using hu
  obtain ⟨z, hz⟩ : ∃ z, z = w.heap.size := ⟨_, rfl⟩
  have hxz : xb < z := by rw [hz]; exact heap_lt hx
  have hgz : g < z := by rw [hz]; exact (h.lt g rfl).2
  obtain ⟨W1, hW1⟩ : ∃ W1, W1 = w.drew.alloc (.cells R.toArray 99) := ⟨_, rfl⟩
  have H1 : W1.heap[z]? = some (.cells R.toArray 99 (0, 0)) := by rw [hW1, hz]; exact heap_alloc_new w.drew _
  have K1 : Kept w W1 [] := by rw [hW1]; exact ((Kept.refl w []).drew).alloc _
  rw [← hz, ← hW1] at hrz
  have KH1 := Lib.hid K1; have HH1 := Lib.hid H1; have HZ := Lib.hid hz; have CX := Lib.hid hcx; have CL := Lib.hid hcell; have RT := Lib.hid hRt; have RL := Lib.hid hRl
  have HN := Lib.hid hn; have BB := Lib.hid hB; have GM := Lib.hid hGm
  have X1 : RowKit.Hid (∀ u ∈ x.cs.toList, u.oneCell' = true) := Lib.hid (encCu.one x)
  have XL : RowKit.Hid (x.cs.toList.length = 3) := Lib.hid (by rw [Array.length_toList]; exact encCu.size x)
  have F1 : RowKit.Hid (i * 3 + 3 ≤ R.length ∧ (n + 1) * 3 ≤ R.length) := Lib.hid (by rw [hRl]; omega)
  obtain ⟨XS, hXS⟩ : ∃ XS, XS = x.cs.toList := ⟨_, rfl⟩
  have HXS := Lib.hid hXS
  obtain ⟨LD, hLD⟩ : ∃ LD, LD = kcs encCu (l.drop i) := ⟨_, rfl⟩
  have HLD := Lib.hid hLD
  have LDL : RowKit.Hid (LD.length = (n - i) * 3) := Lib.hid (by rw [hLD, kcs_length, List.length_drop, ← hn]; rfl)
  have LD1 : RowKit.Hid (∀ u ∈ LD, u.oneCell' = true) := Lib.hid (by rw [hLD]; exact kcs_one encCu _)
  have LDC : RowKit.Hid (∀ j u, LD[j]? = some u → w.cell? ⟨g, i * 3 + j, none⟩ = some u) := Lib.hid (fun j u hj => by
    rw [hLD, kcs_drop encCu l i hil, List.getElem?_drop] at hj
    exact hcell _ u hj)
  rw [← hXS] at X1 XL CX
  have HG := Lib.hid hG
  have hGi : ¬ (G = i) := by omega
  have hGim : ¬ (G = i + 1) := by omega
  have hci : ¬ (n = i) := by omega
  have hw1 : IntKind.i64.wrap ((i : Int) + 1) = (i : Int) + 1 := by rw [IntKind.wrap_i64]; omega
  have hb1 : (0 : Int) ≤ (i : Int) + 1 := by omega
  have htn : ((i : Int) + 1).toNat = i + 1 := by omega
  have hin : i ≤ n := by omega
  have hin1 : (i : Int) ≤ (n : Int) := by omega
  have hz1' : ¬ ((i : Int) = (n : Int)) := by omega
  have HRZ := Lib.hid hrz
  clear h hx hold hrz hRl hRt hG hcx hcell hn hz hW1 H1 K1 hB hGm hXS hLD hil
  go_enter Tryz.func135, Tryz.ntmps135
  go_wp2_with (first
    | (at_builtin; refine Lib.wpList_append_run _ rfl _ _ _ _ rfl _ _ rfl rfl _ _ (HRZ.out _) ?_)
    | (refine wpList_copy_k rfl (.tmp 43) (.tmp 44) 93 93 rfl 99 i0 Tryz.underlying93 hi0 z (i * 3) _ _ ⟨xb, 0, none⟩ 1 1 1 rfl rfl ?hm R 99 HH1.out XS ?hn ?hsrc ?hfit X1.out ?next))
  case hm => exact Nat.min_eq_left (by omega)
  case hn => rw [XL.out, hz1]
  case hsrc => intro j u hu; rw [Addr.add_lit]; exact KH1.out.cell (by simp) (CX.out j u hu)
  case hfit => rw [XL.out]; exact F1.out.1
  case next =>
    intro w2 HG2 HF2
    have L2 : RowKit.Hid ((splice R (i * 3) XS).length = R.length) := Lib.hid (length_splice _ _ _ (by rw [XL.out]; exact F1.out.1))
    obtain ⟨R2, hR2⟩ : ∃ R2, R2 = splice R (i * 3) XS := ⟨_, rfl⟩
    rw [← hR2] at HG2 L2
    have HR2 := Lib.hid hR2
    clear hR2
    have LC2 : RowKit.Hid (∀ j u, LD[j]? = some u → w2.cell? ⟨g, i * 3 + j, none⟩ = some u) := Lib.hid (fun j u hj => by
      have h1 := KH1.out.cell (by simp) (LDC.out j u hj)
      rw [World.cell?_of_block (HF2.out.block g (World.block_lt_of_cell? _ _ h1) (by omega))]
      exact h1)
    go_wp2_with fail
    go_region_law (refine step_copy_k rfl (.tmp 50) (.tmp 53) 93 93 rfl 99 i0 Tryz.underlying93 hi0 z ((i + 1) * 3) (n + 1 - (i + 1)) (G - (i + 1)) ⟨g, i * 3, none⟩ (n - i) (n - i) (n - i) (by simp [Act.eval, Act.put]) (by simp [Act.eval, Act.put]) (by rw [show n + 1 - (i + 1) = n - i by omega]; exact Nat.min_self _) R2 99 HG2.out LD (by rw [LDL.out, hz1]) (fun j u hu => by rw [Addr.add_lit]; exact LC2.out j u hu) (by rw [LDL.out, L2.out, RL.out]; omega) LD1.out ?_; intro w3 HG3 HF3)
    go_wp2
    go_ret
    refine ⟨_, rfl, ?_, ?_, fun k hk => .inr (by cases hk; rw [HZ.out]; exact Nat.le_refl _)⟩
    · have hl2 : (l.take i ++ x :: l.drop i).length = n + 1 := by
        have := HN.out
        simp only [List.length_append, List.length_cons, List.length_take, List.length_drop]
        omega
      have hR3 : (splice R2 ((i + 1) * 3) LD).length = R2.length := length_splice _ _ _ (by rw [LDL.out, L2.out, RL.out]; omega)
      rw [← hl2]
      refine ownK_row HG3.out (by have := BB.out; have := HZ.out; omega) (by rw [hl2]; exact hGn) GM.out (by rw [hR3, L2.out, RL.out]; rfl) ?_
      rw [hl2, HR2.out, HN.out, HXS.out, HLD.out]
      exact ins_grow (E := encCu) x (by have := HN.out; omega) (by rw [RL.out, ← HN.out]; show (n + 1) * 3 ≤ _; omega) RT.out
    · have hz := HZ.out
      have f := (Fo.ofKept KH1.out (fun k => k = z)).trans (HF2.out.drew.trans HF3.out)
      exact ⟨f.os, f.tape, f.output, f.size, fun k hk _ => f.block k hk (by omega)⟩

set_option maxHeartbeats 4000000 in
set_option maxRecDepth 100000 in
theorem cinsert_shift (g n c : Nat) (l : List Cu) (i : Nat) (x : Cu) (xb : Nat) (w : World) (B : Nat) (hn : n = l.length) (h : OwnK encCu w B 99 (.slice (some ⟨g, 0, none⟩) n c) l) (hx : w.heap[xb]? = some (.cells x.cs 99 (0, 0))) (hxg : xb ≠ g) (hi : i < n) (hc : n + 1 ≤ c) (hl : n ≤ 1000) :
    Calls Tryz.prog 135 #[.slice (some ⟨g, 0, none⟩) n c, .int .i64 i, .slice (some ⟨xb, 0, none⟩) 1 1] w (InsPost w B (.slice (some ⟨g, 0, none⟩) n c) l i x) := by
  obtain ⟨i0, hi0, hz0, hz1, hz2⟩ := info_parts Tryz.infoCu
  have hcell : ∀ j u, (kcs encCu l)[j]? = some u → w.cell? ⟨g, j, none⟩ = some u := fun j u hu => by
    have := World.ownsRow.cells h (g := g) rfl j u hu
    simpa [Addr.add_lit] using this
  have hil : i ≤ l.length := by omega
  obtain ⟨R, hR, hBg, -, hlc, hcm, hRl, hRt⟩ := h.row
  have hcx : ∀ j u, x.cs.toList[j]? = some u → w.cell? ⟨xb, 0 + j, none⟩ = some u := fun j u hu => by
    rw [cell_of_row _ _ _ _ _ _ hx, Nat.zero_add]
    simpa using hu
  have hrl3 : R.length = c * 3 := hRl
  have HH1 := Lib.hid hR; have CX := Lib.hid hcx; have RT := Lib.hid hRt; have RL := Lib.hid hrl3
  have HN := Lib.hid hn; have BG := Lib.hid hBg; have CM := Lib.hid hcm
  have X1 : RowKit.Hid (∀ u ∈ x.cs.toList, u.oneCell' = true) := Lib.hid (encCu.one x)
  have XL : RowKit.Hid (x.cs.toList.length = 3) := Lib.hid (by rw [Array.length_toList]; exact encCu.size x)
  obtain ⟨XS, hXS⟩ : ∃ XS, XS = x.cs.toList := ⟨_, rfl⟩
  have HXS := Lib.hid hXS
  obtain ⟨LD, hLD⟩ : ∃ LD, LD = kcs encCu (l.drop i) := ⟨_, rfl⟩
  have HLD := Lib.hid hLD
  have LDL : RowKit.Hid (LD.length = (n - i) * 3) := Lib.hid (by rw [hLD, kcs_length, List.length_drop, ← hn]; rfl)
  have LD1 : RowKit.Hid (∀ u ∈ LD, u.oneCell' = true) := Lib.hid (by rw [hLD]; exact kcs_one encCu _)
  have LDC : RowKit.Hid (∀ j u, LD[j]? = some u → w.cell? ⟨g, i * 3 + j, none⟩ = some u) := Lib.hid (fun j u hj => by
    rw [hLD, kcs_drop encCu l i hil, List.getElem?_drop] at hj
    exact hcell _ u hj)
  rw [← hXS] at X1 XL CX
  have hov : ∀ lb cb, (callFunc 179 #[.slice (some ⟨xb, 0, none⟩) 1 1, .slice (some ⟨g, (i + 1) * 3, none⟩) lb cb]).run Tryz.prog w = .ok (.value (.bool false)) w := fun lb cb => by
    have hsh : ∀ {b : Nat} {cs : Array Value}, w.heap[b]? = some (.cells cs 99 (0, 0)) → w.shape? b = some (99, cs.size) := fun {b cs} hb => by simp [World.shape?, hb]
    rw [run_callFunc_extern Tryz.func179 (by kernel_rfl) (by kernel_rfl) (by kernel_rfl) (e := Extern.SlicesOverlaps.overlaps #[93, 93] #[4]) (by kernel_rfl),
      Lib.run_overlaps_apart w 93 4 99 Tryz.underlying93 3 (fun w => Tryz.sizeOf99 w) ⟨xb, 0, none⟩ ⟨g, (i + 1) * 3, none⟩ 1 1 lb cb hxg 99 99 _ _ (hsh hx) (hsh hR) (by rw [List.size_toArray, hrl3]; omega) (frozen_of_row _ _ _ _ _ hx) (frozen_of_row _ _ _ _ _ hx)]
    rfl
  have HOV := Lib.hid hov
  have F1 : RowKit.Hid ((i + 1) * 3 + (n - i) * 3 ≤ R.length ∧ i * 3 + 3 ≤ R.length) := Lib.hid (by rw [hrl3]; omega)
  have hgx := Lib.hid (show xb ≠ g from hxg)
  have hGi : ¬ (c = i) := by omega
  have hGim : ¬ (c = i + 1) := by omega
  have hw1 : IntKind.i64.wrap ((i : Int) + 1) = (i : Int) + 1 := by rw [IntKind.wrap_i64]; omega
  have hb1 : (0 : Int) ≤ (i : Int) + 1 := by omega
  have htn : ((i : Int) + 1).toNat = i + 1 := by omega
  have htn2 : ((n : Int) + 1).toNat = n + 1 := by omega
  have hin : i ≤ n := by omega
  have hin1 : (i : Int) ≤ (n : Int) := by omega
  have hin2 : (i : Int) ≤ (n : Int) + 1 := by omega
  have hz1' : ¬ ((i : Int) = (n : Int)) := by omega
  have hcc : ¬ ((c : Int) < (n : Int) + 1) := by omega
  have hcm63 : c ≤ 9223372036854775807 := by unfold maxLen at hcm; omega
  clear h hx hRl hrl3 hRt hcx hcell hn hXS hLD hil hR hBg hcm hlc hxg
  go_enter Tryz.func135, Tryz.ntmps135
  go_wp2_with (simp only [hov])
  clear hov
  go_region_law (refine step_copy_k rfl (.tmp 73) (.tmp 76) 93 93 rfl 99 i0 Tryz.underlying93 hi0 g ((i + 1) * 3) (n + 1 - (i + 1)) (c - (i + 1)) ⟨g, i * 3, none⟩ (n + 1 - i) (c - i) (n - i) (by simp [Act.eval, Act.put]) (by simp [Act.eval, Act.put]) (by rw [show n + 1 - (i + 1) = n - i by omega]; exact Nat.min_eq_right (by omega)) R 99 HH1.out LD (by rw [LDL.out, hz1]) (fun j u hu => by rw [Addr.add_lit]; exact LDC.out j u hu) (by rw [LDL.out]; exact F1.out.1) LD1.out ?_; intro w2 HG2 HF2)
  have L2 : RowKit.Hid ((splice R ((i + 1) * 3) LD).length = R.length) := Lib.hid (length_splice _ _ _ (by rw [LDL.out]; exact F1.out.1))
  obtain ⟨R2, hR2⟩ : ∃ R2, R2 = splice R ((i + 1) * 3) LD := ⟨_, rfl⟩
  rw [← hR2] at HG2 L2
  have HR2 := Lib.hid hR2
  clear hR2
  have CX2 : RowKit.Hid (∀ j u, XS[j]? = some u → w2.cell? ⟨xb, 0 + j, none⟩ = some u) := Lib.hid (fun j u hj => by
    have h1 := CX.out j u hj
    rw [World.cell?_of_block (HF2.out.block xb (World.block_lt_of_cell? _ _ h1) (fun e => hgx.out e))]
    exact h1)
  go_wp2_with (refine wpList_copy_k rfl (.tmp 80) (.tmp 81) 93 93 rfl 99 i0 Tryz.underlying93 hi0 g (i * 3) _ _ ⟨xb, 0, none⟩ 1 1 1 rfl rfl ?hm R2 99 HG2.out XS ?hn ?hsrc ?hfit X1.out ?next)
  case hm => exact Nat.min_eq_left (by omega)
  case hn => rw [XL.out, hz1]
  case hsrc => intro j u hu; rw [Addr.add_lit]; exact CX2.out j u hu
  case hfit => rw [XL.out, L2.out]; exact F1.out.2
  case next =>
    intro w3 HG3 HF3
    go_wp2
    go_ret
    refine ⟨_, rfl, ?_, ?_, fun k hk => .inl hk⟩
    · have hl2 : (l.take i ++ x :: l.drop i).length = n + 1 := by
        have := HN.out
        simp only [List.length_append, List.length_cons, List.length_take, List.length_drop]
        omega
      have hR3 : (splice R2 (i * 3) XS).length = R2.length := length_splice _ _ _ (by rw [XL.out, L2.out]; exact F1.out.2)
      rw [← hl2]
      refine ownK_row HG3.out BG.out (by rw [hl2]; exact hc) CM.out (by rw [hR3, L2.out, RL.out]; rfl) ?_
      rw [hl2, HR2.out, HN.out, HXS.out, HLD.out]
      exact ins_shift (E := encCu) x (by have := HN.out; omega) (by rw [RL.out, ← HN.out]; show (n + 1) * 3 ≤ _; omega) RT.out
    · exact ((Fo.refl _ w).drew.trans (HF2.out.trans HF3.out)).mono (fun k hk => by rw [hk]; rfl)

theorem cinsert_any {v : Value} {l : List Cu} {i : Nat} {x : Cu} {xb : Nat} {w : World} {B : Nat} (h : OwnK encCu w B 99 v l) (hB : B ≤ w.heap.size) (hx : w.heap[xb]? = some (.cells x.cs 99 (0, 0))) (hxg : v.ownBlock ≠ some xb) (hi : i ≤ l.length) (hl : l.length ≤ 1000) :
    Calls Tryz.prog 135 #[v, .int .i64 i, .slice (some ⟨xb, 0, none⟩) 1 1] w (InsPost w B v l i x) := by
  by_cases he : i = l.length
  · subst he
    exact cinsert_end v l x xb w B h hB hx hl
  · rcases id h.2 with ⟨rfl, h0⟩ | ⟨g, cap, cur, rfl, _, _, hnc, _, _, _⟩
    · omega
    · by_cases hc : l.length + 1 ≤ cap
      · exact cinsert_shift g _ cap l i x xb w B rfl h hx (fun e => hxg (by rw [e]; rfl)) (by omega) hc hl
      · obtain rfl : cap = l.length := by omega
        exact cinsert_grow g _ l i x xb w B rfl h hB hx (by omega) hl

end Go.Proofs.YticiofkiffgclaaGreat

namespace Go.Proofs.YticiofkiffgclaaGreat
set_option linter.unusedVariables false
open Go.RowKit

set_option maxHeartbeats 1000000 in
set_option maxRecDepth 100000 in
theorem cclone_any (v : Value) (m : List Cu) (w : World) (h : RdK encCu w v m) (hl : m.length ≤ 1000) :
    Calls Tryz.prog 103 #[v] w fun e w' => ∃ v', e = .returned v' ∧ OwnK encCu w' w.heap.size 99 v' m ∧ Kept w w' [] := by
  obtain ⟨i0, hi, hz0, hz1, hz2⟩ := info_parts Tryz.infoCu
  obtain ⟨a, c, rfl, hc, ha, hcell⟩ := id h
  have H := Lib.hid h; clear h hcell
  have q22 : ∀ (w : World) (a : Option Addr) (n c n' c' : Nat), (binOp .eql 93 (.slice a n c) (.slice none n' c')).run Tryz.prog w = .ok (.bool a.isNone) w := fun w a n c n' c' => Lib.run_eql_slice_nil w _ _ a n c n' c' Tryz.underlying93
  cases a with
  | none =>
    obtain rfl := ha rfl
    obtain rfl : m = [] := List.eq_nil_of_length_eq_zero (by omega)
    clear ha
    go_enter Tryz.func103, Tryz.ntmps103
    go_wp2
    go_ret
    exact ⟨_, rfl, OwnK.nil _ _ _, Kept.refl _ _⟩
  | some x =>
    clear ha
    go_enter Tryz.func103, Tryz.ntmps103
    go_wp2_with (at_builtin; refine wpList_append_src _ rfl (.tmp 5) (.tmp 6) 93 93 rfl w.heap.size 99 i0 _ 3 32 Tryz.underlying93 hi hz0 hz1 hz2 rfl (.slice (some ⟨w.heap.size, 0, none⟩) 0 0) 0 [] rfl ?hown (.slice (some x) m.length c) m.length (kcs encCu m) rfl ?src ?b1 ?b2 ?base ?next)
    case hown => exact World.ownsRow_made w #[] 0 (Nat.le_refl _) (Nat.zero_le _) (by simp)
    case src => exact (H.out.keep ((Kept.refl w []).alloc _)).src Tryz.underlying93
    case b1 => unfold maxLen; omega
    case b2 => omega
    case base => simp
    case next =>
      intro v2 w2 hown hgrow _ _
      have ho : OwnK encCu w2 w.heap.size 99 v2 m := by unfold OwnK; show w2.ownsRow _ _ 3 _ _ _; simpa using hown
      have hk : Kept w w2 [] := ((Kept.refl w []).alloc _).grown hgrow (fun k hk => .inr (by simp [Value.ownBlock] at hk; omega))
      have Ho := Lib.hid ho; have Hk := Lib.hid hk
      clear ho hk hown hgrow
      go_wp2
      go_ret
      exact ⟨_, rfl, Ho.out, Hk.out⟩

end Go.Proofs.YticiofkiffgclaaGreat
