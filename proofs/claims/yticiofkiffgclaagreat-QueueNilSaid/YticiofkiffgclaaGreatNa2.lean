/-
  Cui, Cuj, Cuc, Cud, Cue, Rtf in one text.
-/
import Derived.Test.YticiofkiffgclaaGreatNa1
import Derived.Deep.RegionLaw
import Derived.Test.YticiofkiffgclaaGreatNa0
import Derived.Test.YticiofkiffgclaaGreatRows
import Derived.LoopTactic
import Derived.Deep.QuietTactic
import Derived.BigQuiet
import Derived.RegionTactic
import Derived.Lib.SliceRun
import Derived.Shelf.Abstract
import Derived.Deep.DeepCutAuto
import Derived.Deep.RegionHeld3
namespace Go.Proofs.YticiofkiffgclaaGreat
set_option linter.unusedVariables false
open Go.RowKit

theorem Tryz.infoCu : (Tryz.prog.info? 99).map (fun i => (i.zero, i.size, i.bytes)) = some (some (.agg #[.string ⟨#[]⟩, .int .i64 0, .int .i64 0]), 3, 32) := by kernel_rfl

def InsPost (w : World) (B : Nat) (v : Value) (l : List Cu) (i : Nat) (x : Cu) (e : Ending) (w' : World) : Prop :=
  ∃ v', e = .returned v' ∧ OwnK encCu w' B 99 v' (l.take i ++ x :: l.drop i) ∧ Fo (fun k => v.ownBlock = some k) w w' ∧ ∀ k, v'.ownBlock = some k → v.ownBlock = some k ∨ w.heap.size ≤ k

theorem src_x {w : World} {xb : Nat} {x : Cu} (hx : w.heap[xb]? = some (.cells x.cs 99 (0, 0))) : Src Tryz.prog 3 93 (.slice (some ⟨xb, 0, none⟩) 1 1) 1 x.cs.toList w := by
  have := (rdK_one (E := encCu) (x := x) hx).src (P := Tryz.prog) (tx := 93) Tryz.underlying93
  rw [kcs_single] at this
  exact this

set_option maxHeartbeats 1000000 in
set_option maxRecDepth 100000 in
theorem cinsert_end (v : Value) (l : List Cu) (x : Cu) (xb : Nat) (w : World) (B : Nat) (h : OwnK encCu w B 99 v l) (hB : B ≤ w.heap.size) (hx : w.heap[xb]? = some (.cells x.cs 99 (0, 0))) (hl : l.length ≤ 1000) :
    Calls Tryz.prog 135 #[v, .int .i64 l.length, .slice (some ⟨xb, 0, none⟩) 1 1] w (InsPost w B v l l.length x) := by
  obtain ⟨i0, hi0, hz0, hz1, hz2⟩ := info_parts Tryz.infoCu
  have SRC := Lib.hid (src_x hx)
  have H := Lib.hid h
  have fin : ∀ v2 w2, w2.ownsRow B 99 3 v2 (l.length + 1) (kcs encCu l ++ x.cs.toList) → w.grownBy w2 v.ownBlock → (v2.ownBlock = v.ownBlock ∨ ∃ g, v2.ownBlock = some g ∧ w.heap.size ≤ g) → InsPost w B v l l.length x (.returned v2) w2 := by
    intro v2 w2 ho hg hp
    refine ⟨v2, rfl, ?_, (Fo.refl _ w).grown hg (fun k hk => .inl hk), fun k hk => ?_⟩
    · rw [List.take_length, List.drop_length]; exact ownK_snoc ho
    · rcases hp with hp | ⟨g, hg, hgs⟩
      · exact .inl (by rw [← hp]; exact hk)
      · rw [hg] at hk; cases hk; exact .inr hgs
  have FIN := Lib.hid fin
  rcases h.2 with ⟨rfl, h0⟩ | ⟨g, cap, cur, rfl, _, _, hnc, _, _, _⟩
  · obtain rfl : l = [] := List.eq_nil_of_length_eq_zero h0
    clear h hx fin
    simp only [List.length_nil] at *
    go_enter Tryz.func135, Tryz.ntmps135
    go_wp2_with (at_builtin; refine wpList_append_all _ rfl (.tmp 23) (.tmp 24) 93 93 rfl B 99 i0 _ 3 32 Tryz.underlying93 hi0 hz0 hz1 hz2 rfl (.slice none 0 0) 0 [] rfl H.out (.slice (some ⟨xb, 0, none⟩) 1 1) 1 x.cs.toList rfl SRC.out ?b1 ?b2 hB ?next)
    case b1 => unfold maxLen; omega
    case b2 => omega
    case next =>
      intro v2 w2 hown _ hgrow hpl
      have F := Lib.hid (FIN.out v2 w2 hown hgrow hpl)
      clear hown hgrow hpl
      go_wp2
      go_ret
      exact F.out
  · clear h hx fin
    by_cases hcl : cap = l.length
    · subst hcl
      go_enter Tryz.func135, Tryz.ntmps135
      go_wp2_with (at_builtin; refine wpList_append_all _ rfl (.tmp 23) (.tmp 24) 93 93 rfl B 99 i0 _ 3 32 Tryz.underlying93 hi0 hz0 hz1 hz2 rfl (.slice (some ⟨g, 0, none⟩) l.length l.length) l.length (kcs encCu l) rfl H.out (.slice (some ⟨xb, 0, none⟩) 1 1) 1 x.cs.toList rfl SRC.out ?b1 ?b2 hB ?next)
      case b1 => unfold maxLen; omega
      case b2 => omega
      case next =>
        intro v2 w2 hown _ hgrow hpl
        have F := Lib.hid (FIN.out v2 w2 hown hgrow hpl)
        clear hown hgrow hpl
        go_wp2
        go_ret
        exact F.out
    · go_enter Tryz.func135, Tryz.ntmps135
      go_wp2_with (at_builtin; refine wpList_append_all _ rfl (.tmp 23) (.tmp 24) 93 93 rfl B 99 i0 _ 3 32 Tryz.underlying93 hi0 hz0 hz1 hz2 rfl (.slice (some ⟨g, 0, none⟩) l.length cap) l.length (kcs encCu l) rfl H.out (.slice (some ⟨xb, 0, none⟩) 1 1) 1 x.cs.toList rfl SRC.out ?b1 ?b2 hB ?next)
      case b1 => unfold maxLen; omega
      case b2 => omega
      case next =>
        intro v2 w2 hown _ hgrow hpl
        have F := Lib.hid (FIN.out v2 w2 hown hgrow hpl)
        clear hown hgrow hpl
        go_wp2
        go_ret
        exact F.out

end Go.Proofs.YticiofkiffgclaaGreat

namespace Go.Proofs.YticiofkiffgclaaGreat
set_option linter.unusedVariables false
open Go.RowKit

set_option maxHeartbeats 4000000 in
set_option maxRecDepth 100000 in
theorem cinsert_grow (g n : Nat) (l : List Cu) (i : Nat) (x : Cu) (xb : Nat) (w : World) (B : Nat) (hn : n = l.length) (h : OwnK encCu w B 99 (.slice (some ⟨g, 0, none⟩) n n) l) (hB : B ≤ w.heap.size) (hx : w.heap[xb]? = some (.cells x.cs 99 (0, 0))) (hi : i < n) (hl : n ≤ 1000) :
    Calls Tryz.prog 135 #[.slice (some ⟨g, 0, none⟩) n n, .int .i64 i, .slice (some ⟨xb, 0, none⟩) 1 1] w (InsPost w B (.slice (some ⟨g, 0, none⟩) n n) l i x) := by
  obtain ⟨i0, hi0, hz0, hz1, hz2⟩ := info_parts Tryz.infoCu
  have hcell : ∀ j u, (kcs encCu l)[j]? = some u → w.cell? ⟨g, j, none⟩ = some u := fun j u hu => by
    have := World.ownsRow.cells h (g := g) rfl j u hu
    simpa [Addr.add_lit] using this
  have hil : i ≤ l.length := by omega
  have hold : (Builtin.firstCells i0.size i (.slice (some ⟨g, 0, none⟩) i n)).run Tryz.prog w.drew = .ok (kcs encCu (l.take i)).toArray w.drew := by
    rw [hz1]
    refine run_firstCells_some w.drew 3 i ⟨g, 0, none⟩ i n (kcs encCu (l.take i)) (by rw [kcs_length, List.length_take, Nat.min_eq_left hil]; rfl) (fun j u hj => ?_)
    rw [kcs_take encCu l i hil, List.getElem?_take] at hj
    split at hj
    · rw [Addr.add_lit, Nat.zero_add]; exact hcell j u hj
    · cases hj
  obtain ⟨G, hG⟩ : ∃ G, G = grownCap w (n + 1) n 99 := ⟨_, rfl⟩
  have hGn : n + 1 ≤ G := by rw [hG]; exact grownCap_ge w _ _ _
  have hGm : G ≤ maxLen := by rw [hG]; exact grownCap_le_maxLen w (n + 1) n 99 (by unfold maxLen; omega)
  obtain ⟨R, hRl, hRt, hrz⟩ : ∃ R : List Value, R.length = G * 3 ∧ R.take (i * 3) = kcs encCu (l.take i) ∧ ∀ ty, (Builtin.append_ #[93, 3] ty #[.slice (some ⟨g, 0, none⟩) i n, .int .i64 ((n : Int) + 1 - (i : Int))]).run Tryz.prog w =
      .ok (.slice (some ⟨w.heap.size, 0, none⟩) (n + 1) G) (w.drew.alloc (.cells R.toArray 99)) := by
    have hik : i + (n + 1 - i) = n + 1 := by omega
    have hkk : (n : Int) + 1 - (i : Int) = ((n + 1 - i : Nat) : Int) := by omega
    have hk3 : (kcs encCu (l.take i)).length = i * 3 := by rw [kcs_length, List.length_take, Nat.min_eq_left hil]; rfl
    refine ⟨kcs encCu (l.take i) ++ (Builtin.zeroCells (Value.agg #[.string ⟨#[]⟩, .int .i64 0, .int .i64 0]).cells (n + 1 - i)).toList ++ (Builtin.zeroCells (Value.agg #[.string ⟨#[]⟩, .int .i64 0, .int .i64 0]).cells (G - (n + 1))).toList, ?_, ?_, fun ty => ?_⟩
    · have hzc : (Value.agg #[.string ⟨#[]⟩, .int .i64 0, .int .i64 0]).cells.size = 3 := rfl
      simp only [List.length_append, hk3, Array.length_toList, Builtin.zeroCells, Array.size_map, Array.size_range, hzc]
      omega
    · rw [List.append_assoc]
      exact List.take_left' hk3
    · have hh := Lib.run_append_grow_zeros w 93 3 ty 99 i0 _ .i64 .i64 Tryz.underlying93 Tryz.underlying3 hi0 hz0 (some ⟨g, 0, none⟩) i n (kcs encCu (l.take i)) hold (n + 1 - i) (by omega) (by omega) (by omega) (by omega) (by rw [hz2]; omega) (by rw [hz2, hik]; exact growslice_fits (by omega) (by omega))
      rw [hik, ← hG] at hh
      rw [hkk, hh]
      congr 3
      apply Array.toList_inj.1
      simp
  have hcx : ∀ j u, x.cs.toList[j]? = some u → w.cell? ⟨xb, 0 + j, none⟩ = some u := fun j u hu => by
    rw [cell_of_row _ _ _ _ _ _ hx, Nat.zero_add]
    simpa using hu
  obtain ⟨z, hz⟩ : ∃ z, z = w.heap.size := ⟨_, rfl⟩
  have hxz : xb < z := by rw [hz]; exact heap_lt hx
  have hgz : g < z := by rw [hz]; exact (h.lt g rfl).2
  obtain ⟨W1, hW1⟩ : ∃ W1, W1 = w.drew.alloc (.cells R.toArray 99) := ⟨_, rfl⟩
  have H1 : W1.heap[z]? = some (.cells R.toArray 99 (0, 0)) := by rw [hW1, hz]; exact heap_alloc_new w.drew _
  have K1 : Kept w W1 [] := by rw [hW1]; exact ((Kept.refl w []).drew).alloc _
  rw [← hz, ← hW1] at hrz
  have KH1 := Lib.hid K1; have HH1 := Lib.hid H1; have HZ := Lib.hid hz; have CX := Lib.hid hcx; have CL := Lib.hid hcell; have RT := Lib.hid hRt; have RL := Lib.hid hRl
  have HN := Lib.hid hn; have BB := Lib.hid hB; have GM := Lib.hid hGm
  have X1 : RowKit.Hid (∀ u ∈ x.cs.toList, u.oneCell' = true) := Lib.hid (encCu.one x)
  have XL : RowKit.Hid (x.cs.toList.length = 3) := Lib.hid (by rw [Array.length_toList]; exact encCu.size x)
  have F1 : RowKit.Hid (i * 3 + 3 ≤ R.length ∧ (n + 1) * 3 ≤ R.length) := Lib.hid (by rw [hRl]; omega)
  obtain ⟨XS, hXS⟩ : ∃ XS, XS = x.cs.toList := ⟨_, rfl⟩
  have HXS := Lib.hid hXS
  obtain ⟨LD, hLD⟩ : ∃ LD, LD = kcs encCu (l.drop i) := ⟨_, rfl⟩
  have HLD := Lib.hid hLD
  have LDL : RowKit.Hid (LD.length = (n - i) * 3) := Lib.hid (by rw [hLD, kcs_length, List.length_drop, ← hn]; rfl)
  have LD1 : RowKit.Hid (∀ u ∈ LD, u.oneCell' = true) := Lib.hid (by rw [hLD]; exact kcs_one encCu _)
  have LDC : RowKit.Hid (∀ j u, LD[j]? = some u → w.cell? ⟨g, i * 3 + j, none⟩ = some u) := Lib.hid (fun j u hj => by
    rw [hLD, kcs_drop encCu l i hil, List.getElem?_drop] at hj
    exact hcell _ u hj)
  rw [← hXS] at X1 XL CX
  have HG := Lib.hid hG
  have hGi : ¬ (G = i) := by omega
  have hGim : ¬ (G = i + 1) := by omega
  have hci : ¬ (n = i) := by omega
  have hw1 : IntKind.i64.wrap ((i : Int) + 1) = (i : Int) + 1 := by rw [IntKind.wrap_i64]; omega
  have hb1 : (0 : Int) ≤ (i : Int) + 1 := by omega
  have htn : ((i : Int) + 1).toNat = i + 1 := by omega
  have hin : i ≤ n := by omega
  have hin1 : (i : Int) ≤ (n : Int) := by omega
  have hz1' : ¬ ((i : Int) = (n : Int)) := by omega
  have HRZ := Lib.hid hrz
  clear h hx hold hrz hRl hRt hG hcx hcell hn hz hW1 H1 K1 hB hGm hXS hLD hil
  go_enter Tryz.func135, Tryz.ntmps135
  go_wp2_with (first
    | (at_builtin; refine Lib.wpList_append_run _ rfl _ _ _ _ rfl _ _ rfl rfl _ _ (HRZ.out _) ?_)
    | (refine wpList_copy_k rfl (.tmp 43) (.tmp 44) 93 93 rfl 99 i0 Tryz.underlying93 hi0 z (i * 3) _ _ ⟨xb, 0, none⟩ 1 1 1 rfl rfl ?hm R 99 HH1.out XS ?hn ?hsrc ?hfit X1.out ?next))
  case hm => exact Nat.min_eq_left (by omega)
  case hn => rw [XL.out, hz1]
  case hsrc => intro j u hu; rw [Addr.add_lit]; exact KH1.out.cell (by simp) (CX.out j u hu)
  case hfit => rw [XL.out]; exact F1.out.1
  case next =>
    intro w2 HG2 HF2
    have L2 : RowKit.Hid ((splice R (i * 3) XS).length = R.length) := Lib.hid (length_splice _ _ _ (by rw [XL.out]; exact F1.out.1))
    obtain ⟨R2, hR2⟩ : ∃ R2, R2 = splice R (i * 3) XS := ⟨_, rfl⟩
    rw [← hR2] at HG2 L2
    have HR2 := Lib.hid hR2
    clear hR2
    have LC2 : RowKit.Hid (∀ j u, LD[j]? = some u → w2.cell? ⟨g, i * 3 + j, none⟩ = some u) := Lib.hid (fun j u hj => by
      have h1 := KH1.out.cell (by simp) (LDC.out j u hj)
      rw [World.cell?_of_block (HF2.out.block g (World.block_lt_of_cell? _ _ h1) (by omega))]
      exact h1)
    go_wp2_with fail
    go_region_law (refine step_copy_k rfl (.tmp 50) (.tmp 53) 93 93 rfl 99 i0 Tryz.underlying93 hi0 z ((i + 1) * 3) (n + 1 - (i + 1)) (G - (i + 1)) ⟨g, i * 3, none⟩ (n - i) (n - i) (n - i) (by simp [Act.eval, Act.put]) (by simp [Act.eval, Act.put]) (by rw [show n + 1 - (i + 1) = n - i by omega]; exact Nat.min_self _) R2 99 HG2.out LD (by rw [LDL.out, hz1]) (fun j u hu => by rw [Addr.add_lit]; exact LC2.out j u hu) (by rw [LDL.out, L2.out, RL.out]; omega) LD1.out ?_; intro w3 HG3 HF3)
    go_wp2
    go_ret
    refine ⟨_, rfl, ?_, ?_, fun k hk => .inr (by cases hk; rw [HZ.out]; exact Nat.le_refl _)⟩
    · have hl2 : (l.take i ++ x :: l.drop i).length = n + 1 := by
        have := HN.out
        simp only [List.length_append, List.length_cons, List.length_take, List.length_drop]
        omega
      have hR3 : (splice R2 ((i + 1) * 3) LD).length = R2.length := length_splice _ _ _ (by rw [LDL.out, L2.out, RL.out]; omega)
      rw [← hl2]
      refine ownK_row HG3.out (by have := BB.out; have := HZ.out; omega) (by rw [hl2]; exact hGn) GM.out (by rw [hR3, L2.out, RL.out]; rfl) ?_
      rw [hl2, HR2.out, HN.out, HXS.out, HLD.out]
      exact ins_grow (E := encCu) x (by have := HN.out; omega) (by rw [RL.out, ← HN.out]; show (n + 1) * 3 ≤ _; omega) RT.out
    · have hz := HZ.out
      have f := (Fo.ofKept KH1.out (fun k => k = z)).trans (HF2.out.drew.trans HF3.out)
      exact ⟨f.os, f.tape, f.output, f.size, fun k hk _ => f.block k hk (by omega)⟩

set_option maxHeartbeats 4000000 in
set_option maxRecDepth 100000 in
theorem cinsert_shift (g n c : Nat) (l : List Cu) (i : Nat) (x : Cu) (xb : Nat) (w : World) (B : Nat) (hn : n = l.length) (h : OwnK encCu w B 99 (.slice (some ⟨g, 0, none⟩) n c) l) (hx : w.heap[xb]? = some (.cells x.cs 99 (0, 0))) (hxg : xb ≠ g) (hi : i < n) (hc : n + 1 ≤ c) (hl : n ≤ 1000) :
    Calls Tryz.prog 135 #[.slice (some ⟨g, 0, none⟩) n c, .int .i64 i, .slice (some ⟨xb, 0, none⟩) 1 1] w (InsPost w B (.slice (some ⟨g, 0, none⟩) n c) l i x) := by
  obtain ⟨i0, hi0, hz0, hz1, hz2⟩ := info_parts Tryz.infoCu
  have hcell : ∀ j u, (kcs encCu l)[j]? = some u → w.cell? ⟨g, j, none⟩ = some u := fun j u hu => by
    have := World.ownsRow.cells h (g := g) rfl j u hu
    simpa [Addr.add_lit] using this
  have hil : i ≤ l.length := by omega
  obtain ⟨R, hR, hBg, -, hlc, hcm, hRl, hRt⟩ := h.row
  have hcx : ∀ j u, x.cs.toList[j]? = some u → w.cell? ⟨xb, 0 + j, none⟩ = some u := fun j u hu => by
    rw [cell_of_row _ _ _ _ _ _ hx, Nat.zero_add]
    simpa using hu
  have hrl3 : R.length = c * 3 := hRl
  have HH1 := Lib.hid hR; have CX := Lib.hid hcx; have RT := Lib.hid hRt; have RL := Lib.hid hrl3
  have HN := Lib.hid hn; have BG := Lib.hid hBg; have CM := Lib.hid hcm
  have X1 : RowKit.Hid (∀ u ∈ x.cs.toList, u.oneCell' = true) := Lib.hid (encCu.one x)
  have XL : RowKit.Hid (x.cs.toList.length = 3) := Lib.hid (by rw [Array.length_toList]; exact encCu.size x)
  obtain ⟨XS, hXS⟩ : ∃ XS, XS = x.cs.toList := ⟨_, rfl⟩
  have HXS := Lib.hid hXS
  obtain ⟨LD, hLD⟩ : ∃ LD, LD = kcs encCu (l.drop i) := ⟨_, rfl⟩
  have HLD := Lib.hid hLD
  have LDL : RowKit.Hid (LD.length = (n - i) * 3) := Lib.hid (by rw [hLD, kcs_length, List.length_drop, ← hn]; rfl)
  have LD1 : RowKit.Hid (∀ u ∈ LD, u.oneCell' = true) := Lib.hid (by rw [hLD]; exact kcs_one encCu _)
  have LDC : RowKit.Hid (∀ j u, LD[j]? = some u → w.cell? ⟨g, i * 3 + j, none⟩ = some u) := Lib.hid (fun j u hj => by
    rw [hLD, kcs_drop encCu l i hil, List.getElem?_drop] at hj
    exact hcell _ u hj)
  rw [← hXS] at X1 XL CX
  have hov : ∀ lb cb, (callFunc 179 #[.slice (some ⟨xb, 0, none⟩) 1 1, .slice (some ⟨g, (i + 1) * 3, none⟩) lb cb]).run Tryz.prog w = .ok (.value (.bool false)) w := fun lb cb => by
    have hsh : ∀ {b : Nat} {cs : Array Value}, w.heap[b]? = some (.cells cs 99 (0, 0)) → w.shape? b = some (99, cs.size) := fun {b cs} hb => by simp [World.shape?, hb]
    rw [run_callFunc_extern Tryz.func179 (by kernel_rfl) (by kernel_rfl) (by kernel_rfl) (e := Extern.SlicesOverlaps.overlaps #[93, 93] #[4]) (by kernel_rfl),
      Lib.run_overlaps_apart w 93 4 99 Tryz.underlying93 3 (fun w => Tryz.sizeOf99 w) ⟨xb, 0, none⟩ ⟨g, (i + 1) * 3, none⟩ 1 1 lb cb hxg 99 99 _ _ (hsh hx) (hsh hR) (by rw [List.size_toArray, hrl3]; omega) (frozen_of_row _ _ _ _ _ hx) (frozen_of_row _ _ _ _ _ hx)]
    rfl
  have HOV := Lib.hid hov
  have F1 : RowKit.Hid ((i + 1) * 3 + (n - i) * 3 ≤ R.length ∧ i * 3 + 3 ≤ R.length) := Lib.hid (by rw [hrl3]; omega)
  have hgx := Lib.hid (show xb ≠ g from hxg)
  have hGi : ¬ (c = i) := by omega
  have hGim : ¬ (c = i + 1) := by omega
  have hw1 : IntKind.i64.wrap ((i : Int) + 1) = (i : Int) + 1 := by rw [IntKind.wrap_i64]; omega
  have hb1 : (0 : Int) ≤ (i : Int) + 1 := by omega
  have htn : ((i : Int) + 1).toNat = i + 1 := by omega
  have htn2 : ((n : Int) + 1).toNat = n + 1 := by omega
  have hin : i ≤ n := by omega
  have hin1 : (i : Int) ≤ (n : Int) := by omega
  have hin2 : (i : Int) ≤ (n : Int) + 1 := by omega
  have hz1' : ¬ ((i : Int) = (n : Int)) := by omega
  have hcc : ¬ ((c : Int) < (n : Int) + 1) := by omega
  have hcm63 : c ≤ 9223372036854775807 := by unfold maxLen at hcm; omega
  clear h hx hRl hrl3 hRt hcx hcell hn hXS hLD hil hR hBg hcm hlc hxg
  go_enter Tryz.func135, Tryz.ntmps135
  go_wp2_with (simp only [hov])
  clear hov
  go_region_law (refine step_copy_k rfl (.tmp 73) (.tmp 76) 93 93 rfl 99 i0 Tryz.underlying93 hi0 g ((i + 1) * 3) (n + 1 - (i + 1)) (c - (i + 1)) ⟨g, i * 3, none⟩ (n + 1 - i) (c - i) (n - i) (by simp [Act.eval, Act.put]) (by simp [Act.eval, Act.put]) (by rw [show n + 1 - (i + 1) = n - i by omega]; exact Nat.min_eq_right (by omega)) R 99 HH1.out LD (by rw [LDL.out, hz1]) (fun j u hu => by rw [Addr.add_lit]; exact LDC.out j u hu) (by rw [LDL.out]; exact F1.out.1) LD1.out ?_; intro w2 HG2 HF2)
  have L2 : RowKit.Hid ((splice R ((i + 1) * 3) LD).length = R.length) := Lib.hid (length_splice _ _ _ (by rw [LDL.out]; exact F1.out.1))
  obtain ⟨R2, hR2⟩ : ∃ R2, R2 = splice R ((i + 1) * 3) LD := ⟨_, rfl⟩
  rw [← hR2] at HG2 L2
  have HR2 := Lib.hid hR2
  clear hR2
  have CX2 : RowKit.Hid (∀ j u, XS[j]? = some u → w2.cell? ⟨xb, 0 + j, none⟩ = some u) := Lib.hid (fun j u hj => by
    have h1 := CX.out j u hj
    rw [World.cell?_of_block (HF2.out.block xb (World.block_lt_of_cell? _ _ h1) (fun e => hgx.out e))]
    exact h1)
  go_wp2_with (refine wpList_copy_k rfl (.tmp 80) (.tmp 81) 93 93 rfl 99 i0 Tryz.underlying93 hi0 g (i * 3) _ _ ⟨xb, 0, none⟩ 1 1 1 rfl rfl ?hm R2 99 HG2.out XS ?hn ?hsrc ?hfit X1.out ?next)
  case hm => exact Nat.min_eq_left (by omega)
  case hn => rw [XL.out, hz1]
  case hsrc => intro j u hu; rw [Addr.add_lit]; exact CX2.out j u hu
  case hfit => rw [XL.out, L2.out]; exact F1.out.2
  case next =>
    intro w3 HG3 HF3
    go_wp2
    go_ret
    refine ⟨_, rfl, ?_, ?_, fun k hk => .inl hk⟩
    · have hl2 : (l.take i ++ x :: l.drop i).length = n + 1 := by
        have := HN.out
        simp only [List.length_append, List.length_cons, List.length_take, List.length_drop]
        omega
      have hR3 : (splice R2 (i * 3) XS).length = R2.length := length_splice _ _ _ (by rw [XL.out, L2.out]; exact F1.out.2)
      rw [← hl2]
      refine ownK_row HG3.out BG.out (by rw [hl2]; exact hc) CM.out (by rw [hR3, L2.out, RL.out]; rfl) ?_
      rw [hl2, HR2.out, HN.out, HXS.out, HLD.out]
      exact ins_shift (E := encCu) x (by have := HN.out; omega) (by rw [RL.out, ← HN.out]; show (n + 1) * 3 ≤ _; omega) RT.out
    · exact ((Fo.refl _ w).drew.trans (HF2.out.trans HF3.out)).mono (fun k hk => by rw [hk]; rfl)

theorem cinsert_any {v : Value} {l : List Cu} {i : Nat} {x : Cu} {xb : Nat} {w : World} {B : Nat} (h : OwnK encCu w B 99 v l) (hB : B ≤ w.heap.size) (hx : w.heap[xb]? = some (.cells x.cs 99 (0, 0))) (hxg : v.ownBlock ≠ some xb) (hi : i ≤ l.length) (hl : l.length ≤ 1000) :
    Calls Tryz.prog 135 #[v, .int .i64 i, .slice (some ⟨xb, 0, none⟩) 1 1] w (InsPost w B v l i x) := by
  by_cases he : i = l.length
  · subst he
    exact cinsert_end v l x xb w B h hB hx hl
  · rcases id h.2 with ⟨rfl, h0⟩ | ⟨g, cap, cur, rfl, _, _, hnc, _, _, _⟩
    · omega
    · by_cases hc : l.length + 1 ≤ cap
      · exact cinsert_shift g _ cap l i x xb w B rfl h hx (fun e => hxg (by rw [e]; rfl)) (by omega) hc hl
      · obtain rfl : cap = l.length := by omega
        exact cinsert_grow g _ l i x xb w B rfl h hB hx (by omega) hl

end Go.Proofs.YticiofkiffgclaaGreat

namespace Go.Proofs.YticiofkiffgclaaGreat
set_option linter.unusedVariables false
open Go.RowKit

theorem ahd_spec : ∀ {l : List Cu} (h : Nms l) (n : ByteArray), (∀ j y, j < ahd l n → l[j]? = some y → ltN y.nm n = true) ∧ (∀ j y, ahd l n ≤ j → l[j]? = some y → ltN y.nm n = false)
  | [], _, n => ⟨fun j y _ hy => by simp at hy, fun j y _ hy => by simp at hy⟩
  | x :: t, h, n => by
    obtain ⟨hx, ht⟩ := List.pairwise_cons.1 h
    obtain ⟨i1, i2⟩ := ahd_spec ht n
    cases hc : ltN x.nm n with
    | true =>
      have e : ahd (x :: t) n = ahd t n + 1 := by rw [ahd, List.countP_cons_of_pos (by exact hc)]; rfl
      rw [e]
      refine ⟨fun j y hj hy => ?_, fun j y hj hy => ?_⟩
      · cases j with
        | zero => simp at hy; subst hy; exact hc
        | succ j => exact i1 j y (by omega) (by simpa using hy)
      · cases j with
        | zero => omega
        | succ j => exact i2 j y (by omega) (by simpa using hy)
    | false =>
      have hn : ∀ y ∈ t, ltN y.nm n = false := fun y hy => by
        cases hk : ltN y.nm n with
        | false => rfl
        | true =>
          have := bl_trans _ _ _ (hx y hy) hk
          rw [ltN] at hc
          rw [hc] at this
          cases this
      have e : ahd (x :: t) n = 0 := by
        rw [ahd, List.countP_eq_zero]
        intro y hy
        rcases List.mem_cons.1 hy with rfl | hy
        · rw [hc]; decide
        · rw [hn y hy]; decide
      rw [e]
      refine ⟨fun j y hj _ => by omega, fun j y _ hy => ?_⟩
      rcases List.mem_cons.1 (List.mem_of_getElem? hy) with rfl | hy
      · exact hc
      · exact hn y hy

theorem ins_ahd {l : List Cu} (h : Nms l) {x : Cu} (hp : plc l x.nm = none) : l.take (ahd l x.nm) ++ x :: l.drop (ahd l x.nm) = insC x l := by
  obtain ⟨h1, h2⟩ := ahd_spec h x.nm
  refine insC_at h (ahd_le l x.nm) (fun j y hj hy => ?_) (fun y h0 hy => bl_asymm (h1 _ y (by omega) hy))
  have h3 := h2 j y hj hy
  cases hc : ltN x.nm y.nm with
  | true => rfl
  | false => exact absurd (toList_inj (bl_tri _ _ h3 hc)) (plc_none hp y (List.mem_of_getElem? hy))

structure Cc (T e : TypeId) (w : World) (B h : Nat) (V : Value) (l : List Cu) : Prop where
  hh : w.heap[h]? = some (.cells #[V] T (0, 0))
  bh : B ≤ h
  hT : T ≠ e
  own : OwnK encCu w B e V l

def cfoot (h : Nat) (V : Value) : Nat → Prop := fun k => k = h ∨ V.ownBlock = some k

variable {T e : TypeId} {w w' : World} {B h : Nat} {V : Value} {l : List Cu}

theorem Cc.cell (a : Cc T e w B h V l) : w.cell? ⟨h, 0, none⟩ = some V ∧ w.frozen? ⟨h, 0, none⟩ = false :=
  ⟨by rw [cell_of_row _ _ _ _ _ _ a.hh]; rfl, frozen_of_row _ _ _ _ _ a.hh⟩
theorem Cc.lt (a : Cc T e w B h V l) : ∀ k, cfoot h V k → B ≤ k ∧ k < w.heap.size := by
  rintro k (rfl | hk)
  · exact ⟨a.bh, heap_lt a.hh⟩
  · exact a.own.lt k hk
theorem Cc.size (a : Cc T e w B h V l) : B ≤ w.heap.size := by have := heap_lt a.hh; have := a.bh; omega
theorem Cc.shape (a : Cc T e w B h V l) : ∃ u c, V = .slice u l.length c := a.own.shape
theorem Cc.apart (a : Cc T e w B h V l) : V.ownBlock ≠ some h := a.own.apart a.hh a.hT
theorem Cc.fo (a : Cc T e w B h V l) {O : Nat → Prop} (hf : Fo O w w') (hd : ∀ k, cfoot h V k → ¬ O k) : Cc T e w' B h V l :=
  ⟨hf.heap (hd h (.inl rfl)) a.hh, a.bh, a.hT, a.own.fo hf (fun g hg => hd g (.inr hg))⟩
theorem Cc.keep (a : Cc T e w B h V l) (hk : Kept w w' []) : Cc T e w' B h V l := a.fo (Fo.ofKept hk (fun _ => False)) (fun _ _ h => h)

theorem Cc.lay (a : Cc T e w B h V l) {w1 : World} (f : Fo (fun k => V.ownBlock = some k) w w1) {v : Value} {m : List Cu} (x : OwnK encCu w1 B e v m) (hv : ∀ k, v.ownBlock = some k → V.ownBlock = some k ∨ w.heap.size ≤ k) :
    (w1.cell? ⟨h, 0, none⟩ = some V ∧ w1.frozen? ⟨h, 0, none⟩ = false) ∧ Cc T e (w1.setCell ⟨h, 0, none⟩ v) B h v m ∧ Stp (cfoot h V) (cfoot h v) w (w1.setCell ⟨h, 0, none⟩ v) := by
  have hh : w1.heap[h]? = _ := f.heap a.apart a.hh
  have f2 : Fo (cfoot h V) w w1 := f.mono (fun k hk => .inr hk)
  have f3 : Fo (fun k => k = h) w1 (w1.setCell ⟨h, 0, none⟩ v) := Fo.setCell (O := fun k => k = h) (Fo.refl _ w1) (p := ⟨h, 0, none⟩) (.inl rfl) v
  have hvh : v.ownBlock ≠ some h := by
    intro hk
    rcases hv h hk with h1 | h1
    · exact a.apart h1
    · have := heap_lt a.hh; omega
  refine ⟨⟨by rw [cell_of_row _ _ _ _ _ _ hh]; rfl, frozen_of_row _ _ _ _ _ hh⟩, ⟨?_, a.bh, a.hT, x.fo f3 (fun g hg e => by subst e; exact hvh hg)⟩, f2.setCell (.inl (.inl rfl)) v, ?_⟩
  · rw [heap_setCell_at hh]
    rfl
  · rintro k (rfl | hk)
    · exact .inl (.inl rfl)
    · exact (hv k hk).imp (fun h => .inr h) id

abbrev cuT : TypeId := 150
abbrev cuE : TypeId := 99

set_option maxHeartbeats 1000000 in
theorem cnew_any (w : World) : Calls Tryz.prog 76 #[] w fun e w' => e = .returned (.pointer (some ⟨w.heap.size, 0, none⟩)) ∧ Cc cuT cuE w' w.heap.size w.heap.size (.slice none 0 0) [] ∧ Kept w w' [] := by
  go_enter Tryz.func76, Tryz.ntmps76
  go_wp2
  go_ret
  exact ⟨rfl, ⟨heap_alloc_new w _, Nat.le_refl _, by decide, OwnK.nil _ _ _⟩, (Kept.refl w []).alloc _⟩

set_option maxHeartbeats 1000000 in
theorem cfind_nil (n : ByteArray) (w : World) : Calls Tryz.prog 134 #[.pointer none, .string n] w fun e w' => e = .returned (.tuple #[.int .i64 0, .bool false]) ∧ w' = w := by
  go_enter Tryz.func134, Tryz.ntmps134
  go_wp2
  go_ret2
  exact ⟨rfl, rfl⟩

set_option maxHeartbeats 1000000 in
theorem cfind_any (a : Cc cuT cuE w B h V l) (ok : OkC l) (n : ByteArray) : Calls Tryz.prog 134 #[.pointer (some ⟨h, 0, none⟩), .string n] w fun e w' => e = .returned (.tuple #[.int .i64 (ahd l n), .bool (plc l n).isSome]) ∧ Kept w w' [] := by
  obtain ⟨u, c, e⟩ := a.shape
  have c0 := a.cell.1
  have S := Lib.hid (csearch_any V l n w a.own ok.nms (by have := ok.few; omega))
  rw [e] at c0 S
  clear a e ok
  go_enter Tryz.func134, Tryz.ntmps134
  go_wp2_with (go_at_call 176; refine S.out.mono ?_; rintro e w' ⟨rfl, k2⟩)
  go_ret2
  exact ⟨rfl, k2⟩

def noCu : Cu := ⟨⟨#[]⟩, 0, 0⟩
set_option maxHeartbeats 1000000 in
theorem cget_nil (n : ByteArray) (w : World) : Calls Tryz.prog 92 #[.pointer none, .string n] w fun e w' => e = .returned (.tuple #[.agg noCu.cs, .bool false]) ∧ Kept w w' [] := by
  simp only [noCu, Cu.cs]
  go_enter Tryz.func92, Tryz.ntmps92
  go_wp2_with (go_at_call 134; refine (cfind_nil _ _).mono ?_; rintro e w' ⟨rfl, rfl⟩)
  refine bodyPost_ret (v := .tuple #[.agg #[.string ⟨#[]⟩, .int .i64 0, .int .i64 0], .bool false]) (by simp [results, Tryz.results92, go_sem]) rfl ?_
  exact ⟨rfl, (Kept.refl w []).alloc _⟩

end Go.Proofs.YticiofkiffgclaaGreat

namespace Go.Proofs.YticiofkiffgclaaGreat
set_option linter.unusedVariables false
open Go.RowKit

theorem size_toList (n : ByteArray) : n.toList.length = n.size := by rw [ByteArray.toList_eq, Array.length_toList]; rfl
theorem toList_nil {n : ByteArray} (h : n.size = 0) : n.toList = [] := List.eq_nil_of_length_eq_zero (by rw [size_toList]; exact h)
theorem toList_ne {n : ByteArray} (h : ¬ n.size = 0) : ¬ n.toList = [] ∧ n.toList.isEmpty = false := by
  have h1 : ¬ n.toList = [] := fun e => h (by rw [← size_toList, e]; rfl)
  exact ⟨h1, by simpa using h1⟩

variable {w w' : World} {B h : Nat} {V : Value} {l : List Cu}

def ChgPost (w : World) (B h : Nat) (V : Value) (T e : TypeId) (r : Value) (m : List Cu) (x : Ending) (w' : World) : Prop :=
  x = .returned r ∧ ∃ V', Cc T e w' B h V' m ∧ Stp (cfoot h V) (cfoot h V') w w'

set_option maxHeartbeats 2000000 in
set_option maxRecDepth 100000 in
theorem creg_any (a : Cc cuT cuE w B h V l) (ok : OkC l) (n : ByteArray) (at' : Int) : Calls Tryz.prog 79 #[.pointer (some ⟨h, 0, none⟩), .string n, .int .i64 at'] w (ChgPost w B h V cuT cuE (.int .i64 (regE l n at')) (regL l n at')) := by
  have FD := Lib.hid (cfind_any a ok n)
  have A := Lib.hid a; have OK := Lib.hid ok
  obtain ⟨u, c, e⟩ := a.shape
  have EV := Lib.hid e
  have few := ok.few
  clear a ok e
  by_cases h0 : n.size = 0 ∨ 40 < n.size ∨ at' < 1
  · have e1 : regE l n at' = 1 := by rw [regE, if_pos (by omega)]
    have e2 : regL l n at' = l := by rw [regL, if_neg (by rw [e1]; decide)]
    rw [e1, e2]
    clear e1 e2 few
    have fin : ∀ w2, Kept w w2 [] → ChgPost w B h V cuT cuE (.int .i64 1) l (.returned (.int .i64 1)) w2 := fun w2 k2 => ⟨rfl, V, A.out.keep k2, Stp.ofK k2⟩
    have FIN := Lib.hid fin
    clear fin
    by_cases hE : n.size = 0
    · have hE1 := toList_nil hE
      clear h0 hE
      go_enter Tryz.func79, Tryz.ntmps79
      go_wp2_with (go_at_call 134; refine FD.out.mono ?_; rintro e w2 ⟨rfl, k2⟩)
      go_ret
      exact FIN.out _ k2
    · obtain ⟨hE1, hE2⟩ := toList_ne hE
      by_cases hL : 40 < n.size
      · have hL1 : (40 : Int) < (n.size : Int) := by omega
        clear h0 hE hL
        go_enter Tryz.func79, Tryz.ntmps79
        go_wp2_with (go_at_call 134; refine FD.out.mono ?_; rintro e w2 ⟨rfl, k2⟩)
        all_goals
          go_ret
          exact FIN.out _ k2
      · have hL1 : (n.size : Int) ≤ 40 := by omega
        have hA : at' < 1 := by omega
        clear h0 hE hL
        go_enter Tryz.func79, Tryz.ntmps79
        go_wp2_with (go_at_call 134; refine FD.out.mono ?_; rintro e w2 ⟨rfl, k2⟩)
        all_goals
          go_ret
          exact FIN.out _ k2
  · have hr : regE l n at' = if (plc l n).isSome then 5 else if 4 ≤ l.length then 8 else 0 := by rw [regE, if_neg (by omega)]
    obtain ⟨hE1, hE2⟩ := toList_ne (n := n) (by omega)
    have hL1 : (n.size : Int) ≤ 40 := by omega
    have hL2 : ¬ (40 : Int) < (n.size : Int) := by omega
    have hA : ¬ at' < 1 := by omega
    have hA1 : (1 : Int) ≤ at' := by omega
    cases hp : plc l n with
    | some i =>
      have e1 : regE l n at' = 5 := by rw [hr, hp]; rfl
      have e2 : regL l n at' = l := by rw [regL, if_neg (by rw [e1]; decide)]
      rw [e1, e2]
      rw [hp] at FD
      simp only [Option.isSome_some] at FD
      clear e1 e2 hr h0 hp few
      go_enter Tryz.func79, Tryz.ntmps79
      go_wp2_with (go_at_call 134; refine FD.out.mono ?_; rintro e w2 ⟨rfl, k2⟩)
      go_ret
      exact ⟨rfl, V, A.out.keep k2, Stp.ofK k2⟩
    | none =>
      have hp1 := Lib.hid hp
      rw [hp] at FD
      simp only [Option.isSome_none] at FD
      have hpn : ¬ ((none : Option Nat).isSome = true) := by decide
      by_cases hf : 4 ≤ l.length
      · have e1 : regE l n at' = 8 := by rw [hr, hp, if_neg hpn, if_pos hf]
        have e2 : regL l n at' = l := by rw [regL, if_neg (by rw [e1]; decide)]
        rw [e1, e2]
        have hf1 : (4 : Int) ≤ (l.length : Int) := by omega
        clear e1 e2 hr h0 hp few hf hpn
        go_enter Tryz.func79, Tryz.ntmps79
        go_wp2_with (go_at_call 134; refine FD.out.mono ?_; rintro e w2 ⟨rfl, k2⟩; have c0 := (A.out.keep k2).cell.1; rw [EV.out] at c0)
        go_ret
        exact ⟨rfl, V, A.out.keep k2, Stp.ofK k2⟩
      · have e1 : regE l n at' = 0 := by rw [hr, hp, if_neg hpn, if_neg hf]
        have e2 : regL l n at' = insC ⟨n, at', 0⟩ l := by rw [regL, if_pos e1]
        rw [e1, e2]
        have hf1 : (l.length : Int) < 4 := by omega
        have hf2 := Lib.hid (show l.length ≤ 1000 by omega)
        have INS := Lib.hid (ins_ahd (x := ⟨n, at', 0⟩) OK.out.nms hp)
        have AL := Lib.hid (ahd_le l n)
        clear e1 e2 hr h0 hp few hf hpn
        go_enter Tryz.func79, Tryz.ntmps79
        go_wp2_with fail
        refine FD.out.mono ?_
        rintro e w2 ⟨rfl, k2⟩
        have a2 := A.out.keep k2
        have c0 := a2.cell.1
        rw [EV.out] at c0
        obtain ⟨w3, hw3⟩ : ∃ w3, w3 = w2.alloc (.cells #[.string n, .int .i64 at', .int .i64 0] cuE) := ⟨_, rfl⟩
        have k3 : Kept w2 w3 [] := by rw [hw3]; exact (Kept.refl w2 []).alloc _
        have g3 : w3.heap[w2.heap.size]? = some (.cells (Cu.cs ⟨n, at', 0⟩) cuE (0, 0)) := by rw [hw3]; exact heap_alloc_new w2 _
        have a3 := a2.keep k3
        have IN := Lib.hid (cinsert_any (i := ahd l n) (x := ⟨n, at', 0⟩) a3.own a3.size g3 (fun e => by have := (a2.own.lt _ e).2; omega) AL.out hf2.out)
        rw [EV.out] at IN
        have A3 := Lib.hid a3; have K3 := Lib.hid k3; have HW3 := Lib.hid hw3; have K2 := Lib.hid k2
        clear a2 k3 g3 a3 hw3 k2
        go_wp2_with fail
        rw [← HW3.out]
        refine IN.out.mono ?_
        rintro e w4 ⟨v', rfl, ho, hfo, hv⟩
        obtain ⟨L', hL'⟩ : ∃ L', L' = (List.take (ahd l n) l ++ (⟨n, at', 0⟩ : Cu) :: List.drop (ahd l n) l).length := ⟨_, rfl⟩
        obtain ⟨u', c', hv'⟩ := ho.shape
        rw [← hL'] at hv'
        subst hv'
        clear hL'
        rw [← EV.out] at hfo hv
        obtain ⟨⟨c4, f4⟩, a5, s5⟩ := A3.out.lay hfo ho hv
        rw [EV.out] at c4
        rw [INS.out] at a5
        have A5 := Lib.hid a5; have S5 := Lib.hid s5
        clear ho hfo hv a5 s5 c0
        go_wp2
        go_ret
        exact ⟨rfl, _, A5.out, (Stp.ofK K2.out).trans (S5.out.afterK K3.out)⟩

set_option maxHeartbeats 1000000 in
theorem cunr_nil (n : ByteArray) (w : World) : Calls Tryz.prog 106 #[.pointer none, .string n] w fun e w' => e = .returned (.int .i64 4) ∧ w' = w := by
  go_enter Tryz.func106, Tryz.ntmps106
  go_wp2_with (go_at_call 134; refine (cfind_nil _ _).mono ?_; rintro e w2 ⟨rfl, rfl⟩)
  go_ret
  exact ⟨rfl, rfl⟩

end Go.Proofs.YticiofkiffgclaaGreat

namespace Go.Proofs.YticiofkiffgclaaGreat
set_option linter.unusedVariables false
open Go.RowKit

variable {w w' : World} {B h : Nat} {V : Value} {l : List Cu}

set_option maxHeartbeats 1000000 in
theorem cfin_nil (n : ByteArray) (w : World) : Calls Tryz.prog 97 #[.pointer none, .string n] w fun e w' => e = .returned (.tuple #[.int .i64 0, .int .i64 4]) ∧ w' = w := by
  go_enter Tryz.func97, Tryz.ntmps97
  go_wp2_with (go_at_call 134; refine (cfind_nil _ _).mono ?_; rintro e w2 ⟨rfl, rfl⟩)
  go_ret2
  exact ⟨rfl, rfl⟩
set_option maxHeartbeats 1000000 in
theorem clea_nil (w : World) : Calls Tryz.prog 90 #[.pointer none] w fun e w' => e = .returned (.tuple #[.int .i64 0, .bool false]) ∧ w' = w := by
  go_enter Tryz.func90, Tryz.ntmps90
  go_wp2
  go_ret2
  exact ⟨rfl, rfl⟩

end Go.Proofs.YticiofkiffgclaaGreat

namespace Go.Proofs.YticiofkiffgclaaGreat
set_option linter.unusedVariables false
open Go.RowKit

abbrev rtT : TypeId := 175
abbrev rtE : TypeId := 173
abbrev evT : TypeId := 50

variable {w w' : World} {B h : Nat} {V : Value} {l : List It}

set_option maxHeartbeats 1000000 in
theorem tnew_any (w : World) : Calls Tryz.prog 77 #[] w fun e w' => e = .returned (.pointer (some ⟨w.heap.size, 0, none⟩)) ∧ Ls encIt rtT rtE w' w.heap.size w.heap.size (.slice none 0 0) [] ∧ Kept w w' [] := by
  go_enter Tryz.func77, Tryz.ntmps77
  go_wp2
  go_ret
  exact ⟨rfl, ⟨heap_alloc_new w _, Nat.le_refl _, by decide, OwnK.nil _ _ _⟩, (Kept.refl w []).alloc _⟩

end Go.Proofs.YticiofkiffgclaaGreat
