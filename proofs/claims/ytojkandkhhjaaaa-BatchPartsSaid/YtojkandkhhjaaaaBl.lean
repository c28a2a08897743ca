/-
  The events out of numbers.
-/
import Derived.Test.YtojkandkhhjaaaaBk
namespace Go.Proofs.Ytojkandkhhjaaaa
set_option linter.unusedVariables false
open Go.RowKit Go.Maps

set_option maxHeartbeats 4000000 in
set_option maxRecDepth 100000 in
theorem events_any {w : World} {B len cap : Nat} {a : Option Addr} {f : Nat → ActD} (hw : IsActs w B a len f) (hl : len ≤ 60) :
    Calls Try.prog 12 #[.slice a len cap] w fun e w' => ∃ v', e = .returned v' ∧ OwnE w' w.heap.size 42 v' (evsA f len) ∧ Kept w w' [] := by
  have HA := Lib.hid hw
  obtain ⟨i0, hi0, hz0, hz1, hzb⟩ := info_parts Try.infoEv
  have I := Lib.hid (And.intro hi0 (And.intro hz0 (And.intro hz1 hzb)))
  clear hw hi0 hz0 hz1 hzb
  go_enter Try.func12, Try.ntmps12
  go_wp2
  go_loopg [3, 4] len (fun kx s3 s4 wr => ∃ (i cp : Nat) (g : Option Addr), s3 = .slice g i cp ∧ s4 = .int .i64 i ∧ i ≤ len ∧ len - i ≤ kx ∧ RowKit.Hid (OwnE wr w.heap.size 42 (.slice g i cp) (evsA f i) ∧ Kept w wr []))
  case atStart => exact ⟨0, 0, none, rfl, rfl, by omega, by omega, OwnE.nil _ _ _, Kept.refl _ _⟩
  case round =>
    obtain ⟨i, cp, g, rfl, rfl, hi, hkx, HS⟩ := hrel
    by_cases hlt : i < len
    · have x1 : (i : Int) < (len : Int) := by omega
      obtain ⟨bb, oo, rfl, hbb, hact⟩ := HA.out (by omega)
      have ac := (hact i hlt).kept HS.out.2 (by simp)
      obtain ⟨d, hd⟩ : ∃ d, d = (f i).id := ⟨_, rfl⟩
      obtain ⟨X, hX⟩ : ∃ X, X = (f i).tx := ⟨_, rfl⟩
      obtain ⟨O, hO⟩ : ∃ O, O = (f i).ow := ⟨_, rfl⟩
      have c0 := ac.c0; have c1 := ac.c1; have c2 := ac.c2
      have t8 := ac.t8; have o8 := ac.o8; have wi := ac.wi
      rw [← hd] at c0 wi; rw [← hX] at c1 t8; rw [← hO] at c2 o8
      obtain ⟨x, hx⟩ : ∃ x, x = X % 24 := ⟨_, rfl⟩
      have hev : RowKit.Hid (evA f i = ⟨d.tmod 40, x, ownA O, 0, i, 0, 0, ⟨#[]⟩⟩) := Lib.hid (by rw [evA, hx, hX, hO, hd])
      have e1 : (X : Int).tmod 24 = (x : Int) := by rw [Int.tmod_eq_emod_of_nonneg (by omega)]; omega
      have hx24 : x < 24 := by omega
      have C2 := Lib.hid c2
      clear hact ac hd hX hO hx
      have a0 := fun o => ((Kept.refl wr []).alloc o).cell (p := ⟨bb, oo + i * 3, none⟩) (by simp) c0
      have a1 := fun o => ((Kept.refl wr []).alloc o).cell (p := ⟨bb, oo + i * 3 + 1, none⟩) (by simp) c1
      obtain ⟨W2, hW2⟩ : ∃ W2, W2 = (wr.alloc (.cells #[.int .i64 (d.tmod 40), .int .i64 (x : Int), .string ⟨#[]⟩, .int .i64 0, .int .i64 (i : Int), .int .u8 0, .int .i64 0, .string ⟨#[]⟩] 42)).drew := ⟨_, rfl⟩
      have k2 : Kept wr W2 [] := by rw [hW2]; exact ((Kept.refl wr []).alloc _).drew
      have g2 : W2.heap[wr.heap.size]? = some (.cells #[.int .i64 (d.tmod 40), .int .i64 (x : Int), .string ⟨#[]⟩, .int .i64 0, .int .i64 (i : Int), .int .u8 0, .int .i64 0, .string ⟨#[]⟩] 42 (0, 0)) := by rw [hW2]; exact heap_alloc_new wr _
      have HW2 := Lib.hid hW2; have K2 := Lib.hid k2; have G2 := Lib.hid g2
      clear hW2 k2 g2
      go_wp2_with fail
      go_region
      rw [← HW2.out]
      clear a0 a1 c0 c1 c2
      have c2 := K2.out.cell (p := ⟨bb, oo + i * 3 + 2, none⟩) (by simp) C2.out
      obtain ⟨y, hy⟩ : ∃ y : Nat, (O : Int) % 6 = (y : Int) := ⟨O % 6, by omega⟩
      have hyt : (O : Int).tmod 6 = (y : Int) := by rw [Int.tmod_eq_emod_of_nonneg (by omega)]; exact hy
      have HY : RowKit.Hid (O % 6 = y) := Lib.hid (by omega)
      by_cases h0 : y = 0
      · subst h0
        obtain ⟨q0, q1, q2, q3, q4, q5, q6, q7⟩ := ev_cells G2.out
        obtain ⟨s0, s1, s2, s3, s4, s5, s6, s7⟩ := ev_frozen G2.out
        obtain ⟨W3, hW3⟩ : ∃ W3, W3 = W2.setCell ⟨wr.heap.size, 2, none⟩ (.string ⟨#[97]⟩) := ⟨_, rfl⟩
        have K3 : Kept wr W3 [] := by rw [hW3]; exact K2.out.setCell (.inr (Nat.le_refl _)) _
        have G3 : W3.heap[wr.heap.size]? = some (.cells #[.int .i64 (d.tmod 40), .int .i64 (x : Int), .string ⟨#[97]⟩, .int .i64 0, .int .i64 (i : Int), .int .u8 0, .int .i64 0, .string ⟨#[]⟩] 42 (0, 0)) := by rw [hW3]; simpa using heap_setCell_at G2.out 2 (.string ⟨#[97]⟩)
        have HW3 := Lib.hid hW3
        clear hW3
        go_upto_region 11 with fail
        rw [← HW3.out]
        clear q0 q1 q2 q3 q4 q5 q6 q7 s0 s1 s2 s3 s4 s5 s6 s7 c2
        have g3 : W3.heap[wr.heap.size]? = some (.cells #[.int .i64 (d.tmod 40), .int .i64 (x : Int), .string ⟨#[97]⟩, .int .i64 0, .int .i64 (i : Int), .int .u8 0, .int .i64 0, .string ⟨#[]⟩] 42 (0, 0)) := G3
        have k3 : Kept wr W3 [] := K3
        obtain ⟨q0, q1, q2, q3, q4, q5, q6, q7⟩ := ev_cells g3
        have HO := Lib.hid (HS.out.1.kept k3 (by simp))
        have KK := Lib.hid (HS.out.2.trans k3 (by simp))
        have hbz : w.heap.size ≤ W3.heap.size := KK.out.size
        have EV := Lib.hid (hev.out.trans (by rw [ownA, if_pos HY.out] : (⟨d.tmod 40, x, ownA O, 0, i, 0, 0, ⟨#[]⟩⟩ : Ev) = ⟨d.tmod 40, x, ⟨#[97]⟩, 0, i, 0, 0, ⟨#[]⟩⟩))
        clear g3 k3
        go_wp2_with (at_builtin; refine wpList_append_src _ rfl (.tmp 39) (.tmp 41) 33 33 rfl w.heap.size 42 i0 _ 8 80 Try.underlying33 I.out.1 I.out.2.1 I.out.2.2.1 I.out.2.2.2 rfl _ i (ecs (evsA f i)) rfl ?hown _ 1 (Ev.mk (d.tmod 40) x ⟨#[97]⟩ 0 i 0 0 ⟨#[]⟩).cs.toList rfl (src_ev W3 ⟨d.tmod 40, x, ⟨#[97]⟩, 0, i, 0, 0, ⟨#[]⟩⟩) (by unfold maxLen; omega) (by omega) (by first | assumption | omega | (simp; omega)) ?next)
        case hown => have := World.ownsRow.alloc HO.out (.cells (Ev.mk (d.tmod 40) x ⟨#[97]⟩ 0 i 0 0 ⟨#[]⟩).cs 42); rw [evsA_length] at this; exact this
        case next =>
          intro v6 w6 hown hgrow; intros
          have ho : OwnE w6 w.heap.size 42 v6 (evsA f (i + 1)) := by rw [evsA_succ, EV.out]; unfold OwnE; rw [← ecs_snoc, List.length_append, evsA_length]; exact hown
          have hk : Kept w w6 [] := (KK.out.alloc (.cells (Ev.mk (d.tmod 40) x ⟨#[97]⟩ 0 i 0 0 ⟨#[]⟩).cs 42)).grown hgrow (fun k hk => .inr (HO.out.lt k hk).1)
          obtain ⟨u9, n9, rfl⟩ := ho.shape
          rw [evsA_length] at ho ⊢
          have R := Lib.hid (And.intro ho hk)
          clear hown hgrow ho hk q0 q1 q2 q3 q4 q5 q6 q7
          go_wp2
          go_roundg (len - (i + 1))
          case measure => omega
          case rel => exact ⟨i + 1, _, _, by first | rfl | go_num, by go_num, by omega, by omega, R.out⟩
      have z0 : ((y : Int) == 0) = false := by rw [beq_eq_false_iff_ne]; omega
      by_cases h1 : y = 1
      · subst h1
        obtain ⟨q0, q1, q2, q3, q4, q5, q6, q7⟩ := ev_cells G2.out
        obtain ⟨s0, s1, s2, s3, s4, s5, s6, s7⟩ := ev_frozen G2.out
        obtain ⟨W3, hW3⟩ : ∃ W3, W3 = W2.setCell ⟨wr.heap.size, 2, none⟩ (.string ⟨#[98]⟩) := ⟨_, rfl⟩
        have K3 : Kept wr W3 [] := by rw [hW3]; exact K2.out.setCell (.inr (Nat.le_refl _)) _
        have G3 : W3.heap[wr.heap.size]? = some (.cells #[.int .i64 (d.tmod 40), .int .i64 (x : Int), .string ⟨#[98]⟩, .int .i64 0, .int .i64 (i : Int), .int .u8 0, .int .i64 0, .string ⟨#[]⟩] 42 (0, 0)) := by rw [hW3]; simpa using heap_setCell_at G2.out 2 (.string ⟨#[98]⟩)
        have HW3 := Lib.hid hW3
        clear hW3
        go_upto_region 11 with fail
        rw [← HW3.out]
        clear q0 q1 q2 q3 q4 q5 q6 q7 s0 s1 s2 s3 s4 s5 s6 s7 c2
        have g3 : W3.heap[wr.heap.size]? = some (.cells #[.int .i64 (d.tmod 40), .int .i64 (x : Int), .string ⟨#[98]⟩, .int .i64 0, .int .i64 (i : Int), .int .u8 0, .int .i64 0, .string ⟨#[]⟩] 42 (0, 0)) := G3
        have k3 : Kept wr W3 [] := K3
        obtain ⟨q0, q1, q2, q3, q4, q5, q6, q7⟩ := ev_cells g3
        have HO := Lib.hid (HS.out.1.kept k3 (by simp))
        have KK := Lib.hid (HS.out.2.trans k3 (by simp))
        have hbz : w.heap.size ≤ W3.heap.size := KK.out.size
        have EV := Lib.hid (hev.out.trans (by rw [ownA, if_neg (by rw [HY.out]; decide), if_pos HY.out] : (⟨d.tmod 40, x, ownA O, 0, i, 0, 0, ⟨#[]⟩⟩ : Ev) = ⟨d.tmod 40, x, ⟨#[98]⟩, 0, i, 0, 0, ⟨#[]⟩⟩))
        clear g3 k3
        go_wp2_with (at_builtin; refine wpList_append_src _ rfl (.tmp 39) (.tmp 41) 33 33 rfl w.heap.size 42 i0 _ 8 80 Try.underlying33 I.out.1 I.out.2.1 I.out.2.2.1 I.out.2.2.2 rfl _ i (ecs (evsA f i)) rfl ?hown _ 1 (Ev.mk (d.tmod 40) x ⟨#[98]⟩ 0 i 0 0 ⟨#[]⟩).cs.toList rfl (src_ev W3 ⟨d.tmod 40, x, ⟨#[98]⟩, 0, i, 0, 0, ⟨#[]⟩⟩) (by unfold maxLen; omega) (by omega) (by first | assumption | omega | (simp; omega)) ?next)
        case hown => have := World.ownsRow.alloc HO.out (.cells (Ev.mk (d.tmod 40) x ⟨#[98]⟩ 0 i 0 0 ⟨#[]⟩).cs 42); rw [evsA_length] at this; exact this
        case next =>
          intro v6 w6 hown hgrow; intros
          have ho : OwnE w6 w.heap.size 42 v6 (evsA f (i + 1)) := by rw [evsA_succ, EV.out]; unfold OwnE; rw [← ecs_snoc, List.length_append, evsA_length]; exact hown
          have hk : Kept w w6 [] := (KK.out.alloc (.cells (Ev.mk (d.tmod 40) x ⟨#[98]⟩ 0 i 0 0 ⟨#[]⟩).cs 42)).grown hgrow (fun k hk => .inr (HO.out.lt k hk).1)
          obtain ⟨u9, n9, rfl⟩ := ho.shape
          rw [evsA_length] at ho ⊢
          have R := Lib.hid (And.intro ho hk)
          clear hown hgrow ho hk q0 q1 q2 q3 q4 q5 q6 q7
          go_wp2
          go_roundg (len - (i + 1))
          case measure => omega
          case rel => exact ⟨i + 1, _, _, by first | rfl | go_num, by go_num, by omega, by omega, R.out⟩
      have z1 : ((y : Int) == 1) = false := by rw [beq_eq_false_iff_ne]; omega
      have N0 := Lib.hid h0; have N1 := Lib.hid h1
      clear h0 h1
      obtain ⟨W3, hW3⟩ : ∃ W3, W3 = W2 := ⟨_, rfl⟩
      subst hW3
      have K3 := K2.out
      have G3 := G2.out
      have g3 : W3.heap[wr.heap.size]? = some (.cells #[.int .i64 (d.tmod 40), .int .i64 (x : Int), .string ⟨#[]⟩, .int .i64 0, .int .i64 (i : Int), .int .u8 0, .int .i64 0, .string ⟨#[]⟩] 42 (0, 0)) := G3
      have k3 : Kept wr W3 [] := K3
      obtain ⟨q0, q1, q2, q3, q4, q5, q6, q7⟩ := ev_cells g3
      have HO := Lib.hid (HS.out.1.kept k3 (by simp))
      have KK := Lib.hid (HS.out.2.trans k3 (by simp))
      have hbz : w.heap.size ≤ W3.heap.size := KK.out.size
      have EV := Lib.hid (hev.out.trans (by rw [ownA, if_neg (by rw [HY.out]; exact N0.out), if_neg (by rw [HY.out]; exact N1.out)] : (⟨d.tmod 40, x, ownA O, 0, i, 0, 0, ⟨#[]⟩⟩ : Ev) = ⟨d.tmod 40, x, ⟨#[]⟩, 0, i, 0, 0, ⟨#[]⟩⟩))
      clear g3 k3
      go_wp2_with (at_builtin; refine wpList_append_src _ rfl (.tmp 39) (.tmp 41) 33 33 rfl w.heap.size 42 i0 _ 8 80 Try.underlying33 I.out.1 I.out.2.1 I.out.2.2.1 I.out.2.2.2 rfl _ i (ecs (evsA f i)) rfl ?hown _ 1 (Ev.mk (d.tmod 40) x ⟨#[]⟩ 0 i 0 0 ⟨#[]⟩).cs.toList rfl (src_ev W3 ⟨d.tmod 40, x, ⟨#[]⟩, 0, i, 0, 0, ⟨#[]⟩⟩) (by unfold maxLen; omega) (by omega) (by first | assumption | omega | (simp; omega)) ?next)
      case hown => have := World.ownsRow.alloc HO.out (.cells (Ev.mk (d.tmod 40) x ⟨#[]⟩ 0 i 0 0 ⟨#[]⟩).cs 42); rw [evsA_length] at this; exact this
      case next =>
        intro v6 w6 hown hgrow; intros
        have ho : OwnE w6 w.heap.size 42 v6 (evsA f (i + 1)) := by rw [evsA_succ, EV.out]; unfold OwnE; rw [← ecs_snoc, List.length_append, evsA_length]; exact hown
        have hk : Kept w w6 [] := (KK.out.alloc (.cells (Ev.mk (d.tmod 40) x ⟨#[]⟩ 0 i 0 0 ⟨#[]⟩).cs 42)).grown hgrow (fun k hk => .inr (HO.out.lt k hk).1)
        obtain ⟨u9, n9, rfl⟩ := ho.shape
        rw [evsA_length] at ho ⊢
        have R := Lib.hid (And.intro ho hk)
        clear hown hgrow ho hk q0 q1 q2 q3 q4 q5 q6 q7
        go_wp2
        go_roundg (len - (i + 1))
        case measure => omega
        case rel => exact ⟨i + 1, _, _, by first | rfl | go_num, by go_num, by omega, by omega, R.out⟩
    · obtain rfl : i = len := by omega
      have x1 : ¬ (i : Int) < (i : Int) := by omega
      go_wp2
      go_ret
      exact ⟨_, rfl, HS.out.1, HS.out.2⟩

end Go.Proofs.Ytojkandkhhjaaaa
