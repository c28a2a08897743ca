/-
  A store of tables: New.
-/
import Derived.Test.YtdjhcdgehmpikaaQa
import Derived.Deep.RegionHeld3
namespace Go.Proofs.Ytdjhcdgehmpikaa
open Go.RowKit Go.Maps Go.Sort Go.Shelf

/-- How many tables. -/
def cl (n : Int) : Nat := if n < 1 then 1 else if 4 < n then 4 else n.toNat

theorem cl_le (n : Int) : 1 ≤ cl n ∧ cl n ≤ 4 := by
  unfold cl
  split
  · omega
  · split <;> omega

/-- A table without any row. -/
def noTab : Tab := ⟨[], fun _ => []⟩

theorem Try.infoHp : (Try.prog.info? 71).map (fun i => (i.zero, i.size, i.bytes)) = some (some (.pointer none), 1, 8) := by kernel_rfl

variable {w : World} {B p b r : Nat} {v : Value} {st : List Nat}

/-- The store while it is made: k heaps are there. -/
structure Mk (w wr : World) (B p b r : Nat) (v sv : Value) (st : List Nat) (L : List Hq) (k : Nat) : Prop where
  sm : Sm wr B p b v st L
  ln : L.length = k
  tb : L.map Hq.tab = List.replicate k noTab
  hr : wr.heap[r]? = some (.cells #[sv] 87 (0, 0))
  hv : wr.ownsRow w.heap.size 71 1 sv k (hps L)
  kp : Kept w wr []

theorem Mk.next {wr w8 w9 wx : World} {sv v9 : Value} {L : List Hq} {k h : Nat} {O : Nat → Prop} (a : Mk w wr B p b r v sv st L k) (hr : w.heap.size ≤ r)
    (s : Sm w8 B p b v st (L ++ [⟨h, O, [], fun _ => []⟩])) (k8 : Kept wr w8 []) (hx : wx = w8.alloc (.cells #[.pointer (some ⟨h, 0, none⟩)] 71))
    (ho : w9.ownsRow w.heap.size 71 1 v9 (k + 1) (hps L ++ [.pointer (some ⟨h, 0, none⟩)])) (hg : wx.grownBy w9 sv.ownBlock) :
    (wx.ownsRow w.heap.size 71 1 sv k (hps L)) ∧ w9.cell? ⟨r, 0, none⟩ = some sv ∧ w9.frozen? ⟨r, 0, none⟩ = false ∧ Mk w (w9.setCell ⟨r, 0, none⟩ v9) B p b r v v9 st (L ++ [⟨h, O, [], fun _ => []⟩]) (k + 1) := by
  have kx : Kept w8 wx [] := by rw [hx]; exact (Kept.refl w8 []).alloc _
  have krx : Kept wr wx [] := k8.trans kx (by simp)
  have hvx : wx.ownsRow w.heap.size 71 1 sv k (hps L) := ownsRow_fr a.hv (Fr.ofKept krx 0 []) (by simp)
  have hown : ∀ g, sv.ownBlock = some g → w.heap.size ≤ g ∧ ∃ cur, wr.heap[g]? = some (.cells cur 71 (0, 0)) := by
    intro g hg'
    refine ⟨(World.ownsRow.lt a.hv g hg').1, ?_⟩
    rcases a.hv.2 with ⟨h2, _⟩ | ⟨g', cap, cur, h2, _, hh, _⟩
    · rw [h2] at hg'; cases hg'
    · rw [h2] at hg'
      simp only [Value.ownBlock, Option.some.injEq] at hg'
      subst hg'
      exact ⟨cur, hh⟩
  have hrg : sv.ownBlock ≠ some r := by
    intro e
    obtain ⟨_, cur, h2⟩ := hown r e
    rw [a.hr] at h2
    simp at h2
  have f9 : Fo (fun k => sv.ownBlock = some k) wx w9 := (Fo.refl _ wx).grown hg (fun k hk => .inl hk)
  have hrx : wx.heap[r]? = some (.cells #[sv] 87 (0, 0)) := krx.heap (by simp) a.hr
  have hr9 : w9.heap[r]? = some (.cells #[sv] 87 (0, 0)) := f9.heap hrg hrx
  have sx := s.keep kx
  have notf : ∀ k, foots p b v (L ++ [⟨h, O, [], fun _ => []⟩]) k → ¬ sv.ownBlock = some k := by
    intro j hj e
    obtain ⟨_, cur, h2⟩ := hown j e
    exact sx.notO (krx.heap (by simp) h2) (by decide) hj
  have s9 : Sm w9 B p b v st (L ++ [⟨h, O, [], fun _ => []⟩]) := sx.fo f9 notf
  have fz : w9.frozen? ⟨r, 0, none⟩ = false := frozen_of_row _ _ _ _ _ hr9
  have f10 : Fo (fun k => k = r) w9 (w9.setCell ⟨r, 0, none⟩ v9) := (Fo.refl (fun k => k = r) w9).setCell (p := ⟨r, 0, none⟩) (.inl rfl) v9
  have v9r : ∀ g, v9.ownBlock = some g → ¬ g = r := by
    intro g hg' e
    subst e
    rcases ho.2 with ⟨h2, _⟩ | ⟨g', cap, cur, h2, _, hh, _⟩
    · rw [h2] at hg'; cases hg'
    · rw [h2] at hg'
      simp only [Value.ownBlock, Option.some.injEq] at hg'
      subst hg'
      rw [hr9] at hh
      simp at hh
  refine ⟨hvx, by rw [cell_of_row w9 r 0 _ _ _ hr9]; rfl, fz, ?_, ?_, ?_, ?_, ?_, ?_⟩
  · exact s9.fo f10 (fun j hj e => by subst e; exact s9.notO hr9 (by decide) hj)
  · simp [a.ln]
  · rw [List.map_append, a.tb, List.replicate_succ']; rfl
  · have := heap_setCell_at hr9 0 v9
    simpa using this
  · have e1 : hps (L ++ [⟨h, O, [], fun _ => []⟩]) = hps L ++ [.pointer (some ⟨h, 0, none⟩)] := by simp [hps]
    rw [e1]
    exact ownsRow_fo ho f10 v9r
  · have k9 : Fo (fun k => w.heap.size ≤ k) w w9 := ((Fo.ofKept a.kp _).trans (Fo.ofKept krx _)).trans (f9.mono (fun k hk => (hown k hk).1))
    have k10 : Fo (fun k => w.heap.size ≤ k) w (w9.setCell ⟨r, 0, none⟩ v9) := k9.trans (f10.mono (fun k hk => by subst hk; exact hr))
    exact Kept.ofBelow (k10.below (Nat.le_refl _) (fun k hk => hk)) []

theorem Mk.own {wr w8 : World} {sv : Value} {L : List Hq} {k : Nat} (a : Mk w wr B p b r v sv st L k) (k8 : Kept wr w8 []) {o : Obj} : (w8.alloc o).ownsRow w.heap.size 71 1 sv k (hps L) :=
  ownsRow_fr a.hv (Fr.ofKept (k8.alloc o) 0 []) (by simp)
theorem Mk.base {wr w8 : World} {sv : Value} {L : List Hq} {k : Nat} (a : Mk w wr B p b r v sv st L k) (k8 : Kept wr w8 []) {o : Obj} : w.heap.size ≤ (w8.alloc o).heap.size :=
  Nat.le_trans a.kp.size (Nat.le_trans k8.size ((Kept.refl w8 []).alloc o).size)

set_option maxHeartbeats 2000000 in
set_option maxRecDepth 100000 in
theorem relnew_any (m : Mg w B p b v st) (n : Int) :
    Calls Try.prog 13 #[.pointer (some ⟨p, 0, none⟩), .int .i64 n] w fun e w' => ∃ r O, e = .returned (.pointer (some ⟨r, 0, none⟩)) ∧ Sto w' B p r O st (List.replicate (cl n) noTab) ∧ Kept w w' [] ∧ w.heap.size ≤ r := by
  obtain ⟨c, hc⟩ : ∃ c, cl n = c := ⟨_, rfl⟩
  have hmin : min (max n 1) 4 = (c : Int) := by
    rw [← hc]; unfold cl
    split
    · omega
    · split <;> omega
  have hc4 := cl_le n
  rw [hc] at hc4 ⊢
  have HB := Lib.hid m.size
  obtain ⟨i0, hi0, hz0, hz1, hzb⟩ := info_parts Try.infoHp
  have I := Lib.hid (And.intro hi0 (And.intro hz0 (And.intro hz1 hzb)))
  obtain ⟨W1, hW1⟩ : ∃ W1, W1 = w.alloc (.cells #[.slice none 0 0] 87) := ⟨_, rfl⟩
  obtain ⟨r, hr⟩ : ∃ r, r = w.heap.size := ⟨_, rfl⟩
  have hk1 : Kept w W1 [] := by rw [hW1]; exact (Kept.refl w []).alloc _
  have ST : Hid (Mk w W1 B p b r v (.slice none 0 0) st [] 0) := Lib.hid ⟨Sm.first (m.keep hk1), rfl, rfl, by rw [hW1, hr]; exact heap_alloc_new w _, World.ownsRow_nil _ _ _ _, hk1⟩
  have HR := Lib.hid (Nat.le_of_eq hr.symm); have HC := Lib.hid hc
  have HM := Lib.hid hmin
  clear m hi0 hz0 hz1 hzb hk1 hc
  go_enter Try.func13, Try.ntmps13
  go_wp2_with fail
  rw [← hW1, ← hr]
  clear hW1 hr
  go_loopw [11] (fun t wr => ∃ (k : Nat) (sv : Value) (L : List Hq), t = .int .i64 k ∧ k ≤ c ∧ Mk w wr B p b r v sv st L k) (fun t _ => c - (intOf t).toNat)
  case atStart => exact ⟨0, _, [], rfl, Nat.zero_le _, ST.out⟩
  case round =>
    obtain ⟨k, sv, L, rfl, hk, hmk⟩ := hrel
    have M := Lib.hid hmk
    obtain ⟨sa, sc, hsv⟩ := ownsRow_shape hmk.hv
    subst hsv
    by_cases hlt : k < c
    · have x1 : (k : Int) < (c : Int) := by omega
      have c0 : wr.cell? ⟨r, 0, none⟩ = some (.slice sa k sc) := by rw [cell_of_row wr r 0 _ _ _ hmk.hr]; rfl
      have HN : Hid (∀ V, Kept wr V [] → Calls Try.prog 32 #[.pointer (some ⟨p, 0, none⟩)] V fun e w' => ∃ h O, e = .returned (.pointer (some ⟨h, 0, none⟩)) ∧ Sm w' B p b v st (L ++ [⟨h, O, [], fun _ => []⟩]) ∧ Kept wr w' []) := Lib.hid (fun V hV =>
        (hnew_sm (M.out.sm.keep hV)).mono (by rintro e w' ⟨h, O, rfl, s, k2, _⟩; exact ⟨h, O, rfl, s, hV.trans k2 (by simp)⟩))
      have C0 := Lib.hid c0
      clear hmk c0
      go_wp2_with fail
      refine wp_region_held_drew (S := fun _ => True) (by kernel_rfl) trivial (fun hHeld => ?_)
      refine wpAnyH_take (i := 0) (oi := _) (v := .pointer (some ⟨r, 0, none⟩)) rfl (by kernel_rfl) (by kernel_rfl) (by kernel_rfl) (fun _ _ _ h => h) (Or.inl ⟨by rfl, fun V hV => by go_simp⟩) hHeld ?_
      change wpAnyH _ _ _ _ _ _ _ (Act.put _ (some 13) _) _
      simp only [Act.put, List.setIfInBounds_toArray, List.set_cons_zero, List.set_cons_succ]
      refine wpAnyH_take (i := 1) (oi := _) (v := .pointer (some ⟨r, 0, none⟩)) rfl (by kernel_rfl) (by kernel_rfl) (by kernel_rfl) (fun _ _ _ h => h) (Or.inl ⟨by rfl, fun V hV => by go_simp⟩) hHeld ?_
      change wpAnyH _ _ _ _ _ _ _ (Act.put _ (some 14) _) _
      simp only [Act.put, List.setIfInBounds_toArray, List.set_cons_zero, List.set_cons_succ]
      refine wpAnyH_take (i := 2) (oi := _) (v := .pointer (some ⟨r, 0, none⟩)) rfl (by kernel_rfl) (by kernel_rfl) (by kernel_rfl) (fun _ _ _ h => h) (Or.inl ⟨by rfl, fun V hV => by go_simp⟩) hHeld ?_
      change wpAnyH _ _ _ _ _ _ _ (Act.put _ (some 15) _) _
      simp only [Act.put, List.setIfInBounds_toArray, List.set_cons_zero, List.set_cons_succ]
      refine wpAnyH_take (i := 3) (oi := _) (v := .pointer (some ⟨r, 0, none⟩)) rfl (by kernel_rfl) (by kernel_rfl) (by kernel_rfl) (fun _ _ _ h => h) (Or.inl ⟨by rfl, fun V hV => by go_simp⟩) hHeld ?_
      change wpAnyH _ _ _ _ _ _ _ (Act.put _ (some 16) _) _
      simp only [Act.put, List.setIfInBounds_toArray, List.set_cons_zero, List.set_cons_succ]
      refine wpAnyH_take (i := 5) (oi := _) (v := .pointer (some ⟨p, 0, none⟩)) rfl (by kernel_rfl) (by kernel_rfl) (by kernel_rfl) (fun _ _ _ h => h) (Or.inl ⟨by rfl, fun V hV => by go_simp⟩) hHeld ?_
      change wpAnyH _ _ _ _ _ _ _ (Act.put _ (some 18) _) _
      simp only [Act.put, List.setIfInBounds_toArray, List.set_cons_zero, List.set_cons_succ]
      refine wpAnyH_ready (rs := [4, 6]) (by kernel_rfl) (by simp) ?_
      refine (AllReadyH.cons (o := _) rfl (fun K hK => ?wayA4) (AllReadyH.cons (o := _) rfl (fun K hK => ?wayA6) AllReadyH.nil))
      case wayA4 =>
        have c1 : wr.drew.cell? ⟨r, 0, none⟩ = some (.slice sa k sc) := C0.out
        go_simp
        clear c1
        refine hK.out _ _ trivial (fun hHeld => ?_)
        clear hK K
        refine wpAnyH_ready (rs := [6]) (by kernel_rfl) (by simp) ?_
        refine (AllReadyH.cons (o := _) rfl (fun K hK => ?wayB6) AllReadyH.nil)
        case wayB6 =>
          go_simp
          go_at_call 32
          refine (HN.out _ ?_).mono ?_
          exact (Kept.refl wr []).drew
          rintro e w8 ⟨h8, O8, rfl, s8, k8⟩
          have S8 := Lib.hid s8; have K8 := Lib.hid k8
          clear s8 k8
          obtain ⟨wx, hwx⟩ : ∃ wx, wx = w8.alloc (.cells #[.pointer (some ⟨h8, 0, none⟩)] 71) := ⟨_, rfl⟩
          have HX := Lib.hid hwx
          clear hwx
          go_wp2_with fail
          refine hK.out _ _ trivial (fun hHeld => ?_)
          clear hK K
          refine wpAnyH_ready (rs := [7]) (by kernel_rfl) (by simp) ?_
          refine (AllReadyH.cons (o := _) rfl (fun K hK => ?wayC7) AllReadyH.nil)
          case wayC7 =>
            go_simp
            refine hK.out _ _ trivial (fun hHeld => ?_)
            clear hK K
            refine wpAnyH_ready (rs := [8]) (by kernel_rfl) (by simp) ?_
            refine (AllReadyH.cons (o := _) rfl (fun K hK => ?wayD8) AllReadyH.nil)
            case wayD8 =>
              refine step_append_all _ rfl (.tmp 17) (.tmp 20) 85 85 rfl w.heap.size 71 i0 (.pointer none) 1 8 Try.underlying85 I.out.1 I.out.2.1 I.out.2.2.1 I.out.2.2.2 rfl (.slice sa k sc) k (hps L) rfl (M.out.own K8.out) _ 1 [.pointer (some ⟨h8, 0, none⟩)] rfl (src_one Try.underlying85 w8 _ rfl _) (by unfold maxLen; omega) (by omega) (M.out.base K8.out) ?_
              intro v9 w9 ho9 hf9 hg9 hl9
              obtain ⟨_, c9, f9, nx⟩ := M.out.next HR.out S8.out K8.out rfl ho9 hg9
              have NX := Lib.hid nx
              obtain ⟨a9, d9, hs9⟩ := ownsRow_shape ho9
              clear nx ho9 hf9 hg9 hl9
              subst hs9
              refine hK.out _ _ trivial (fun hHeld => ?_)
              clear hK K
              refine wpAnyH_take (i := 9) (oi := _) (v := .pointer (some ⟨r, 0, none⟩)) rfl (by kernel_rfl) (by kernel_rfl) (by kernel_rfl) (fun _ _ _ h => h) (Or.inl ⟨by rfl, fun V hV => by go_simp⟩) hHeld ?_
              refine wpAnyH_take (i := 10) (oi := _) (v := .pointer (some ⟨r, 0, none⟩)) rfl (by kernel_rfl) (by kernel_rfl) (by kernel_rfl) (fun _ _ _ h => h) (Or.inl ⟨by rfl, fun V hV => by go_simp⟩) hHeld ?_
              refine wpAnyH_ready (rs := [11]) (by kernel_rfl) (by simp) ?_
              refine (AllReadyH.cons (o := _) rfl (fun K hK => ?wayE11) AllReadyH.nil)
              case wayE11 =>
                go_simp
                refine hK.out _ _ trivial (fun hHeld => ?_)
                clear hK K
                refine wpAnyH_done (by kernel_rfl) ?_ _
                go_wp2
                go_roundw
                case rel => exact ⟨k + 1, _, _, by go_num, by omega, NX.out⟩
                case measure => simp [intOf]; omega
      case wayA6 =>
        go_simp
        go_at_call 32
        refine (HN.out _ ?_).mono ?_
        exact (Kept.refl wr []).drew
        rintro e w8 ⟨h8, O8, rfl, s8, k8⟩
        have S8 := Lib.hid s8; have K8 := Lib.hid k8
        clear s8 k8
        obtain ⟨wx, hwx⟩ : ∃ wx, wx = w8.alloc (.cells #[.pointer (some ⟨h8, 0, none⟩)] 71) := ⟨_, rfl⟩
        have HX := Lib.hid hwx
        clear hwx
        go_wp2_with fail
        refine hK.out _ _ trivial (fun hHeld => ?_)
        clear hK K
        refine wpAnyH_ready (rs := [4, 7]) (by kernel_rfl) (by simp) ?_
        refine (AllReadyH.cons (o := _) rfl (fun K hK => ?wayF4) (AllReadyH.cons (o := _) rfl (fun K hK => ?wayF7) AllReadyH.nil))
        case wayF4 =>
          have c1 := K8.out.cell (p := ⟨r, 0, none⟩) (by simp) C0.out
          go_simp
          clear c1
          refine hK.out _ _ trivial (fun hHeld => ?_)
          clear hK K
          refine wpAnyH_ready (rs := [7]) (by kernel_rfl) (by simp) ?_
          refine (AllReadyH.cons (o := _) rfl (fun K hK => ?wayG7) AllReadyH.nil)
          case wayG7 =>
            go_simp
            refine hK.out _ _ trivial (fun hHeld => ?_)
            clear hK K
            refine wpAnyH_ready (rs := [8]) (by kernel_rfl) (by simp) ?_
            refine (AllReadyH.cons (o := _) rfl (fun K hK => ?wayH8) AllReadyH.nil)
            case wayH8 =>
              refine step_append_all _ rfl (.tmp 17) (.tmp 20) 85 85 rfl w.heap.size 71 i0 (.pointer none) 1 8 Try.underlying85 I.out.1 I.out.2.1 I.out.2.2.1 I.out.2.2.2 rfl (.slice sa k sc) k (hps L) rfl (M.out.own K8.out) _ 1 [.pointer (some ⟨h8, 0, none⟩)] rfl (src_one Try.underlying85 w8 _ rfl _) (by unfold maxLen; omega) (by omega) (M.out.base K8.out) ?_
              intro v9 w9 ho9 hf9 hg9 hl9
              obtain ⟨_, c9, f9, nx⟩ := M.out.next HR.out S8.out K8.out rfl ho9 hg9
              have NX := Lib.hid nx
              obtain ⟨a9, d9, hs9⟩ := ownsRow_shape ho9
              clear nx ho9 hf9 hg9 hl9
              subst hs9
              refine hK.out _ _ trivial (fun hHeld => ?_)
              clear hK K
              refine wpAnyH_take (i := 9) (oi := _) (v := .pointer (some ⟨r, 0, none⟩)) rfl (by kernel_rfl) (by kernel_rfl) (by kernel_rfl) (fun _ _ _ h => h) (Or.inl ⟨by rfl, fun V hV => by go_simp⟩) hHeld ?_
              refine wpAnyH_take (i := 10) (oi := _) (v := .pointer (some ⟨r, 0, none⟩)) rfl (by kernel_rfl) (by kernel_rfl) (by kernel_rfl) (fun _ _ _ h => h) (Or.inl ⟨by rfl, fun V hV => by go_simp⟩) hHeld ?_
              refine wpAnyH_ready (rs := [11]) (by kernel_rfl) (by simp) ?_
              refine (AllReadyH.cons (o := _) rfl (fun K hK => ?wayI11) AllReadyH.nil)
              case wayI11 =>
                go_simp
                refine hK.out _ _ trivial (fun hHeld => ?_)
                clear hK K
                refine wpAnyH_done (by kernel_rfl) ?_ _
                go_wp2
                go_roundw
                case rel => exact ⟨k + 1, _, _, by go_num, by omega, NX.out⟩
                case measure => simp [intOf]; omega
        case wayF7 =>
          go_simp
          refine hK.out _ _ trivial (fun hHeld => ?_)
          clear hK K
          refine wpAnyH_ready (rs := [4]) (by kernel_rfl) (by simp) ?_
          refine (AllReadyH.cons (o := _) rfl (fun K hK => ?wayJ4) AllReadyH.nil)
          case wayJ4 =>
            have c1 := K8.out.cell (p := ⟨r, 0, none⟩) (by simp) C0.out
            have c2 : (w8.alloc (.cells #[.pointer (some ⟨h8, 0, none⟩)] 71)).cell? ⟨r, 0, none⟩ = some (.slice sa k sc) := (K8.out.alloc _).cell (p := ⟨r, 0, none⟩) (by simp) C0.out
            go_simp
            clear c1 c2
            refine hK.out _ _ trivial (fun hHeld => ?_)
            clear hK K
            refine wpAnyH_ready (rs := [8]) (by kernel_rfl) (by simp) ?_
            refine (AllReadyH.cons (o := _) rfl (fun K hK => ?wayK8) AllReadyH.nil)
            case wayK8 =>
              refine step_append_all _ rfl (.tmp 17) (.tmp 20) 85 85 rfl w.heap.size 71 i0 (.pointer none) 1 8 Try.underlying85 I.out.1 I.out.2.1 I.out.2.2.1 I.out.2.2.2 rfl (.slice sa k sc) k (hps L) rfl (M.out.own K8.out) _ 1 [.pointer (some ⟨h8, 0, none⟩)] rfl (src_one Try.underlying85 w8 _ rfl _) (by unfold maxLen; omega) (by omega) (M.out.base K8.out) ?_
              intro v9 w9 ho9 hf9 hg9 hl9
              obtain ⟨_, c9, f9, nx⟩ := M.out.next HR.out S8.out K8.out rfl ho9 hg9
              have NX := Lib.hid nx
              obtain ⟨a9, d9, hs9⟩ := ownsRow_shape ho9
              clear nx ho9 hf9 hg9 hl9
              subst hs9
              refine hK.out _ _ trivial (fun hHeld => ?_)
              clear hK K
              refine wpAnyH_take (i := 9) (oi := _) (v := .pointer (some ⟨r, 0, none⟩)) rfl (by kernel_rfl) (by kernel_rfl) (by kernel_rfl) (fun _ _ _ h => h) (Or.inl ⟨by rfl, fun V hV => by go_simp⟩) hHeld ?_
              refine wpAnyH_take (i := 10) (oi := _) (v := .pointer (some ⟨r, 0, none⟩)) rfl (by kernel_rfl) (by kernel_rfl) (by kernel_rfl) (fun _ _ _ h => h) (Or.inl ⟨by rfl, fun V hV => by go_simp⟩) hHeld ?_
              refine wpAnyH_ready (rs := [11]) (by kernel_rfl) (by simp) ?_
              refine (AllReadyH.cons (o := _) rfl (fun K hK => ?wayL11) AllReadyH.nil)
              case wayL11 =>
                go_simp
                refine hK.out _ _ trivial (fun hHeld => ?_)
                clear hK K
                refine wpAnyH_done (by kernel_rfl) ?_ _
                go_wp2
                go_roundw
                case rel => exact ⟨k + 1, _, _, by go_num, by omega, NX.out⟩
                case measure => simp [intOf]; omega
    · have x1 : ¬ (k : Int) < (c : Int) := by omega
      obtain rfl : k = c := by omega
      go_wp2
      go_ret
      refine ⟨r, rfl, ⟨_, b, v, _, L, hmk.sm, ⟨hmk.hr, ?_, by have := HB.out; have := HR.out; omega⟩, rfl, hmk.tb.symm⟩, hmk.kp, HR.out⟩
      rw [hmk.ln]
      exact ownsRow_low hmk.hv HB.out
end Go.Proofs.Ytdjhcdgehmpikaa
