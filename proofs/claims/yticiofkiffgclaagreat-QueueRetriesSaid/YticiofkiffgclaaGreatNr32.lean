/-
  Spe, Spi, Sqb, Srb in one text.
-/
import Derived.Test.YticiofkiffgclaaGreatNr31
import Derived.Test.YticiofkiffgclaaGreatShelf2
import Derived.Lib.SliceRun
import Derived.LoopTactic
import Derived.Test.YticiofkiffgclaaGreatNr17
import Derived.Deep.Slices
import Derived.Deep.Fields
import Derived.Deep.Grids
import Derived.ChangeSame
import Derived.ProofKit
import Derived.OpenShut
import Derived.ChangeOld
import Derived.Below
import Derived.Laws.StructEq
import Derived.Deep.LoopGhost
import Derived.Test.YticiofkiffgclaaGreatNr7
import Derived.BigQuiet
import Derived.Deep.DeepCutAuto
namespace Go.Proofs.YticiofkiffgclaaGreat
set_option linter.unusedVariables false
open Go.RowKit

variable {w w' : World} {B h c : Nat} {V : Nat → Value} {l : Nat → List Ev}

theorem grow_any (n : Nat) (hn : n ≤ 10000000) (w : World) : Calls Tryz.prog 144 #[.slice none 0 0, .int .i64 n] w fun e w' => ∃ v', e = .returned v' ∧ OwnE w' w.heap.size 50 v' [] ∧ Kept w w' [] := by
  by_cases h0 : n = 0
  · subst h0
    exact (Any8.slices_Grow_room Tryz.growE none 0 0 0 w (by omega) (by omega) (by omega) (by omega)).mono (fun e w' ⟨h1, h2⟩ => ⟨_, h1, OwnE.nil _ _ _, by rw [h2]; exact Kept.refl _ _⟩)
  · obtain ⟨i0, hi, hz0, hz1, hz2⟩ := info_parts Tryz.infoEv_g6
    refine (Any8.slices_Grow_grow Tryz.growE i0 _ hi hz0 (by omega) none 0 0 n [] w (by omega) (by omega) (by rw [hz2]; omega) (by omega) (by simp) (fun _ => rfl) (by simp)).mono ?_
    rintro e w' ⟨rfl, rfl⟩
    have hge := grownCap_ge w (0 + n) 0 50
    have hle := grownCap_le_maxLen w (0 + n) 0 50 (by unfold maxLen; omega)
    have hge : n ≤ grownCap w (0 + n) 0 50 := by omega
    refine ⟨_, rfl, ⟨by simp [ecs], .inr ⟨w.heap.size, _, _, rfl, Nat.le_refl _, heap_alloc_new w.drew _, Nat.zero_le _, hle, ?_, by simp [ecs]⟩⟩, ((Kept.refl w []).drew).alloc _⟩
    change _ = grownCap w (0 + n) 0 50 * 8
    have e1 : grownCap w (0 + n) 0 (Shelf.Ren.t Tryz.growE_ren 25) = grownCap w (0 + n) 0 50 := rfl
    rw [e1]
    generalize grownCap w (0 + n) 0 50 = G at *
    simp [size_zeroCells, Value.cells]
    omega

def pre (l : Nat → List Ev) : Nat → List Ev
  | 0 => []
  | k + 1 => pre l k ++ l k

theorem pre_length (l : Nat → List Ev) (hl : ∀ i, i < 3 → (l i).length < 1000000) (k : Nat) (hk : k ≤ 3) : (pre l k).length ≤ k * 1000000 := by
  induction k with
  | zero => simp [pre]
  | succ k ih =>
    have := hl k (by omega)
    have := ih (by omega)
    rw [pre, List.length_append]
    omega

set_option maxHeartbeats 4000000 in
set_option maxRecDepth 100000 in
theorem concat_any (a : Sp spT w B h V l c) (hl : ∀ i, i < 3 → (l i).length < 1000000) :
    Calls Tryz.prog 86 #[.slice (some ⟨h, 0, none⟩) 3 3] w fun e w' => ∃ v', e = .returned v' ∧ OwnE w' w.heap.size 50 v' (pre l 3) ∧ Kept w w' [] := by
  have c0 := (a.cell 0 (by omega)).1
  have c1 := (a.cell 1 (by omega)).1
  have c2 := (a.cell 2 (by omega)).1
  obtain ⟨u0, n0, e0⟩ := a.shape 0 (by omega)
  obtain ⟨u1, n1, e1⟩ := a.shape 1 (by omega)
  obtain ⟨u2, n2, e2⟩ := a.shape 2 (by omega)
  rw [e0] at c0
  rw [e1] at c1
  rw [e2] at c2
  have h0 := hl 0 (by omega); have h1 := hl 1 (by omega); have h2 := hl 2 (by omega)
  obtain ⟨i0, hi, hz0, hz1, hz2⟩ := info_parts Tryz.infoEv_g6
  have I := Lib.hid (And.intro hi (And.intro hz0 (And.intro hz1 hz2)))
  have A := Lib.hid a
  have HL := Lib.hid (pre_length l hl)
  have R0 := Lib.hid (fun W (hk : Kept w W []) => (show RdE W (.slice u0 (l 0).length n0) (l 0) from by have := ((A.out.keep hk).own 0 (by omega)).rd; rwa [e0] at this))
  have R1 := Lib.hid (fun W (hk : Kept w W []) => (show RdE W (.slice u1 (l 1).length n1) (l 1) from by have := ((A.out.keep hk).own 1 (by omega)).rd; rwa [e1] at this))
  have R2 := Lib.hid (fun W (hk : Kept w W []) => (show RdE W (.slice u2 (l 2).length n2) (l 2) from by have := ((A.out.keep hk).own 2 (by omega)).rd; rwa [e2] at this))
  have C0 := Lib.hid (fun W (hk : Kept w W []) => (show W.cell? ⟨h, 0, none⟩ = some (.slice u0 (l 0).length n0) from by have := ((A.out.keep hk).cell 0 (by omega)).1; rwa [e0] at this))
  have C1 := Lib.hid (fun W (hk : Kept w W []) => (show W.cell? ⟨h, 1, none⟩ = some (.slice u1 (l 1).length n1) from by have := ((A.out.keep hk).cell 1 (by omega)).1; rwa [e1] at this))
  have C2 := Lib.hid (fun W (hk : Kept w W []) => (show W.cell? ⟨h, 2, none⟩ = some (.slice u2 (l 2).length n2) from by have := ((A.out.keep hk).cell 2 (by omega)).1; rwa [e2] at this))
  clear a hl e0 e1 e2 hi hz0 hz1 hz2
  obtain ⟨m0, hm0⟩ : ∃ m, m = (l 0).length := ⟨_, rfl⟩
  obtain ⟨m1, hm1⟩ : ∃ m, m = (l 1).length := ⟨_, rfl⟩
  obtain ⟨m2, hm2⟩ : ∃ m, m = (l 2).length := ⟨_, rfl⟩
  rw [← hm0] at h0 c0 R0 C0
  rw [← hm1] at h1 c1 R1 C1
  rw [← hm2] at h2 c2 R2 C2
  have HM := Lib.hid (And.intro hm0 (And.intro hm1 hm2))
  clear hm0 hm1 hm2
  go_enter Tryz.func86, Tryz.ntmps86
  go_wp2
  go_loopg [11, 3, 5] 3 (fun kx s11 s3 _ wr => ∃ k n : Nat, s11 = .int .i64 k ∧ s3 = .int .i64 n ∧ 3 - k ≤ kx ∧ w = wr ∧ (k = 0 ∧ n = 0 ∨ k = 1 ∧ n = m0 ∨ k = 2 ∧ n = m0 + m1 ∨ k = 3 ∧ n = m0 + m1 + m2))
  case atStart => exact ⟨0, 0, rfl, rfl, by omega, rfl, by omega⟩
  case round =>
    obtain ⟨k, n, rfl, rfl, hk, rfl, ⟨rfl, rfl⟩ | ⟨rfl, rfl⟩ | ⟨rfl, rfl⟩ | ⟨rfl, rfl⟩⟩ := hrel
    · go_wp2
      go_roundg 2
      case measure => omega
      case rel => exact ⟨1, m0, by go_num, by go_num, by omega, rfl, by omega⟩
    · go_wp2
      go_roundg 1
      case measure => omega
      case rel => exact ⟨2, n + m1, by go_num, by go_num, by omega, rfl, by omega⟩
    · go_wp2
      go_roundg 0
      case measure => omega
      case rel => exact ⟨3, m0 + m1 + m2, by go_num, by go_num, by omega, rfl, by omega⟩
    · clear c0 c1 c2
      obtain ⟨N, hN⟩ : ∃ N, N = m0 + m1 + m2 := ⟨_, rfl⟩
      have HG := Lib.hid (grow_any N (by omega) w)
      rw [← hN]
      clear hN
      go_wp2_with (go_at_call 144; refine HG.out.mono ?_; rintro e w1 ⟨v1, rfl, o1, k1⟩)
      have O1 := Lib.hid o1; have K1 := Lib.hid k1
      clear o1 k1 HG
      go_wp2
      go_loopg [27, 6, 8] 3 (fun kx s27 s6 _ wr => ∃ (k : Nat) (v : Value), s27 = .int .i64 k ∧ s6 = v ∧ k ≤ 3 ∧ 3 - k ≤ kx ∧ RowKit.Hid (OwnE wr w.heap.size 50 v (pre l k) ∧ Kept w wr []))
      case atStart => exact ⟨0, v1, rfl, rfl, by omega, by omega, O1.out, K1.out⟩
      case round =>
        clear O1 K1
        obtain ⟨k, v, rfl, rfl, hk3, hkx, HO⟩ := hrel
        have hk4 : k = 0 ∨ k = 1 ∨ k = 2 ∨ k = 3 := by omega
        obtain ⟨n, hn⟩ : ∃ n, n = (pre l k).length := ⟨_, rfl⟩
        have hn3 : n ≤ 3000000 := by have := HL.out k hk3; omega
        have HN := Lib.hid hn
        clear hn
        have hbr : w.heap.size ≤ wr.heap.size := HO.out.2.size
        rcases hk4 with rfl | rfl | rfl | rfl
        · have cc := C0.out _ HO.out.2
          go_wp2_with (at_builtin; refine wpList_append_src _ rfl (.tmp 31) (.tmp 32) 57 57 rfl w.heap.size 50 i0 _ 8 80 Tryz.underlying57 I.out.1 I.out.2.1 I.out.2.2.1 I.out.2.2.2 rfl _ n (ecs (pre l 0)) rfl ?hown _ m0 (ecs (l 0)) rfl ?src ?b1 ?b2 ?base ?next)
          case hown => have := HO.out.1; unfold OwnE at this; rw [← HN.out] at this; exact this
          case src => have := (R0.out _ HO.out.2).src (P := Tryz.prog) Tryz.underlying57; rw [← HM.out.1] at this; exact this
          case b1 => unfold maxLen; omega
          case b2 => omega
          case base => exact hbr
          case next =>
            intro v2 w3 hown hgrow _ _
            have ho : OwnE w3 w.heap.size 50 v2 (pre l (0 + 1)) := by unfold OwnE; rw [pre, ecs_append, List.length_append, ← HN.out, ← HM.out.1]; exact hown
            have hk : Kept w w3 [] := HO.out.2.grown hgrow (fun k hk => .inr (HO.out.1.lt k hk).1)
            have Ho := Lib.hid (And.intro ho hk)
            clear ho hk hown hgrow cc HO
            go_wp2
            go_roundg 2
            case measure => omega
            case rel => exact ⟨0 + 1, v2, by go_num, rfl, by omega, by omega, Ho⟩
        · have cc := C1.out _ HO.out.2
          go_wp2_with (at_builtin; refine wpList_append_src _ rfl (.tmp 31) (.tmp 32) 57 57 rfl w.heap.size 50 i0 _ 8 80 Tryz.underlying57 I.out.1 I.out.2.1 I.out.2.2.1 I.out.2.2.2 rfl _ n (ecs (pre l 1)) rfl ?hown _ m1 (ecs (l 1)) rfl ?src ?b1 ?b2 ?base ?next)
          case hown => have := HO.out.1; unfold OwnE at this; rw [← HN.out] at this; exact this
          case src => have := (R1.out _ HO.out.2).src (P := Tryz.prog) Tryz.underlying57; rw [← HM.out.2.1] at this; exact this
          case b1 => unfold maxLen; omega
          case b2 => omega
          case base => exact hbr
          case next =>
            intro v2 w3 hown hgrow _ _
            have ho : OwnE w3 w.heap.size 50 v2 (pre l (1 + 1)) := by unfold OwnE; rw [pre, ecs_append, List.length_append, ← HN.out, ← HM.out.2.1]; exact hown
            have hk : Kept w w3 [] := HO.out.2.grown hgrow (fun k hk => .inr (HO.out.1.lt k hk).1)
            have Ho := Lib.hid (And.intro ho hk)
            clear ho hk hown hgrow cc HO
            go_wp2
            go_roundg 1
            case measure => omega
            case rel => exact ⟨1 + 1, v2, by go_num, rfl, by omega, by omega, Ho⟩
        · have cc := C2.out _ HO.out.2
          go_wp2_with (at_builtin; refine wpList_append_src _ rfl (.tmp 31) (.tmp 32) 57 57 rfl w.heap.size 50 i0 _ 8 80 Tryz.underlying57 I.out.1 I.out.2.1 I.out.2.2.1 I.out.2.2.2 rfl _ n (ecs (pre l 2)) rfl ?hown _ m2 (ecs (l 2)) rfl ?src ?b1 ?b2 ?base ?next)
          case hown => have := HO.out.1; unfold OwnE at this; rw [← HN.out] at this; exact this
          case src => have := (R2.out _ HO.out.2).src (P := Tryz.prog) Tryz.underlying57; rw [← HM.out.2.2] at this; exact this
          case b1 => unfold maxLen; omega
          case b2 => omega
          case base => exact hbr
          case next =>
            intro v2 w3 hown hgrow _ _
            have ho : OwnE w3 w.heap.size 50 v2 (pre l (2 + 1)) := by unfold OwnE; rw [pre, ecs_append, List.length_append, ← HN.out, ← HM.out.2.2]; exact hown
            have hk : Kept w w3 [] := HO.out.2.grown hgrow (fun k hk => .inr (HO.out.1.lt k hk).1)
            have Ho := Lib.hid (And.intro ho hk)
            clear ho hk hown hgrow cc HO
            go_wp2
            go_roundg 0
            case measure => omega
            case rel => exact ⟨2 + 1, v2, by go_num, rfl, by omega, by omega, Ho⟩
        · obtain ⟨ho, hk⟩ := HO.out
          have Ho := Lib.hid ho; have Hk := Lib.hid hk
          clear ho hk HO hn3
          go_wp2
          go_ret
          exact ⟨_, rfl, Ho.out, Hk.out⟩

set_option maxHeartbeats 2000000 in
theorem all_any (a : Sp spT w B h V l c) (hl : ∀ i, i < 3 → (l i).length < 1000000) :
    Calls Tryz.prog 27 #[.pointer (some ⟨h, 0, none⟩)] w fun e w' => ∃ v', e = .returned v' ∧ OwnE w' w.heap.size 50 v' (srt byId (pre l 3)) ∧ Kept w w' [] := by
  have HC := Lib.hid (concat_any a hl)
  have HL : RowKit.Hid ((pre l 3).length < 1152921504606846976) := Lib.hid (by have := pre_length l hl 3 (by omega); omega)
  clear a hl
  go_enter Tryz.func27, Tryz.ntmps27
  go_wp2_with fail
  refine HC.out.mono ?_
  rintro e w1 ⟨v1, rfl, o1, k1⟩
  have HS := Lib.hid (sort_any o1 HL.out)
  have O1 := Lib.hid o1; have K1 := Lib.hid k1
  clear o1 k1
  go_wp2_with fail
  refine HS.out.mono ?_
  rintro e w2 ⟨rfl, o2, f2⟩
  have O2 := Lib.hid o2; have F2 := Lib.hid f2
  clear o2 f2
  go_wp2
  go_ret
  refine ⟨_, rfl, O2.out, ?_⟩
  have f := F2.out
  have k := K1.out
  exact ⟨f.os.trans k.os, f.tape.trans k.tape, f.output.trans k.output, Nat.le_trans k.size f.size, fun i hi hn => (f.block i (Nat.lt_of_lt_of_le hi k.size) (fun e => by have := (O1.out.lt i e).1; omega)).trans (k.block i hi hn)⟩

end Go.Proofs.YticiofkiffgclaaGreat

namespace Go.Proofs.YticiofkiffgclaaGreat
set_option linter.unusedVariables false
open Go.RowKit

def noV : Nat → Value := fun _ => .slice none 0 0
theorem dst_no : Dst noV := by intro i j k _ _ _ h; simp [noV, Value.ownBlock] at h

def eI (n : Int) : Ev := ⟨n, 0, ⟨#[]⟩, 0, 0, 0, 0, ⟨#[]⟩⟩

end Go.Proofs.YticiofkiffgclaaGreat

namespace Go.Proofs.YticiofkiffgclaaGreat
set_option linter.unusedVariables false
open Go.RowKit

variable {T : TypeId} {F : Nat → Option Value} {w w' : World} {B h oo c : Nat} {V : Nat → Value} {l : Nat → List Ev}

theorem RdE.eight {a : Option Addr} {n c : Nat} {m : List Ev} (x : RdE w (.slice a n c) m) {k : Nat} {r : Ev} (hr : m[k]? = some r) : ∃ b o, a = some ⟨b, o, none⟩ ∧
    w.cell? ⟨b, o + k * 8, none⟩ = some (.int .i64 r.id) ∧ w.cell? ⟨b, o + k * 8 + 1, none⟩ = some (.int .i64 r.tx) ∧ w.cell? ⟨b, o + k * 8 + 2, none⟩ = some (.string r.ow) ∧ w.cell? ⟨b, o + k * 8 + 3, none⟩ = some (.int .i64 r.tr) ∧
    w.cell? ⟨b, o + k * 8 + 4, none⟩ = some (.int .i64 r.tb) ∧ w.cell? ⟨b, o + k * 8 + 5, none⟩ = some (.int .u8 r.kd) ∧ w.cell? ⟨b, o + k * 8 + 6, none⟩ = some (.int .i64 r.key) ∧ w.cell? ⟨b, o + k * 8 + 7, none⟩ = some (.string r.t) := by
  obtain ⟨hk, rfl⟩ := List.getElem?_eq_some_iff.1 hr
  obtain ⟨b, o, rfl, hc⟩ := x.at k hk
  exact ⟨b, o, rfl, hc 0 (by decide), hc 1 (by decide), hc 2 (by decide), hc 3 (by decide), hc 4 (by decide), hc 5 (by decide), hc 6 (by decide), hc 7 (by decide)⟩

end Go.Proofs.YticiofkiffgclaaGreat

namespace Go.Proofs.YticiofkiffgclaaGreat
set_option linter.unusedVariables false
open Go.RowKit

variable {w w' : World} {B h c : Nat} {V : Nat → Value} {l : Nat → List Ev}

theorem src_ev (w : World) (e : Ev) : Src Tryz.prog 8 57 (.slice (some ⟨w.heap.size, 0, none⟩) 1 1) 1 e.cs.toList (w.alloc (.cells e.cs 50)) := by
  refine Src.ofSlice _ Tryz.underlying57 ⟨w.heap.size, 0, none⟩ 1 1 _ rfl (fun j x hx => ?_) (encE_one e)
  rw [Addr.add_lit, cell_of_row _ _ _ _ _ _ (heap_alloc_new w (.cells e.cs 50)), Nat.zero_add]
  simpa using hx

end Go.Proofs.YticiofkiffgclaaGreat
