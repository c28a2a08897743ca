/-
  Td, Te in one text.
-/
import Derived.Test.YticiofkiffgclaaGreatQo15
import Derived.Test.YticiofkiffgclaaGreatQo1
import Derived.Deep.RegionHeld3
namespace Go.Proofs.YticiofkiffgclaaGreat
open Go.RowKit Go.Maps

theorem Mg.size {w : World} {B p b : Nat} {v : Value} {st : List Nat} (h : Mg w B p b v st) : B ≤ w.heap.size := by have := heap_lt h.hp; have := h.bp; omega

theorem Mg.len {w : World} {B p b : Nat} {v : Value} {st : List Nat} (h : Mg w B p b v st) (ty : TypeId) : (Builtin.len_ #[117] ty #[.map (some b)]).run Tryz.prog w = .ok (.int .i64 (opens st).length) w := by
  have := h.hm.len Tryz.underlying117 ty
  rw [size_Dm] at this
  exact this

theorem opens_lt {st : List Nat} : ∀ y ∈ opens st, y < (st.length : Int) + 1 := fun y hy => by have := opens_in hy; omega

theorem comm_snoc (st : List Nat) : comm (st ++ [1]) = comm st ++ [false] := by simp [comm]

set_option maxRecDepth 100000 in
theorem mbegin_full {w : World} {B p b : Nat} {v : Value} {st : List Nat} (h : Mg w B p b v st) (hf : 6 ≤ (opens st).length ∨ st.length + 1 = 1048576) :
    Calls Tryz.prog 18 #[.pointer (some ⟨p, 0, none⟩)] w fun e w' => e = .returned (.tuple #[.int .i64 0, .int .i64 8]) ∧ w = w' := by
  have hnx := mnext_any h
  have hln := h.len
  obtain ⟨c0, c1⟩ := h.cell
  clear h
  obtain ⟨n, hn⟩ : ∃ n, (opens st).length = n := ⟨_, rfl⟩
  rw [hn] at hln hf
  clear hn
  by_cases h1 : 6 ≤ n
  · go_enter Tryz.func18, Tryz.ntmps18
    go_wp2_with (go_at_call 17; refine hnx.mono ?_; rintro e w' ⟨rfl, rfl⟩)
    go_ret2
    exact ⟨rfl, rfl⟩
  · have h2 : (1048576 : Int) ≤ (st.length : Int) + 1 := by omega
    clear hf
    go_enter Tryz.func18, Tryz.ntmps18
    go_wp2_with (go_at_call 17; refine hnx.mono ?_; rintro e w' ⟨rfl, rfl⟩)
    go_ret2
    exact ⟨rfl, rfl⟩

set_option maxRecDepth 100000 in
set_option maxHeartbeats 1000000 in
theorem mbegin_ok {w : World} {B p b : Nat} {v : Value} {st : List Nat} (h : Mg w B p b v st) (h1 : (opens st).length < 6) (h2 : st.length + 1 < 1048576) :
    Calls Tryz.prog 18 #[.pointer (some ⟨p, 0, none⟩)] w fun e w' => e = .returned (.tuple #[.int .i64 ((st.length : Int) + 1), .int .i64 0]) ∧ ∃ v', Mg w' B p b v' (st ++ [1]) ∧ Fm B mts w w' := by
  have hnx := mnext_any h
  have hln := h.len
  obtain ⟨g, cap, rfl, hgB, hcap, hgc⟩ := h.shape
  obtain ⟨c0, c1⟩ := h.cell
  obtain ⟨n, hn⟩ : ∃ n, (opens st).length = n := ⟨_, rfl⟩
  have Hn := Lib.hid hn
  rw [hn] at hln h1
  have H := Lib.hid h
  have hsz := h.size
  have hwf : (Lit.int .i64 ((st.length : Int) + 1)).wf = true := wf_i64 (by omega)
  obtain ⟨N, hN⟩ : ∃ N : Int, (st.length : Int) + 1 = N := ⟨_, rfl⟩
  have h3 : decide ((1048576 : Int) ≤ N) = false := by rw [decide_eq_false_iff_not]; omega
  rw [hN] at hnx hwf ⊢
  have HN := Lib.hid hN
  have h4 : ¬ (6 : Int) ≤ (n : Int) := by omega
  obtain ⟨i0, hi, hz0, hz1, hz2⟩ := info_parts Tryz.infoBool
  have I := Lib.hid (And.intro hi (And.intro hz0 (And.intro hz1 hz2)))
  have hkey := Lib.hid (key_of hwf)
  have HM := Lib.hid H.out.hm
  have hmax : st.length < maxLen := by simp only [maxLen]; omega
  have Hmax := Lib.hid hmax
  have H2 := Lib.hid h2
  clear h hN hn hwf hi hz0 hz1 hz2 hcap hgc h2 hmax
  go_enter Tryz.func18, Tryz.ntmps18
  go_wp2_with (first
    | (go_at_call 17; refine hnx.mono ?_; rintro e w' ⟨rfl, rfl⟩)
    | (at_mapUpdate; go_must (refine wpList_mapUpdate_in _ rfl _ _ _ 117 rfl 2 4 keyed Tryz.underlying117 (plainElem Tryz.prog 4) b st.length (Dm (opens st)) rfl HM.out Hmax.out _ _ _ rfl rfl hkey.out (.lit (.bool true)) [] (plainElem_bool Tryz.underlying4 true) ?_)))
  · intro w1 hm1 ht1
    have fm1 := Fm.turned ht1 [] H.out.bb
    rw [put_Dm (by rw [← HN.out]; exact opens_lt), ← HN.out, ← opens_snoc] at hm1
    have hp1 := fm1.heap H.out.hp (by simp)
    have hv1 := ownsRow_fm H.out.hv fm1 (by simp)
    have F1 := Lib.hid fm1; have P1 := Lib.hid hp1; have V1 := Lib.hid hv1; have M1 := Lib.hid hm1
    have c0' : w1.cell? ⟨p, 0, none⟩ = some (.map (some b)) := by rw [cell_of_row w1 p 0 _ _ _ hp1]; rfl
    have c1' : w1.cell? ⟨p, 1, none⟩ = some (.slice (some ⟨g, 0, none⟩) (st.length + 1) cap) := by rw [cell_of_row w1 p 1 _ _ _ hp1]; rfl
    have hs1 : B ≤ w1.heap.size := by have := heap_lt hp1; have := H.out.bp; omega
    have f1 : w1.frozen? ⟨p, 1, none⟩ = false := frozen_of_row _ _ _ _ _ hp1
    clear hm1 ht1 fm1 hp1 hv1 c0 c1
    go_wp2_with (at_builtin; refine wpList_append_fr _ rfl (.tmp 28) (.tmp 29) 118 118 rfl B 4 i0 (.bool false) 1 1 Tryz.underlying118 I.out.1 I.out.2.1 I.out.2.2.1 I.out.2.2.2 rfl (.slice (some ⟨g, 0, none⟩) (st.length + 1) cap) (st.length + 1) (bls (comm st)) rfl ?hown _ 1 [.bool false] rfl (src_one Tryz.underlying118 w1 _ rfl _) ?b1 ?b2 ?base ?next)
    case hown => exact ownsRow_fr V1.out ((Fr.refl B [] w1).alloc _) (by simp)
    case b1 => have := H2.out; simp only [maxLen]; omega
    case b2 => have := H2.out; omega
    case base => simp; omega
    case next =>
      intro v2 w2 ho2 hf2 _
      obtain ⟨g2, cap2, rfl⟩ : ∃ g2 cap2, v2 = .slice (some ⟨g2, 0, none⟩) (st.length + 1 + 1) cap2 := by
        rcases ho2.2 with ⟨_, h0⟩ | ⟨g2, cap2, _, hv, _⟩
        · omega
        · exact ⟨g2, cap2, hv⟩
      have ha : Fr B [] w1 (w1.alloc (.cells #[.bool false] 4)) := (Fr.refl B [] w1).alloc _
      have P2 := Lib.hid (hf2.heap (ha.heap P1.out (by simp)) (by decide))
      have M2 := Lib.hid (ownsMap_fr (ownsMap_fr M1.out ha) hf2)
      have O2 := Lib.hid ho2
      have F2 := Lib.hid (((F1.out.mono (Nat.le_refl B) (ts' := mts) (by simp)).trans (Fm.ofFr (ha.mono (Nat.le_refl B) (by simp)))).trans (Fm.ofFr (hf2.mono (Nat.le_refl B) (ts' := mts) (by simp [mts]))))
      have f2 : w2.frozen? ⟨p, 1, none⟩ = false := frozen_of_row _ _ _ _ _ P2.out
      have c2 : w2.cell? ⟨p, 1, none⟩ = some (.slice (some ⟨g, 0, none⟩) (st.length + 1) cap) := by rw [cell_of_row w2 p 1 _ _ _ P2.out]; rfl
      clear ho2 hf2 ha
      go_wp2
      go_ret2
      refine ⟨rfl, .slice (some ⟨g2, 0, none⟩) (st.length + 1 + 1) cap2, ?_, ?_⟩
      · have f3 : Fr B [120] w2 (w2.setCell ⟨p, 1, none⟩ (.slice (some ⟨g2, 0, none⟩) (st.length + 1 + 1) cap2)) := (Fr.refl B _ w2).setCell P2.out (.inr ⟨H.out.bp, by simp⟩) 1 _
        refine { hp := ?_, hm := ?_, hv := ?_, bp := H.out.bp, bb := H.out.bb, hl := by have := H2.out; simp; omega, hs := ?_ }
        · simpa using heap_setCell_at P2.out 1 (.slice (some ⟨g2, 0, none⟩) (st.length + 1 + 1) cap2)
        · simpa using ownsMap_fr M2.out f3
        · have := ownsRow_fr O2.out f3 (by decide)
          rw [comm_snoc, bls, List.map_append, List.length_append]
          exact this
        · intro s hs
          rcases List.mem_append.1 hs with h | h
          · exact H.out.hs s h
          · simp at h; omega
      · exact F2.out.trans (Fm.ofFr ((Fr.refl B mts w2).setCell P2.out (.inr ⟨H.out.bp, by simp [mts]⟩) 1 _))

theorem mend_bad {w : World} {B p b : Nat} {v : Value} {st : List Nat} (h : Mg w B p b v st) (x : Int) (hx : (Lit.int .i64 x).wf = true) (hb : stAt st x ≠ 1) :
    Calls Tryz.prog 81 #[.pointer (some ⟨p, 0, none⟩), .int .i64 x] w fun e w' => e = .returned (.int .i64 7) ∧ w = w' := by
  have hlk := look_bool h.hm x hx
  rw [show decide (x ∈ opens st) = false by rw [decide_eq_false_iff_not, mem_opens]; exact hb] at hlk
  obtain ⟨c0, c1⟩ := h.cell
  clear h hx hb
  go_enter Tryz.func81, Tryz.ntmps81
  go_wp2
  go_ret
  exact ⟨rfl, rfl⟩

theorem comm_abort {st : List Nat} {x : Int} (h : stAt st x = 1) : comm (st.set (x.toNat - 1) 3) = comm st := by
  obtain ⟨h1, h2⟩ := stAt_in (by rw [h]; decide)
  have h3 : x.toNat - 1 < st.length := by omega
  have h4 := stAt_nat h3
  rw [show ((x.toNat - 1 : Nat) : Int) + 1 = x by omega, h] at h4
  rw [comm, comm, List.map_set]
  congr 1
  apply List.ext_getElem?
  intro i
  rw [List.getElem?_set]
  by_cases e : x.toNat - 1 = i
  · subst e
    simp [h3, ← h4]
  · rw [if_neg e]

theorem comm_commit {st : List Nat} {x : Int} (h : stAt st x = 1) : comm (st.set (x.toNat - 1) 2) = (comm st).set x.toNat true := by
  obtain ⟨h1, h2⟩ := stAt_in (by rw [h]; decide)
  rw [comm, comm, List.map_set, show x.toNat = (x.toNat - 1) + 1 by omega, List.set_cons_succ]
  rfl

theorem set_states {st : List Nat} {i s : Nat} (h : ∀ s ∈ st, 1 ≤ s ∧ s ≤ 3) (hs : 1 ≤ s ∧ s ≤ 3) : ∀ t ∈ st.set i s, 1 ≤ t ∧ t ≤ 3 := by
  intro t ht
  rcases List.mem_or_eq_of_mem_set ht with h1 | h1
  · exact h t h1
  · rw [h1]; exact hs

theorem mend_ok {w : World} {B p b : Nat} {v : Value} {st : List Nat} (h : Mg w B p b v st) (x : Int) (hx : (Lit.int .i64 x).wf = true) (hb : stAt st x = 1) :
    Calls Tryz.prog 81 #[.pointer (some ⟨p, 0, none⟩), .int .i64 x] w fun e w' => e = .returned (.int .i64 0) ∧ Mg w' B p b v (st.set (x.toNat - 1) 3) ∧ Fm B [] w w' := by
  have hlk := look_bool h.hm x hx
  rw [show decide (x ∈ opens st) = true by rw [decide_eq_true_eq, mem_opens]; exact hb] at hlk
  obtain ⟨c0, c1⟩ := h.cell
  have H := Lib.hid h; have hkey := Lib.hid (key_of hx); have HM := Lib.hid h.hm; have Hb := Lib.hid hb
  clear h hx hb
  go_enter Tryz.func81, Tryz.ntmps81
  go_wp2_with (at_delete; refine wpList_delete_own _ rfl _ _ 117 2 rfl 4 keyed Tryz.underlying117 (plainElem Tryz.prog 4) b st.length (Dm (opens st)) rfl HM.out _ _ rfl hkey.out ?_)
  intro w1 hm1 ht1
  have fm := Lib.hid (Fm.turned ht1 [] H.out.bb)
  rw [del_Dm, ← opens_set (s := 3) Hb.out (by decide)] at hm1
  have M := Lib.hid hm1
  clear hm1 ht1
  go_wp2
  go_ret
  refine ⟨rfl, ?_, fm.out⟩
  exact { hp := fm.out.heap H.out.hp (by simp), hm := by simpa using M.out, hv := by rw [comm_abort Hb.out, List.length_set]; exact ownsRow_fm H.out.hv fm.out (by simp), bp := H.out.bp, bb := H.out.bb, hl := by simpa using H.out.hl, hs := set_states H.out.hs (by decide) }

theorem mabort_bad {w : World} {B p b : Nat} {v : Value} {st : List Nat} (h : Mg w B p b v st) (x : Int) (hx : (Lit.int .i64 x).wf = true) (hb : stAt st x ≠ 1) :
    Calls Tryz.prog 22 #[.pointer (some ⟨p, 0, none⟩), .int .i64 x] w fun e w' => e = .returned (.int .i64 7) ∧ w = w' := by
  have hc := mend_bad h x hx hb
  clear h hx hb
  go_enter Tryz.func22, Tryz.ntmps22
  go_wp2_with (go_at_call 81; refine hc.mono ?_; rintro e w' ⟨rfl, rfl⟩)
  go_ret
  exact ⟨rfl, rfl⟩

theorem mabort_ok {w : World} {B p b : Nat} {v : Value} {st : List Nat} (h : Mg w B p b v st) (x : Int) (hx : (Lit.int .i64 x).wf = true) (hb : stAt st x = 1) :
    Calls Tryz.prog 22 #[.pointer (some ⟨p, 0, none⟩), .int .i64 x] w fun e w' => e = .returned (.int .i64 0) ∧ Mg w' B p b v (st.set (x.toNat - 1) 3) ∧ Fm B mts w w' := by
  have hc := Lib.hid (mend_ok h x hx hb)
  clear h hx hb
  go_enter Tryz.func22, Tryz.ntmps22
  go_wp2_with (go_at_call 81; refine hc.out.mono ?_; rintro e w' ⟨rfl, h1, h2⟩)
  go_ret
  exact ⟨rfl, h1, h2.mono (Nat.le_refl _) (by simp)⟩

theorem mcommit_bad {w : World} {B p b : Nat} {v : Value} {st : List Nat} (h : Mg w B p b v st) (x : Int) (hx : (Lit.int .i64 x).wf = true) (hb : stAt st x ≠ 1) :
    Calls Tryz.prog 21 #[.pointer (some ⟨p, 0, none⟩), .int .i64 x] w fun e w' => e = .returned (.int .i64 7) ∧ w = w' := by
  have hc := mend_bad h x hx hb
  clear h hx hb
  go_enter Tryz.func21, Tryz.ntmps21
  go_wp2_with (go_at_call 81; refine hc.mono ?_; rintro e w' ⟨rfl, rfl⟩)
  go_ret
  exact ⟨rfl, rfl⟩

theorem Mg.fz {w : World} {B p b g n cap : Nat} {st : List Nat} (h : Mg w B p b (.slice (some ⟨g, 0, none⟩) n cap) st) (i : Nat) : w.frozen? ⟨g, i, none⟩ = false := by
  obtain ⟨g', cap', e, _, _, cur, hc, _⟩ := h.shape
  simp only [Value.slice.injEq, Option.some.injEq, Addr.mk.injEq] at e
  obtain ⟨⟨rfl, _⟩, _⟩ := e
  exact frozen_of_row _ _ _ _ _ hc

theorem Mg.commit {w : World} {B p b g cap k : Nat} {st : List Nat} (h : Mg w B p b (.slice (some ⟨g, 0, none⟩) (st.length + 1) cap) (st.set (k - 1) 3)) (hb : stAt st k = 1) (h0 : ∀ s ∈ st, 1 ≤ s ∧ s ≤ 3) :
    Mg (w.setCell ⟨g, k, none⟩ (.bool true)) B p b (.slice (some ⟨g, 0, none⟩) (st.length + 1) cap) (st.set (k - 1) 2) ∧ Fr B [4] w (w.setCell ⟨g, k, none⟩ (.bool true)) := by
  obtain ⟨h1, h2⟩ := stAt_in (by rw [hb]; decide : stAt st k ≠ 0)
  obtain ⟨g', cap', e, hgB, hcap, cur, hc, hsz, htk⟩ := h.shape
  simp only [Value.slice.injEq, Option.some.injEq, Addr.mk.injEq, List.length_set] at e
  obtain ⟨⟨rfl, _⟩, _, rfl⟩ := e
  have f3 : Fr B [4] w (w.setCell ⟨g, k, none⟩ (.bool true)) := (Fr.refl B _ w).setCell hc (.inr ⟨hgB, by simp⟩) k _
  have e3 : comm (st.set (k - 1) 3) = comm st := by have := comm_abort hb; rwa [Int.toNat_natCast] at this
  have e2 : comm (st.set (k - 1) 2) = (comm st).set k true := by have := comm_commit hb; rwa [Int.toNat_natCast] at this
  have o3 : opens (st.set (k - 1) 3) = opens (st.set (k - 1) 2) := by
    have a := opens_set (s := 3) hb (by decide)
    have b := opens_set (s := 2) hb (by decide)
    rw [Int.toNat_natCast] at a b
    rw [a, b]
  have hl : st.length < 1048576 := by simpa using h.hl
  refine ⟨{ hp := f3.heap h.hp (by decide), hm := ?_, hv := ?_, bp := h.bp, bb := h.bb, hl := by simpa using hl, hs := set_states h0 (by decide) }, f3⟩
  · have := ownsMap_fr h.hm f3
    rw [← o3, List.length_set]
    simpa using this
  · rw [e2, List.length_set]
    rw [e3, List.length_set] at htk
    refine ⟨by simp [bls_length, comm_length], .inr ⟨g, cap, _, rfl, hgB, heap_setCell_at hc k _, by simpa using hcap, ?_, ?_, ?_⟩⟩
    · rcases h.hv.2 with ⟨h9, _⟩ | ⟨_, _, _, e, _, _, _, hcm, _⟩
      · cases h9
      · simp only [Value.slice.injEq] at e
        obtain ⟨_, _, rfl⟩ := e
        exact hcm
    · simpa using hsz
    · rw [Array.toList_setIfInBounds, Nat.mul_one, List.take_set, htk, bls, bls, List.map_set]

set_option maxRecDepth 20000 in
theorem mcommit_ok {w : World} {B p b : Nat} {v : Value} {st : List Nat} (h : Mg w B p b v st) (x : Int) (hx : (Lit.int .i64 x).wf = true) (hb : stAt st x = 1) :
    Calls Tryz.prog 21 #[.pointer (some ⟨p, 0, none⟩), .int .i64 x] w fun e w' => e = .returned (.int .i64 0) ∧ Mg w' B p b v (st.set (x.toNat - 1) 2) ∧ Fm B mts w w' := by
  have hc := Lib.hid (mend_ok h x hx hb)
  obtain ⟨h1, h2⟩ := stAt_in (by rw [hb]; decide : stAt st x ≠ 0)
  obtain ⟨k, hk⟩ : ∃ k : Nat, x = k := ⟨x.toNat, by omega⟩
  subst hk
  have Hb := Lib.hid hb
  have H0 := Lib.hid h.hs
  have h3 : (k : Int) < (st.length : Int) + 1 := by omega
  have h4 : ¬ (k : Int) < 0 := by omega
  obtain ⟨g, cap, rfl, hgB, hcap, _⟩ := h.shape
  rw [Int.toNat_natCast] at hc ⊢
  have H12 := Lib.hid (And.intro h1 h2)
  clear h hx hb hcap h1 h2
  go_enter Tryz.func21, Tryz.ntmps21
  go_wp2_with fail
  refine hc.out.mono ?_
  rintro e w1 ⟨rfl, hm, hf⟩
  have c1 := hm.cell.2
  have fz := hm.fz k
  have hu : w1.cell? ⟨g, k, none⟩ = some (.bool (stAt (st.set (k - 1) 3) k == 2)) := by
    obtain ⟨_, _, e, _⟩ := hm.shape
    simp only [Value.slice.injEq, List.length_set] at e
    obtain ⟨_, _, rfl⟩ := e
    have h : Mg w1 B p b (.slice (some ⟨g, 0, none⟩) ((st.set (k - 1) 3).length + 1) cap) (st.set (k - 1) 3) := by rw [List.length_set]; exact hm
    exact h.cell_at (by have := H12.out; rw [List.length_set]; omega)
  obtain ⟨u, hu'⟩ : ∃ u : Bool, u = (stAt (st.set (k - 1) 3) k == 2) := ⟨_, rfl⟩
  rw [← hu'] at hu
  have M := Lib.hid hm; have F := Lib.hid hf
  clear hm hf hu'
  go_wp2
  go_ret
  obtain ⟨m2, f2⟩ := M.out.commit Hb.out H0.out
  exact ⟨rfl, m2, (F.out.mono (Nat.le_refl _) (by simp)).trans (Fm.ofFr (f2.mono (Nat.le_refl _) (by simp [mts])))⟩

end Go.Proofs.YticiofkiffgclaaGreat

namespace Go.Proofs.YticiofkiffgclaaGreat
open Go.RowKit Go.Maps Go.Sort Go.Shelf

theorem sorts_any (m : Nat) : AnyZI.SortsIn Tryz.prog Tryz.sortedA_ren Fence.wide m :=
  ⟨fun blk off cap ss W hH hblk hsz => callsIn_wide.2 (AnyM.slices_Sort_int Tryz.sortA blk off cap ss W hH hblk hsz),
   fun p cap W => callsIn_wide.2 (AnyM.slices_Sort_int_none Tryz.sortA p cap W)⟩

theorem keys_any (mb : Option Nat) (W : World) : Calls Tryz.prog 85 #[.map mb] W fun e w' => e = .returned (.func (.func 143) #[] #[.pointer (some ⟨W.heap.size, 0, none⟩)]) ∧ w' = W.alloc (.cells #[.map mb] 117) :=
  (callsIn_wide (n := 5)).1 (AnyZI.keys_in Tryz.keysA Fence.wide 5 trivial rfl mb W)

theorem sorted_any {W : World} {b n c : Nat} {l : List Int} (h : Mp W b n l) (hc : W.cell? ⟨c, 0, none⟩ = some (.map (some b))) (hs : l.Pairwise (fun a b => a < b)) (hl : l.length ≤ 1048576) :
    Calls Tryz.prog 84 #[.func (.func 143) #[] #[.pointer (some ⟨c, 0, none⟩)]] W fun e w' => ∃ v, e = .returned v ∧ w'.ownsRow W.heap.size 2 1 v l.length (l.map encZ) ∧ Kept W w' [] := by
  have hcl : c < W.heap.size := World.block_lt_of_cell? W _ hc
  have hseq : SeqGives Fence.wide 2 Tryz.prog 143 #[.pointer (some ⟨c, 0, none⟩)] encZ (fun ss => ss.Perm (intKeys (Dm l))) (Maps.size (Dm l)) W :=
    AnyZI.keys_gives (ρ := Tryz.keysA_ren) { Tryz.keysA with } Fence.wide _ trivial rfl (by omega) c b n (Dm l) _ hcl hc h
  have hmax : Maps.size (Dm l) ≤ maxLen := by rw [size_Dm]; simp only [maxLen]; omega
  have hbytes : Maps.size (Dm l) * 8 ≤ 140737488355328 := by rw [size_Dm]; omega
  have cS := AnyZI.sorted_in Tryz.sortedA Fence.wide 5 trivial trivial trivial trivial rfl (by omega) (sorts_any _) (enters_of Tryz.func142 (by kernel_rfl) rfl) 143 #[.pointer (some ⟨c, 0, none⟩)] trivial (enters_of Tryz.func143 (by kernel_rfl) rfl) _ _ hmax hbytes _ hseq
  refine ((callsIn_wide (n := 5)).1 cS).mono ?_
  rintro e w' ⟨v, ss, rfl, hp, hrow, _, hb⟩
  rw [intKeys_Dm] at hp
  have hlen : ss.length = l.length := hp.length_eq
  rw [sort_sorted hp hs, hlen] at hrow
  exact ⟨v, rfl, hrow, Kept.ofBelow hb []⟩

theorem ownsRow_low {w : World} {base base' : Nat} {e : TypeId} {size n : Nat} {v : Value} {xs : List Value} (h : w.ownsRow base e size v n xs) (hb : base' ≤ base) : w.ownsRow base' e size v n xs := by
  refine ⟨h.1, ?_⟩
  rcases h.2 with h2 | ⟨g, cap, cur, rfl, hbg, r⟩
  · exact .inl h2
  · exact .inr ⟨g, cap, cur, rfl, by omega, r⟩

theorem res_cells {w : World} {g : Nat} {u v : Value} {t : TypeId} (h : w.heap[g]? = some (.cells #[u, v] t (0, 0))) : w.cell? ⟨g, 0, none⟩ = some u ∧ w.cell? ⟨g, 1, none⟩ = some v ∧ w.frozen? ⟨g, 0, none⟩ = false ∧ w.frozen? ⟨g, 1, none⟩ = false :=
  ⟨by rw [cell_of_row w g 0 _ _ _ h]; rfl, by rw [cell_of_row w g 1 _ _ _ h]; rfl, frozen_of_row _ _ _ _ _ h, frozen_of_row _ _ _ _ _ h⟩

theorem set_far {w : World} {g i p j : Nat} {u v : Value} (h : p ≠ g) (hc : w.cell? ⟨p, j, none⟩ = some v) : (w.setCell ⟨g, i, none⟩ u).cell? ⟨p, j, none⟩ = some v :=
  ((Kept.refl w [g]).setCell (p := ⟨g, i, none⟩) (.inl (by simp)) u).cell (p := ⟨p, j, none⟩) (by simpa using h) hc

set_option maxRecDepth 20000 in
theorem mnow_any {w : World} {B p b : Nat} {v : Value} {st : List Nat} (h : Mg w B p b v st) :
    Calls Tryz.prog 25 #[.pointer (some ⟨p, 0, none⟩)] w fun e w' => ∃ a c, e = .returned (.agg #[.int .i64 ((st.length : Int) + 1), .slice a (opens st).length c]) ∧ w'.ownsRow w.heap.size 2 1 (.slice a (opens st).length c) (opens st).length ((opens st).map encZ) ∧ Kept w w' [] := by
  obtain ⟨m, hm⟩ : ∃ m, (opens st).length = m := ⟨_, rfl⟩
  rw [hm]
  obtain ⟨W1, hW1⟩ : ∃ W1, W1 = w.alloc (.cells #[.int .i64 0, .slice none 0 0] 36) := ⟨_, rfl⟩
  have hz1 : W1.heap.size = w.heap.size + 1 := by rw [hW1]; simp
  have hk1 : Kept w W1 [] := by rw [hW1]; exact (Kept.refl w []).alloc _
  have K1 := Lib.hid hk1
  have hb1 : W1.heap[w.heap.size]? = some (.cells #[.int .i64 0, .slice none 0 0] 36 (0, 0)) := by rw [hW1]; exact heap_alloc_new w _
  have B1 := Lib.hid hb1
  have H1 := Lib.hid (h.keep hk1)
  obtain ⟨n, hn⟩ : ∃ n : Int, n = (st.length : Int) + 1 := ⟨_, rfl⟩
  rw [← hn]
  have HN : Hid (∀ V, Kept W1 V [] → Calls Tryz.prog 17 #[.pointer (some ⟨p, 0, none⟩)] V fun e w' => e = .returned (.int .i64 n) ∧ V = w') := Lib.hid (fun V hV => by
    refine (mnext_any (H1.out.keep hV)).mono ?_
    rintro e w' ⟨rfl, rfl⟩
    exact ⟨by rw [hn], rfl⟩)
  have HK : Hid (∀ V, Kept W1 V [] → Calls Tryz.prog 85 #[.map (some b)] V fun e w' => ∃ c, e = .returned (.func (.func 143) #[] #[.pointer (some ⟨c, 0, none⟩)]) ∧ w'.cell? ⟨c, 0, none⟩ = some (.map (some b)) ∧ Kept W1 w' []) := Lib.hid (fun V hV => by
    refine (keys_any _ V).mono ?_
    rintro e w' ⟨rfl, rfl⟩
    exact ⟨_, rfl, by rw [cell_of_row _ _ 0 _ _ _ (heap_alloc_new V _)]; rfl, hV.alloc _⟩)
  have HS : Hid (∀ V c, Kept W1 V [] → V.cell? ⟨c, 0, none⟩ = some (.map (some b)) → Calls Tryz.prog 84 #[.func (.func 143) #[] #[.pointer (some ⟨c, 0, none⟩)]] V fun e w' => ∃ a c, e = .returned (.slice a m c) ∧ w'.ownsRow w.heap.size 2 1 (.slice a m c) m ((opens st).map encZ) ∧ Kept W1 w' []) := Lib.hid (fun V c hV hc => by
    refine (sorted_any (H1.out.keep hV).hm hc (opens_sorted st) (by have := opens_le st; have := H1.out.hl; omega)).mono ?_
    rintro e w' ⟨u, rfl, ho, hk⟩
    obtain ⟨a, c, rfl⟩ := ownsRow_shape ho
    rw [hm] at ho ⊢
    exact ⟨a, c, rfl, ownsRow_low ho (by have := hV.size; omega), hV.trans hk (by simp)⟩)
  have k8 := (Kept.refl W1 []).drew
  have y2 : W1.drew.cell? ⟨p, 0, none⟩ = some (.map (some b)) := H1.out.cell.1
  have hpz : p ≠ w.heap.size := by have := heap_lt h.hp; omega
  clear h hb1 hk1 hn hm
  go_enter Tryz.func25, Tryz.ntmps25
  go_wp2_with fail
  rw [← hW1]
  clear hW1
  go_region_held3 (fun V => V.cell? ⟨p, 0, none⟩ = some (.map (some b))) (first | exact y2 | exact set_far hpz (set_far hpz y2))
    (first
      | (go_at_call 17; refine (HN.out _ ?_).mono ?_; assumption; rintro e w8 ⟨rfl, rfl⟩)
      | (go_at_call 85; refine (HK.out _ ?_).mono ?_; assumption; rintro e w8 ⟨c, rfl, c8, k8⟩; have y2 := (H1.out.keep k8).cell.1)
      | (go_at_call 84; refine (HS.out _ _ ?_ ?_).mono ?_; assumption; assumption; rintro e w9 ⟨a9, c9, rfl, ho, k8⟩; have y2 := (H1.out.keep k8).cell.1; obtain ⟨e0, e1, e2, e3⟩ := res_cells (k8.heap (by simp) B1.out)))
  have hb9 := k8.heap (by simp) B1.out
  have hb10 := heap_setCell_at hb9 0 (.int .i64 n)
  have hb11 := heap_setCell_at hb10 1 (.slice a9 m c9)
  have f9 : Fr w.heap.size [36] w9 ((w9.setCell ⟨w.heap.size, 0, none⟩ (.int .i64 n)).setCell ⟨w.heap.size, 1, none⟩ (.slice a9 m c9)) :=
    ((Fr.refl _ _ w9).setCell hb9 (.inr ⟨Nat.le_refl _, by simp⟩) 0 _).setCell hb10 (.inr ⟨Nat.le_refl _, by simp⟩) 1 _
  have o11 := ownsRow_fr ho f9 (by decide)
  have k11 : Kept w ((w9.setCell ⟨w.heap.size, 0, none⟩ (.int .i64 n)).setCell ⟨w.heap.size, 1, none⟩ (.slice a9 m c9)) [] :=
    ((K1.out.trans k8 (by simp)).setCell (p := ⟨w.heap.size, 0, none⟩) (.inr (Nat.le_refl _)) _).setCell (p := ⟨w.heap.size, 1, none⟩) (.inr (Nat.le_refl _)) _
  obtain ⟨w11, hw11⟩ : ∃ w11, w11 = (w9.setCell ⟨w.heap.size, 0, none⟩ (.int .i64 n)).setCell ⟨w.heap.size, 1, none⟩ (.slice a9 m c9) := ⟨_, rfl⟩
  rw [← hw11] at hb11 o11 k11 ⊢
  obtain ⟨d0, d1, _, _⟩ := res_cells (u := .int .i64 n) (v := .slice a9 m c9) (by simpa using hb11)
  clear hw11 f9 hb9 hb10
  go_wp2
  exact bodyPost_ret (v := .agg #[.int .i64 n, .slice a9 m c9]) (by simp [results, Tryz.results25, go_sem, d0, d1]) rfl ⟨a9, c9, rfl, o11, k11⟩

end Go.Proofs.YticiofkiffgclaaGreat
