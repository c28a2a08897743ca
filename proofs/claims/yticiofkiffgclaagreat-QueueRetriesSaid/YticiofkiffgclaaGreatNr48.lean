/-
  Zqg, Zqi in one text.
-/
import Derived.Test.YticiofkiffgclaaGreatNr47
namespace Go.Proofs.YticiofkiffgclaaGreat
set_option linter.unusedVariables false
open Go.RowKit

variable {w w' : World} {B : Nat} {a : Hk} {st : List Nat} {q : Qs} {O : Nat → Prop}

def rowX (x : Int) (L : List Ev) (i : Nat) : List Ev := (L.take i).map (setTx x) ++ L.drop i
theorem rowX_len (x : Int) (L : List Ev) (i : Nat) : (rowX x L i).length = L.length := by
  rw [rowX, List.length_append, List.length_map, List.length_take, List.length_drop]; omega
theorem rowX_zero (x : Int) (L : List Ev) : rowX x L 0 = L := rfl
theorem rowX_all (x : Int) (L : List Ev) {i : Nat} (h : L.length ≤ i) : rowX x L i = L.map (setTx x) := by
  rw [rowX, List.take_of_length_le h, List.drop_eq_nil_of_le h, List.append_nil]
theorem take_map_succ (x : Int) {L : List Ev} {i : Nat} {e : Ev} (h : L[i]? = some e) : (L.take (i + 1)).map (setTx x) = (L.take i).map (setTx x) ++ [setTx x e] := by
  obtain ⟨hi, rfl⟩ := List.getElem?_eq_some_iff.1 h
  rw [List.take_succ_eq_append_getElem hi, List.map_append]; rfl
theorem rowX_at (x : Int) {L : List Ev} {i : Nat} {e : Ev} (h : L[i]? = some e) : (rowX x L i)[i]? = some e := by
  have hi := (List.getElem?_eq_some_iff.1 h).1
  rw [rowX, List.getElem?_append_right (by rw [List.length_map, List.length_take]; omega), List.length_map, List.length_take, List.getElem?_drop, Nat.min_eq_left (by omega), Nat.sub_self, Nat.add_zero, h]
theorem rowX_set (x : Int) {L : List Ev} {i : Nat} {e : Ev} (h : L[i]? = some e) : (rowX x L i).set i (setTx x e) = rowX x L (i + 1) := by
  have hi := (List.getElem?_eq_some_iff.1 h).1
  have e1 : L.drop i = e :: L.drop (i + 1) := by
    rw [List.drop_eq_getElem_cons hi]
    obtain ⟨_, rfl⟩ := List.getElem?_eq_some_iff.1 h
    rfl
  have hl : ((L.take i).map (setTx x)).length = i := by rw [List.length_map, List.length_take]; omega
  rw [rowX, rowX, take_map_succ x h, e1, List.append_assoc, List.set_append_right _ _ (by omega), hl, Nat.sub_self]
  rfl
def mkQ (q : Qs) (now : Int) (m : List Ev) : Qs := { q with l := upd q.l q.c (q.l q.c ++ m), rs := lftI q.rs now }
theorem mkQ_nil (q : Qs) (now : Int) : mkQ q now [] = { q with rs := lftI q.rs now } := by
  have : upd q.l q.c (q.l q.c ++ []) = q.l := by
    funext j
    rw [List.append_nil]
    unfold upd
    split
    · rename_i h; rw [h]
    · rfl
  rw [mkQ, this]
theorem upd_upd (l : Nat → List Ev) (c : Nat) (m : List Ev) (e : Ev) : upd (upd l c (l c ++ m)) c (upd l c (l c ++ m) c ++ [e]) = upd l c (l c ++ (m ++ [e])) := by
  funext j
  rw [upd_same, List.append_assoc]
  unfold upd
  split <;> rfl

def MtS (w wr : World) (B : Nat) (a : Hk) (st : List Nat) (O : Nat → Prop) (q : Qs) (now x : Int) (L : List Ev) (v : Value) (i : Nat) : Prop :=
  OwnK encEv wr w.heap.size evT v (rowX x L i) ∧ ∃ O', KS wr B a st (mkQ q now ((L.take i).map (setTx x))) O' ∧ Stp O O' w wr ∧ ∀ g, v.ownBlock = some g → ¬ O' g

set_option maxHeartbeats 4000000 in
set_option maxRecDepth 100000 in
theorem kmnt_any (s : KS w B a st q O) {k : Nat} (z : SzQ k q) (hk : k ≤ 1000) (x now : Int) : Calls Tryz.prog 36 #[.pointer (some ⟨a.h, 0, none⟩), .int .i64 x, .int .i64 now] w fun e w' => ∃ v', e = .returned v' ∧ OwnK encEv w' w.heap.size evT v' (mntV q x now) ∧ KPost w B a st O (mntQ q x now) w' := by
  have KR := Lib.hid (kretries_any s)
  have HL := Lib.hid (mntV_len z x now)
  have TB := Lib.hid (z.table z.ok.c3)
  have HK := Lib.hid hk
  have S := Lib.hid s
  obtain ⟨b, u, d, xs, kq, mg, e1, e2, rfl⟩ := s.ex
  have TK := Lib.hid (ttake_any kq.rt z.oki now)
  obtain ⟨L, hL⟩ : ∃ L, L = evs (dueI q.rs now) := ⟨_, rfl⟩
  have RV : RowKit.Hid (mntV q x now = L.map (setTx x)) := Lib.hid (by rw [hL]; rfl)
  rw [← hL] at TK
  have KQ := Lib.hid kq; have MG := Lib.hid mg; have E1 := Lib.hid e1; have E2 := Lib.hid e2
  have hl16 : L.length ≤ 16 := by have := HL.out; rw [RV.out, List.length_map] at this; exact this
  clear s z hk kq mg e1 e2 hL HL
  go_enter Tryz.func36, Tryz.ntmps36
  go_wp2_with fail
  refine KR.out.mono ?_
  rintro e wx ⟨rfl, hw⟩
  have hw2 := hw.symm; clear hw; subst hw2
  go_wp2_with fail
  refine TK.out.mono ?_
  rintro e w2 ⟨v, rfl, ov, VR', h1, h3⟩
  obtain ⟨k2, t2⟩ := KQ.out.ofRetries h1 h3
  have NG : ∀ g, v.ownBlock = some g → ¬ kfoot a { d with VR := VR' } g := by
    intro g hg hf
    have hge := (ov.lt g hg).1
    obtain ⟨cur, hc⟩ := ov.tag hg
    have tg : ∃ x t f, w2.heap[g]? = some (.cells x t f) ∧ t ∈ [evT] := ⟨_, _, _, hc, by simp⟩
    rcases hf with rfl | hf | hf | hf | hf
    · exact not_h k2.hh (by decide) tg rfl
    · have := (KQ.out.sp.lt g hf).2; omega
    · exact dis2 (k2.tyT hf) tg (by decide)
    · exact dis2 (k2.tyC hf) tg (by decide)
    · exact dis2 (k2.tyR hf) tg (by decide)
  have k2' : Kq w2 B a { d with VR := VR' } (mkQ q now []).l (mkQ q now []).c xs (mkQ q now []).cs (mkQ q now []).rs := by rw [mkQ_nil]; exact k2
  have hown : OwnK encEv w2 w.heap.size evT v (rowX x L 0) := by rw [rowX_zero]; exact ov
  obtain ⟨uu, cc, hv⟩ := ov.shape
  have M0 : RowKit.Hid (MtS w w2 B a st (kfoot a d) q now x L v 0) := Lib.hid ⟨hown, _, ⟨b, u, { d with VR := VR' }, xs, k2', MG.out.fo t2.1 (KQ.out.noT (by decide)) KQ.out.noM, E1.out, E2.out, rfl⟩, t2, NG⟩
  clear ov h1 h3 k2 k2' t2 NG hown
  obtain ⟨n, hn⟩ : ∃ n, n = L.length := ⟨_, rfl⟩
  have HN := Lib.hid hn
  rw [← hn] at hv hl16
  subst hv
  clear hn
  go_wp2
  go_loopw [8, 15] (fun _ s15 wr => ∃ i : Nat, s15 = .int .i64 i ∧ i ≤ n ∧ RowKit.Hid (MtS w wr B a st (kfoot a d) q now x L (.slice uu n cc) i)) (fun _ s15 _ => n - (intOf s15).toNat)
  case atStart => exact ⟨0, rfl, Nat.zero_le _, M0⟩
  case round =>
    obtain ⟨i, rfl, hi, MS⟩ := hrel
    by_cases hlt : i < n
    · have x1 : (i : Int) < (n : Int) := by omega
      obtain ⟨e, he⟩ : ∃ e, L[i]? = some e := ⟨_, List.getElem?_eq_getElem (by rw [← HN.out]; exact hlt)⟩
      have HE := Lib.hid he
      obtain ⟨o1, O', s1, t1, n1⟩ := MS.out
      have o1e := ownE_iff.2 o1
      have hrn : (rowX x L i).length = n := by rw [rowX_len, HN.out]
      obtain ⟨g, c', cur, hv, hge, hgc, hcel⟩ := o1e.hit (rowX_at x he)
      simp only [Value.slice.injEq] at hv
      obtain ⟨rfl, -, -⟩ := hv
      have ng : ¬ O' g := n1 g rfl
      have fz : wr.frozen? ⟨g, i * 8 + 1, none⟩ = false := frozen_of_row _ _ _ _ _ hgc
      have ctx := (hcel wr rfl).2.1
      -- the row behind the store
      obtain ⟨w3, hw3⟩ : ∃ w3, w3 = wr.setCell ⟨g, i * 8 + 1, none⟩ (.int .i64 x) := ⟨_, rfl⟩
      have o3 : OwnK encEv w3 w.heap.size evT (.slice (some ⟨g, 0, none⟩) n cc) (rowX x L (i + 1)) := by
        have h := o1.set1 (y := setTx x e) (rowX_at x he) (j := 1) (by decide) (u := .int .i64 x) (by obtain ⟨y0, y1, y2, y3, y4, y5, y6, y7⟩ := e; rfl)
        rw [rowX_set x he] at h
        rw [hw3]
        exact h
      have f3 : Fo (fun k => k = g) wr w3 := by rw [hw3]; exact Fo.setCell (O := fun k => k = g) (Fo.refl _ wr) (p := ⟨g, i * 8 + 1, none⟩) (.inl rfl) _
      have s3 := s1.fo f3 (fun k hk e => by subst e; exact ng hk) (one_noI hgc (by decide)) (one_noT hgc (by decide)) (one_noM hgc)
      have t3 : Stp (kfoot a d) O' w w3 := ⟨t1.1.far f3 (fun k e => by have : k = g := e; omega), t1.2⟩
      have he3 : (rowX x L (i + 1))[i]? = some (setTx x e) := by
        rw [← rowX_set x he, List.getElem?_set_self (by rw [hrn]; exact hlt)]
      have o3e := ownE_iff.2 o3
      obtain ⟨g3, c3, cur3, hv3, -, hgc3, hcel3⟩ := o3e.hit he3
      simp only [Value.slice.injEq, Option.some.injEq, Addr.mk.injEq] at hv3
      obtain ⟨⟨rfl, -⟩, -, -⟩ := hv3
      obtain ⟨b3, u3, d3, xs3, kq3, mg3, e13, e23, hO3⟩ := s3.ex
      have TL : (upd q.l q.c (q.l q.c ++ (L.take i).map (setTx x)) q.c).length < 1000000 := by
        rw [upd_same, List.length_append, List.length_map, List.length_take]
        have := TB.out; have := HK.out; omega
      have KD : RowKit.Hid (Kept w3 w3.drew []) := Lib.hid (Kept.refl w3 []).drew
      have AD := Lib.hid (add_any (kq3.keep KD.out).sp (kq3.keep KD.out).ds TL (setTx x e))
      have S3 := Lib.hid (And.intro (KD.out.heap (by simp) kq3.hh) (KD.out.heap (by simp) hgc3))
      have HC3 := Lib.hid (fun (V : World) (hV : V.heap[g]? = some (.cells cur3 50 (0, 0))) => hcel3 V (by rw [hV, hgc3]))
      have O3 := Lib.hid o3; have KQ3 := Lib.hid kq3; have MG3 := Lib.hid mg3; have E13 := Lib.hid e13; have E23 := Lib.hid e23; have T3 := Lib.hid t3
      have NG3 : RowKit.Hid (¬ kfoot a d3 g ∧ g < w3.drew.heap.size ∧ (Value.slice (some ⟨g, 0, none⟩) n cc).ownBlock = some g) := Lib.hid ⟨by rw [← hO3]; exact ng, heap_lt (KD.out.heap (by simp) hgc3), rfl⟩
      rw [hO3] at T3
      have HW3 := Lib.hid hw3
      clear o1 s1 t1 n1 o1e hrn hgc hcel ng o3 f3 s3 t3 he3 o3e hgc3 hcel3 kq3 mg3 e13 e23 hO3 TL hw3 he hge
      go_upto_region 6 with fail
      rw [← HW3.out]
      clear ctx fz
      obtain ⟨y0, y1, y2, y3, y4, y5, y6, y7⟩ := e
      simp only [setTx, Ev.cs] at AD HC3
      refine wp_region_held_drew (S := fun Z => Z.heap[a.h]? = some (.cells (kR a d3) quT (0, 0)) ∧ Z.heap[g]? = some (.cells cur3 50 (0, 0))) (by kernel_rfl) S3.out (fun hHeld => ?_)
      refine wpAnyH_take (i := 0) (oi := _) (v := .pointer (some ⟨a.h, 0, none⟩)) rfl (by kernel_rfl) (by kernel_rfl) (by kernel_rfl) (fun _ _ _ h => h) (Or.inl ⟨by rfl, fun V hV => by go_simp⟩) hHeld ?_
      change wpAnyH _ _ _ _ _ _ _ (Act.put _ (some 23) _) _
      simp only [Act.put, List.setIfInBounds_toArray, List.set_cons_zero, List.set_cons_succ]
      refine wpAnyH_take (i := 1) (oi := _) (v := .pointer (some ⟨a.h, 0, none⟩)) rfl (by kernel_rfl) (by kernel_rfl) (by kernel_rfl) (fun _ _ _ h => h) (Or.inl ⟨by rfl, fun V hV => by go_simp⟩) hHeld ?_
      change wpAnyH _ _ _ _ _ _ _ (Act.put _ (some 24) _) _
      simp only [Act.put, List.setIfInBounds_toArray, List.set_cons_zero, List.set_cons_succ]
      refine wpAnyH_take (i := 2) (oi := _) (v := .pointer (some ⟨a.h, 1, none⟩)) rfl (by kernel_rfl) (by kernel_rfl) (by kernel_rfl) (fun _ _ _ h => h) (Or.inl ⟨by rfl, fun V hV => by go_simp⟩) hHeld ?_
      change wpAnyH _ _ _ _ _ _ _ (Act.put _ (some 25) _) _
      simp only [Act.put, List.setIfInBounds_toArray, List.set_cons_zero, List.set_cons_succ]
      refine wpAnyH_take (i := 3) (oi := _) (v := .pointer (some ⟨a.hs, 0, none⟩)) rfl (by kernel_rfl) (by kernel_rfl) (by kernel_rfl) (fun _ _ _ h => h) (Or.inl ⟨by rfl, fun V hV => by (obtain ⟨q0, q1, q2, q3, q4⟩ := kR_cells hV.1; clear hV; go_simp)⟩) hHeld ?_
      change wpAnyH _ _ _ _ _ _ _ (Act.put _ (some 26) _) _
      simp only [Act.put, List.setIfInBounds_toArray, List.set_cons_zero, List.set_cons_succ]
      refine wpAnyH_take (i := 4) (oi := _) (v := .slice (some ⟨g, 0, none⟩) n cc) rfl (by kernel_rfl) (by kernel_rfl) (by kernel_rfl) (fun _ _ _ h => h) (Or.inl ⟨by rfl, fun V hV => by go_simp⟩) hHeld ?_
      change wpAnyH _ _ _ _ _ _ _ (Act.put _ (some 27) _) _
      simp only [Act.put, List.setIfInBounds_toArray, List.set_cons_zero, List.set_cons_succ]
      refine wpAnyH_take (i := 5) (oi := _) (v := .int .i64 i) rfl (by kernel_rfl) (by kernel_rfl) (by kernel_rfl) (fun _ _ _ h => h) (Or.inl ⟨by rfl, fun V hV => by go_simp⟩) hHeld ?_
      change wpAnyH _ _ _ _ _ _ _ (Act.put _ (some 28) _) _
      simp only [Act.put, List.setIfInBounds_toArray, List.set_cons_zero, List.set_cons_succ]
      refine wpAnyH_take (i := 6) (oi := _) (v := .pointer (some ⟨g, i * 8, none⟩)) rfl (by kernel_rfl) (by kernel_rfl) (by kernel_rfl) (fun _ _ _ h => h) (Or.inl ⟨by rfl, fun V hV => by go_simp⟩) hHeld ?_
      change wpAnyH _ _ _ _ _ _ _ (Act.put _ (some 29) _) _
      simp only [Act.put, List.setIfInBounds_toArray, List.set_cons_zero, List.set_cons_succ]
      refine wpAnyH_take (i := 7) (oi := _) (v := .agg #[.int .i64 y0, .int .i64 x, .string y2, .int .i64 y3, .int .i64 y4, .int .u8 y5, .int .i64 y6, .string y7]) rfl (by kernel_rfl) (by kernel_rfl) (by kernel_rfl) (fun _ _ _ h => h) (Or.inl ⟨by rfl, fun V hV => by (obtain ⟨q0, q1, q2, q3, q4, q5, q6, q7⟩ := HC3.out V hV.2; clear hV; go_simp)⟩) hHeld ?_
      change wpAnyH _ _ _ _ _ _ _ (Act.put _ (some 30) _) _
      simp only [Act.put, List.setIfInBounds_toArray, List.set_cons_zero, List.set_cons_succ]
      refine wpAnyH_ready (rs := [8]) (by kernel_rfl) (by simp) ?_
      refine AllReadyH.cons (o := _) rfl (fun K hK => ?_) AllReadyH.nil
      go_simp
      go_at_call 80
      refine (AD.out).mono ?_
      rintro r w5 ⟨rfl, V9, h1, h2, h3⟩
      obtain ⟨k5, t5⟩ := (KQ3.out.keep KD.out).ofSpools h1 h2 h3
      have S5 := Lib.hid (And.intro (show w5.heap[a.h]? = some (.cells (kR a d3) quT (0, 0)) from k5.hh) (t5.1.heap NG3.out.1 S3.out.2))
      have k5' : Kq w5 B a { d3 with V := V9 } (mkQ q now ((L.take (i + 1)).map (setTx x))).l (mkQ q now ((L.take (i + 1)).map (setTx x))).c xs3 (mkQ q now ((L.take (i + 1)).map (setTx x))).cs (mkQ q now ((L.take (i + 1)).map (setTx x))).rs := by (rw [take_map_succ x HE.out]; show Kq w5 B a { d3 with V := V9 } (upd q.l q.c (q.l q.c ++ ((L.take i).map (setTx x) ++ [setTx x ⟨y0, y1, y2, y3, y4, y5, y6, y7⟩]))) q.c xs3 q.cs (lftI q.rs now); rw [← upd_upd]; exact k5)
      have n5 : ∀ g9, (Value.slice (some ⟨g, 0, none⟩) n cc).ownBlock = some g9 → ¬ kfoot a { d3 with V := V9 } g9 := fun g9 h9 hf => by (rw [NG3.out.2.2] at h9; cases h9; exact (t5.2 g hf).elim NG3.out.1 (fun h8 => by have := NG3.out.2.1; omega))
      have o5 : OwnK encEv w5 w.heap.size evT (.slice (some ⟨g, 0, none⟩) n cc) (rowX x L (i + 1)) := (O3.out.keep KD.out).fo t5.1 (fun g9 h9 => by (rw [NG3.out.2.2] at h9; cases h9; exact NG3.out.1))
      have mg5 := (MG3.out.keep KD.out).fo t5.1 ((KQ3.out.keep KD.out).noT (by decide)) (KQ3.out.keep KD.out).noM
      have MS5 : RowKit.Hid (MtS w w5 B a st (kfoot a d) q now x L (.slice (some ⟨g, 0, none⟩) n cc) (i + 1)) := Lib.hid ⟨o5, kfoot a { d3 with V := V9 }, ⟨b3, u3, { d3 with V := V9 }, xs3, k5', mg5, E13.out, E23.out, rfl⟩, T3.out.trans (t5.afterK KD.out), n5⟩
      clear k5' n5 o5 mg5
      clear h1 h2 h3 k5 t5
      go_wp2_with fail
      refine hK.out _ _ S5.out (fun hHeld => ?_)
      clear hK K
      refine wpAnyH_done (by kernel_rfl) ?_ _
      clear hHeld
      go_wp2
      go_roundw
      case rel => exact ⟨i + 1, by go_num, by omega, MS5⟩
      case measure => simp [intOf]; omega
    · have x1 : ¬ (i : Int) < (n : Int) := by omega
      have hin : i = n := by omega
      subst hin
      obtain ⟨o1, O', s1, t1, n1⟩ := MS.out
      have OX := Lib.hid o1; have PX : RowKit.Hid (KPost w B a st (kfoot a d) (mkQ q now ((L.take i).map (setTx x))) wr) := Lib.hid ⟨O', s1, t1⟩
      clear o1 s1 t1 n1
      go_wp2
      go_ret
      have e1 : rowX x L i = mntV q x now := by rw [rowX_all x L (by rw [← HN.out]; exact Nat.le_refl _), RV.out]
      have e2 : mkQ q now ((L.take i).map (setTx x)) = mntQ q x now := by rw [List.take_of_length_le (by rw [← HN.out]; exact Nat.le_refl _), mkQ, mntQ, RV.out]
      rw [← e1, ← e2]
      exact ⟨_, rfl, OX.out, PX.out⟩

end Go.Proofs.YticiofkiffgclaaGreat

namespace Go.Proofs.YticiofkiffgclaaGreat
set_option linter.unusedVariables false
open Go.RowKit

variable {w w' : World} {B : Nat} {a : Hk} {st : List Nat} {q : Qs} {O : Nat → Prop}

def begE (st : List Nat) : Int := if 6 ≤ (opens st).length then 8 else 0
def begV (st : List Nat) : Int := if 6 ≤ (opens st).length then 0 else (st.length : Int) + 1
def begS (st : List Nat) : List Nat := if 6 ≤ (opens st).length then st else st ++ [1]
def endE (st : List Nat) (x : Int) : Int := if stAt st x = 1 then 0 else 7
def endS (st : List Nat) (x : Int) (s : Nat) : List Nat := if stAt st x = 1 then st.set (x.toNat - 1) s else st
def MPost (w : World) (B : Nat) (a : Hk) (st' : List Nat) (q : Qs) (O : Nat → Prop) (w' : World) : Prop := KS w' B a st' q O ∧ Fm B mts w w'
theorem KS.mg (s : KS w B a st q O) : ∃ (b : Nat) (u : Value), Mg w B a.p b u st := by
  obtain ⟨b, u, d, xs, kq, g, e1, e2, rfl⟩ := s.ex
  exact ⟨b, u, g⟩
theorem KS.mstep (s : KS w B a st q O) {b' : Nat} {u' : Value} {st' : List Nat} (m : Mg w' B a.p b' u' st') (f : Fm B mts w w') : MPost w B a st' q O w' := by
  obtain ⟨b, u, d, xs, kq, g, e1, e2, rfl⟩ := s.ex
  exact ⟨⟨b', u', d, xs, kq.mg f, m, e1, e2, rfl⟩, f⟩
theorem kbegin_any (s : KS w B a st q O) (hl : st.length ≤ 1000) : Calls Tryz.prog 18 #[.pointer (some ⟨a.p, 0, none⟩)] w fun e w' => e = .returned (.tuple #[.int .i64 (begV st), .int .i64 (begE st)]) ∧ MPost w B a (begS st) q O w' := by
  obtain ⟨b, u, g⟩ := s.mg
  by_cases h : 6 ≤ (opens st).length
  · refine (mbegin_full g (.inl h)).mono ?_
    rintro e w' ⟨rfl, rfl⟩
    exact ⟨by rw [begV, begE, if_pos h, if_pos h], by rw [begS, if_pos h]; exact s.mstep g (Fm.refl _ _ _)⟩
  · refine (mbegin_ok g (by omega) (by omega)).mono ?_
    rintro e w' ⟨rfl, v', m, f⟩
    exact ⟨by rw [begV, begE, if_neg h, if_neg h], by rw [begS, if_neg h]; exact s.mstep m f⟩
theorem kcommit_any (s : KS w B a st q O) (x : Int) (hx : (Lit.int .i64 x).wf = true) : Calls Tryz.prog 21 #[.pointer (some ⟨a.p, 0, none⟩), .int .i64 x] w fun e w' => e = .returned (.int .i64 (endE st x)) ∧ MPost w B a (endS st x 2) q O w' := by
  obtain ⟨b, u, g⟩ := s.mg
  by_cases h : stAt st x = 1
  · refine (mcommit_ok g x hx h).mono ?_
    rintro e w' ⟨rfl, m, f⟩
    exact ⟨by rw [endE, if_pos h], by rw [endS, if_pos h]; exact s.mstep m f⟩
  · refine (mcommit_bad g x hx h).mono ?_
    rintro e w' ⟨rfl, rfl⟩
    exact ⟨by rw [endE, if_neg h], by rw [endS, if_neg h]; exact s.mstep g (Fm.refl _ _ _)⟩
def Kh (w0 w : World) (a : Hk) (st : List Nat) (q : Qs) : Prop := (∃ O, KS w w0.heap.size a st q O) ∧ Kept w0 w []
variable {w0 : World}
theorem Kh.post {q' : Qs} (s : KS w w0.heap.size a st q O) (k0 : Kept w0 w []) (p : KPost w w0.heap.size a st O q' w') : Kh w0 w' a st q' := by
  obtain ⟨O', s', t⟩ := p
  exact ⟨⟨O', s'⟩, k0.foC t.1 (fun k hk => (s.lt k hk).1)⟩
theorem Kh.mpost {st' : List Nat} (k0 : Kept w0 w []) (p : MPost w w0.heap.size a st' q O w') : Kh w0 w' a st' q :=
  ⟨⟨O, p.1⟩, ((Fm.ofKept k0 w0.heap.size mts).trans p.2).kept (Nat.le_refl _)⟩
theorem kh_new (k0 : Kept w0 w []) : Calls Tryz.prog 13 #[] w fun e w1 => ∃ p, e = .returned (.pointer (some ⟨p, 0, none⟩)) ∧ Kept w0 w1 [] ∧
    Hid (∀ w2, Kept w1 w2 [] → Calls Tryz.prog 14 #[.pointer (some ⟨p, 0, none⟩)] w2 fun e w' => ∃ a, e = .returned (.pointer (some ⟨a.h, 0, none⟩)) ∧ a.p = p ∧ Kh w0 w' a [] Qs.new ∧ Kept w2 w' []) := by
  refine (mnew_any w).mono ?_
  rintro e w1 ⟨p, b, v, rfl, g, k1⟩
  refine ⟨p, rfl, k0.trans k1 (by simp), Lib.hid (fun w2 k2 => ?_)⟩
  refine (knew_any (B := w0.heap.size) (g.keep k2) k0.size (by have := (k0.trans (k1.trans k2 (by simp)) (by simp)).size; exact this)).mono ?_
  rintro e w3 ⟨a, O, rfl, rfl, s, k3, _⟩
  exact ⟨a, rfl, rfl, ⟨⟨O, s⟩, k0.trans (k1.trans (k2.trans k3 (by simp)) (by simp)) (by simp)⟩, k3⟩

set_option maxHeartbeats 2000000 in
set_option maxRecDepth 100000 in
theorem early_any (w : World) : Calls Tryz.prog 9 #[] w fun e w' => e = .returned (.bool true) ∧ Kept w w' [] := by
  go_enter Tryz.func9, Tryz.ntmps9
  go_wp2_with fail
  refine (kh_new (Kept.refl w [])).mono ?_
  rintro e w1 ⟨p, rfl, k1, hn⟩
  have K1 := Lib.hid k1; clear k1
  go_wp2_with fail
  refine (hn.out w1 (Kept.refl _ _)).mono ?_
  rintro e w2 ⟨a, rfl, rfl, c, k2⟩
  obtain ⟨⟨O, s⟩, k0⟩ := c
  have S := Lib.hid s; have K0 := Lib.hid k0
  have RG := Lib.hid (krgs_any s SzQ.new (by omega) ⟨#[97]⟩)
  have r1 : rgsE Qs.new ⟨#[97]⟩ = 9 := rfl
  have r2 : rgsQ Qs.new ⟨#[97]⟩ = Qs.new := rfl
  rw [r1, r2] at RG
  clear s k0 hn k2 r1 r2
  go_wp2_with fail
  refine RG.out.mono ?_
  rintro e w3 ⟨rfl, p3⟩
  obtain ⟨⟨O3, s3⟩, k3⟩ := Kh.post S.out K0.out p3
  have S3 := Lib.hid s3; have K3 := Lib.hid k3
  have NI := Lib.hid (knid_any s3); have TK := Lib.hid (kticks_any s3)
  obtain ⟨b, u, d, xs, kq, mg, e1, e2, hO⟩ := s3.ex
  have hx : xs = [] := List.map_eq_nil_iff.1 e1
  subst hx
  have LA := Lib.hid (tklast_any kq.tk (by simp))
  have r3 : lastN (List.map Tk.pl []) = 0 := rfl
  have r4 : Qs.new.nx = 1 := rfl
  rw [r3] at LA
  rw [r4] at NI
  clear p3 s3 k3 kq mg e1 e2 hO r3 r4
  go_wp2_with fail
  refine NI.out.mono ?_
  rintro e w4 ⟨rfl, hw⟩
  have hw2 := hw.symm; clear hw; subst hw2
  go_wp2_with fail
  refine TK.out.mono ?_
  rintro e w4 ⟨rfl, hw⟩
  have hw2 := hw.symm; clear hw; subst hw2
  go_wp2_with fail
  refine LA.out.mono ?_
  rintro e w4 ⟨rfl, k4⟩
  have K4 := Lib.hid (K3.out.trans k4 (by simp)); clear k4
  go_wp2
  go_ret
  exact ⟨rfl, K4.out⟩

end Go.Proofs.YticiofkiffgclaaGreat
