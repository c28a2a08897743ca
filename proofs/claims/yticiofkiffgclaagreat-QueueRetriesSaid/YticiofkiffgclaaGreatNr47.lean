/-
  Zqf in one text.
-/
import Derived.Test.YticiofkiffgclaaGreatNr46
namespace Go.Proofs.YticiofkiffgclaaGreat
set_option linter.unusedVariables false
open Go.RowKit

variable {w w' : World} {B : Nat} {a : Hk} {st : List Nat} {q : Qs} {O : Nat → Prop}

set_option maxHeartbeats 4000000 in
set_option maxRecDepth 100000 in
theorem kbat_any (s : KS w B a st q O) {k : Nat} (z : SzQ k q) (hk : k ≤ 1000) (n : ByteArray) : Calls Tryz.prog 30 #[.pointer (some ⟨a.h, 0, none⟩), .string n] w fun e w' => ∃ v', e = .returned (.tuple #[v', .int .i64 (batE q n)]) ∧ OwnE w' w.heap.size 50 v' (batV st q n) ∧ Kept w w' [] := by
  have KC := Lib.hid (kcursors_any s)
  have SN := Lib.hid (fun (m : Int) (Z : World) (hZ : Kept w Z []) => ksnap_any (s.keep hZ) z m)
  have MAN := Lib.hid (fun (Z : World) (hZ : Kept w Z []) => (s.keep hZ).man)
  obtain ⟨b, u, d, xs, kq, g, e1, e2, rfl⟩ := s.ex
  have GE := Lib.hid (cget_any kq.cu z.ok.okc n)
  have AL := Lib.hid (fun (Z : World) (hZ : Kept w Z []) => all_any (kq.keep hZ).sp (z.tabs hk))
  have SA := Lib.hid (show (allE q).length < 1000000 ∧ ∀ e ∈ allE q, (Lit.int .i64 e.tx).wf = true from ⟨by have := z.all.1; omega, fun e he => (z.all.2 e he).wf⟩)
  have OP0 := Lib.hid (show ∀ x, getC q.cs n = some x → 0 ≤ x.op from fun x hx => z.ok.okc.op0 x (getC_mem hx))
  have KQ := Lib.hid kq
  clear s z hk kq g e1 e2
  have hgv : getV q.cs n = .tuple #[.agg ((getC q.cs n).getD noCu).cs, .bool (getC q.cs n).isSome] := rfl
  rw [hgv] at GE
  clear hgv
  obtain ⟨ob, hob⟩ : ∃ ob, ob = (getC q.cs n).isSome := ⟨_, rfl⟩
  obtain ⟨x, hx⟩ : ∃ x, x = (getC q.cs n).getD noCu := ⟨_, rfl⟩
  rw [← hob, ← hx] at GE
  have HOB := Lib.hid hob; have HX := Lib.hid hx
  clear hob hx
  obtain ⟨b0, b1, b2⟩ := x
  simp only [Cu.cs] at *
  go_enter Tryz.func30, Tryz.ntmps30
  go_wp2_with fail
  refine KC.out.mono ?_
  rintro e wx ⟨rfl, hw⟩
  have hw2 := hw.symm; clear hw; subst hw2
  go_wp2_with fail
  refine GE.out.mono ?_
  rintro e w2 ⟨rfl, k2⟩
  have K2 := Lib.hid k2; clear k2
  go_upto_region 2 with fail
  obtain ⟨W3, hW3⟩ : ∃ W3, W3 = w2.alloc (.cells #[.string b0, .int .i64 b1, .int .i64 b2] cuE) := ⟨_, rfl⟩
  obtain ⟨zc, hzc⟩ : ∃ zc, zc = w2.heap.size := ⟨_, rfl⟩
  rw [← hW3, ← hzc]
  have k3 : Kept w2 W3 [] := by rw [hW3]; exact (Kept.refl w2 []).alloc _
  have K3 := Lib.hid (K2.out.trans k3 (by simp))
  have G3 := Lib.hid (show W3.heap[zc]? = some (.cells #[.string b0, .int .i64 b1, .int .i64 b2] cuE (0, 0)) by rw [hW3, hzc]; exact heap_alloc_new w2 _)
  clear k3 hW3 hzc
  cases ob with
  | false =>
    have RR : RowKit.Hid (batE q n = 4 ∧ batV st q n = []) := Lib.hid (by
      have h := HOB.out
      cases hg : getC q.cs n with
      | none => simp [batE, batV, hg]
      | some y => rw [hg] at h; cases h)
    go_wp2
    refine bodyPost_ret (v := .tuple #[.slice none 0 0, .int .i64 4]) (by simp [results, Tryz.results30, go_sem]) rfl ?_
    obtain ⟨r1, r2⟩ := RR.out
    rw [r1, r2]
    exact ⟨_, rfl, OwnE.nil _ _ _, K3.out⟩
  | true =>
    have hg : getC q.cs n = some ⟨b0, b1, b2⟩ := by
      have h := HOB.out; have h2 := HX.out
      cases hg : getC q.cs n with
      | none => rw [hg] at h; cases h
      | some y => rw [hg] at h2; rw [h2]; rfl
    have HG := Lib.hid hg
    obtain ⟨c0, c1, c2⟩ : W3.cell? ⟨zc, 0, none⟩ = some (.string b0) ∧ W3.cell? ⟨zc, 1, none⟩ = some (.int .i64 b1) ∧ W3.cell? ⟨zc, 2, none⟩ = some (.int .i64 b2) := ⟨by rw [cell_of_row _ _ _ _ _ _ G3.out]; rfl, by rw [cell_of_row _ _ _ _ _ _ G3.out]; rfl, by rw [cell_of_row _ _ _ _ _ _ G3.out]; rfl⟩
    clear hg
    by_cases h2 : b2 = 0
    · subst h2
      have RR : RowKit.Hid (batE q n = 7 ∧ batV st q n = []) := Lib.hid (by simp [batE, batV, HG.out])
      clear c0 c1
      go_wp2
      refine bodyPost_ret (v := .tuple #[.slice none 0 0, .int .i64 7]) (by simp [results, Tryz.results30, go_sem]) rfl ?_
      obtain ⟨r1, r2⟩ := RR.out
      rw [r1, r2]
      exact ⟨_, rfl, OwnE.nil _ _ _, K3.out⟩
    · have RR : RowKit.Hid (batE q n = 0 ∧ batV st q n = srt byId ((allE q).filter (told st (tckP q b1).M (tckP q b1).l (tckP q b2).M (tckP q b2).l n))) := Lib.hid (by simp [batE, batV, HG.out, h2])
      have hb : (b2 == 0) = false := by rw [beq_eq_false_iff_ne]; exact h2
      have SN1 := Lib.hid (fun (Z : World) (hZ : Kept W3 Z []) => SN.out b1 Z (K3.out.trans hZ (by simp)))
      have SN2 := Lib.hid (fun (Z : World) (hZ : Kept W3 Z []) => SN.out b2 Z (K3.out.trans hZ (by simp)))
      obtain ⟨PA, hPA⟩ : ∃ P, P = tckP q b1 := ⟨_, rfl⟩
      obtain ⟨PB, hPB⟩ : ∃ P, P = tckP q b2 := ⟨_, rfl⟩
      rw [← hPA] at SN1 RR
      rw [← hPB] at SN2 RR
      have CF : RowKit.Hid (∀ Z, Kept W3 Z [] → Z.heap[a.h]? = some (.cells (kR a d) quT (0, 0)) ∧ Z.cell? ⟨zc, 1, none⟩ = some (.int .i64 b1) ∧ Z.cell? ⟨zc, 2, none⟩ = some (.int .i64 b2)) := Lib.hid (fun Z hZ => ⟨(KQ.out.keep (K3.out.trans hZ (by simp))).hh, by rw [cell_of_row _ _ _ _ _ _ (hZ.heap (by simp) G3.out)]; rfl, by rw [cell_of_row _ _ _ _ _ _ (hZ.heap (by simp) G3.out)]; rfl⟩)
      clear c0 c1 h2 hPA hPB
      go_upto_region 6 with fail
      refine wp_region_held_drew (S := fun Z => Kept W3 Z []) (by kernel_rfl) (Kept.refl W3 []).drew (fun hHeld => ?_)
      refine wpAnyH_take (i := 0) (oi := _) (v := .pointer (some ⟨a.h, 0, none⟩)) rfl (by kernel_rfl) (by kernel_rfl) (by kernel_rfl) (fun _ _ _ h => h) (Or.inl ⟨by rfl, fun V hV => by go_simp⟩) hHeld ?_
      change wpAnyH _ _ _ _ _ _ _ (Act.put _ (some 22) _) _
      simp only [Act.put, List.setIfInBounds_toArray, List.set_cons_zero, List.set_cons_succ]
      refine wpAnyH_take (i := 1) (oi := _) (v := .pointer (some ⟨a.h, 0, none⟩)) rfl (by kernel_rfl) (by kernel_rfl) (by kernel_rfl) (fun _ _ _ h => h) (Or.inl ⟨by rfl, fun V hV => by go_simp⟩) hHeld ?_
      change wpAnyH _ _ _ _ _ _ _ (Act.put _ (some 23) _) _
      simp only [Act.put, List.setIfInBounds_toArray, List.set_cons_zero, List.set_cons_succ]
      refine wpAnyH_take (i := 2) (oi := _) (v := .pointer (some ⟨a.h, 1, none⟩)) rfl (by kernel_rfl) (by kernel_rfl) (by kernel_rfl) (fun _ _ _ h => h) (Or.inl ⟨by rfl, fun V hV => by go_simp⟩) hHeld ?_
      change wpAnyH _ _ _ _ _ _ _ (Act.put _ (some 24) _) _
      simp only [Act.put, List.setIfInBounds_toArray, List.set_cons_zero, List.set_cons_succ]
      refine wpAnyH_take (i := 3) (oi := _) (v := .pointer (some ⟨a.hs, 0, none⟩)) rfl (by kernel_rfl) (by kernel_rfl) (by kernel_rfl) (fun _ _ _ h => h) (Or.inl ⟨by rfl, fun V hV => by (obtain ⟨q0, q1, q2, q3, q4⟩ := kR_cells (CF.out V hV).1; clear hV; go_simp)⟩) hHeld ?_
      change wpAnyH _ _ _ _ _ _ _ (Act.put _ (some 25) _) _
      simp only [Act.put, List.setIfInBounds_toArray, List.set_cons_zero, List.set_cons_succ]
      refine wpAnyH_take (i := 5) (oi := _) (v := .pointer (some ⟨a.h, 0, none⟩)) rfl (by kernel_rfl) (by kernel_rfl) (by kernel_rfl) (fun _ _ _ h => h) (Or.inl ⟨by rfl, fun V hV => by go_simp⟩) hHeld ?_
      change wpAnyH _ _ _ _ _ _ _ (Act.put _ (some 27) _) _
      simp only [Act.put, List.setIfInBounds_toArray, List.set_cons_zero, List.set_cons_succ]
      refine wpAnyH_take (i := 6) (oi := _) (v := .pointer (some ⟨a.h, 0, none⟩)) rfl (by kernel_rfl) (by kernel_rfl) (by kernel_rfl) (fun _ _ _ h => h) (Or.inl ⟨by rfl, fun V hV => by go_simp⟩) hHeld ?_
      change wpAnyH _ _ _ _ _ _ _ (Act.put _ (some 28) _) _
      simp only [Act.put, List.setIfInBounds_toArray, List.set_cons_zero, List.set_cons_succ]
      refine wpAnyH_take (i := 7) (oi := _) (v := .pointer (some ⟨a.h, 0, none⟩)) rfl (by kernel_rfl) (by kernel_rfl) (by kernel_rfl) (fun _ _ _ h => h) (Or.inl ⟨by rfl, fun V hV => by go_simp⟩) hHeld ?_
      change wpAnyH _ _ _ _ _ _ _ (Act.put _ (some 29) _) _
      simp only [Act.put, List.setIfInBounds_toArray, List.set_cons_zero, List.set_cons_succ]
      refine wpAnyH_take (i := 8) (oi := _) (v := .pointer (some ⟨a.p, 0, none⟩)) rfl (by kernel_rfl) (by kernel_rfl) (by kernel_rfl) (fun _ _ _ h => h) (Or.inl ⟨by rfl, fun V hV => by (obtain ⟨q0, q1, q2, q3, q4⟩ := kR_cells (CF.out V hV).1; clear hV; go_simp)⟩) hHeld ?_
      change wpAnyH _ _ _ _ _ _ _ (Act.put _ (some 30) _) _
      simp only [Act.put, List.setIfInBounds_toArray, List.set_cons_zero, List.set_cons_succ]
      refine wpAnyH_take (i := 9) (oi := _) (v := .pointer (some ⟨a.h, 0, none⟩)) rfl (by kernel_rfl) (by kernel_rfl) (by kernel_rfl) (fun _ _ _ h => h) (Or.inl ⟨by rfl, fun V hV => by go_simp⟩) hHeld ?_
      change wpAnyH _ _ _ _ _ _ _ (Act.put _ (some 31) _) _
      simp only [Act.put, List.setIfInBounds_toArray, List.set_cons_zero, List.set_cons_succ]
      refine wpAnyH_take (i := 10) (oi := _) (v := .pointer (some ⟨zc, 1, none⟩)) rfl (by kernel_rfl) (by kernel_rfl) (by kernel_rfl) (fun _ _ _ h => h) (Or.inl ⟨by rfl, fun V hV => by go_simp⟩) hHeld ?_
      change wpAnyH _ _ _ _ _ _ _ (Act.put _ (some 32) _) _
      simp only [Act.put, List.setIfInBounds_toArray, List.set_cons_zero, List.set_cons_succ]
      refine wpAnyH_take (i := 11) (oi := _) (v := .int .i64 b1) rfl (by kernel_rfl) (by kernel_rfl) (by kernel_rfl) (fun _ _ _ h => h) (Or.inl ⟨by rfl, fun V hV => by (have q0 := (CF.out V hV).2.1; clear hV; go_simp)⟩) hHeld ?_
      change wpAnyH _ _ _ _ _ _ _ (Act.put _ (some 33) _) _
      simp only [Act.put, List.setIfInBounds_toArray, List.set_cons_zero, List.set_cons_succ]
      refine wpAnyH_take (i := 13) (oi := _) (v := .pointer (some ⟨a.h, 0, none⟩)) rfl (by kernel_rfl) (by kernel_rfl) (by kernel_rfl) (fun _ _ _ h => h) (Or.inl ⟨by rfl, fun V hV => by go_simp⟩) hHeld ?_
      change wpAnyH _ _ _ _ _ _ _ (Act.put _ (some 35) _) _
      simp only [Act.put, List.setIfInBounds_toArray, List.set_cons_zero, List.set_cons_succ]
      refine wpAnyH_take (i := 14) (oi := _) (v := .pointer (some ⟨zc, 2, none⟩)) rfl (by kernel_rfl) (by kernel_rfl) (by kernel_rfl) (fun _ _ _ h => h) (Or.inl ⟨by rfl, fun V hV => by go_simp⟩) hHeld ?_
      change wpAnyH _ _ _ _ _ _ _ (Act.put _ (some 36) _) _
      simp only [Act.put, List.setIfInBounds_toArray, List.set_cons_zero, List.set_cons_succ]
      refine wpAnyH_take (i := 15) (oi := _) (v := .int .i64 b2) rfl (by kernel_rfl) (by kernel_rfl) (by kernel_rfl) (fun _ _ _ h => h) (Or.inl ⟨by rfl, fun V hV => by (have q0 := (CF.out V hV).2.2; clear hV; go_simp)⟩) hHeld ?_
      change wpAnyH _ _ _ _ _ _ _ (Act.put _ (some 37) _) _
      simp only [Act.put, List.setIfInBounds_toArray, List.set_cons_zero, List.set_cons_succ]
      refine wpAnyH_take (i := 17) (oi := _) (v := .string n) rfl (by kernel_rfl) (by kernel_rfl) (by kernel_rfl) (fun _ _ _ h => h) (Or.inl ⟨by rfl, fun V hV => by go_simp⟩) hHeld ?_
      change wpAnyH _ _ _ _ _ _ _ (Act.put _ (some 39) _) _
      simp only [Act.put, List.setIfInBounds_toArray, List.set_cons_zero, List.set_cons_succ]
      refine wpAnyH_ready (rs := [4]) (by kernel_rfl) (by simp) ?_
      refine AllReadyH.cons (o := _) rfl (fun K hK => ?_) AllReadyH.nil
      go_simp
      go_at_call 27
      refine (AL.out _ (K3.out.trans ((Kept.refl W3 []).drew) (by simp))).mono ?_
      rintro r wa ⟨v1, rfl, o1, ka⟩
      have KA := Lib.hid ((Kept.refl W3 []).drew.trans ka (by simp)); have O1 := Lib.hid o1
      clear o1 ka
      go_wp2_with fail
      refine hK.out _ _ KA.out (fun hHeld => ?_)
      clear hK K
      refine wpAnyH_ready (rs := [12]) (by kernel_rfl) (by simp) ?_
      refine AllReadyH.cons (o := _) rfl (fun K hK => ?_) AllReadyH.nil
      go_simp
      go_at_call 96
      refine (SN1.out _ KA.out).mono ?_
      rintro r wb ⟨va, vc, rfl, ra, kb⟩
      have KB := Lib.hid (KA.out.trans kb (by simp)); have O2 := Lib.hid (O1.out.kept kb (by simp)); have RA := Lib.hid ra
      clear ra kb
      go_wp2_with fail
      refine hK.out _ _ KB.out (fun hHeld => ?_)
      clear hK K
      refine wpAnyH_ready (rs := [16]) (by kernel_rfl) (by simp) ?_
      refine AllReadyH.cons (o := _) rfl (fun K hK => ?_) AllReadyH.nil
      go_simp
      go_at_call 96
      refine (SN2.out _ KB.out).mono ?_
      rintro r wc ⟨ua, uc, rfl, rb, kc⟩
      have KC4 := Lib.hid (KB.out.trans kc (by simp)); have O3 := Lib.hid (O2.out.kept kc (by simp)); have RA2 := Lib.hid (RA.out.keep kc); have RB := Lib.hid rb
      clear rb kc
      have BO := Lib.hid (bof_any (A := PA.M) (B := PB.M) n O3.out.rd SA.out.1 (MAN.out _ (K3.out.trans KC4.out (by simp))) RA2.out.1 RB.out.1 SA.out.2)
      go_wp2_with fail
      refine hK.out _ _ KC4.out (fun hHeld => ?_)
      clear hK K
      refine wpAnyH_ready (rs := [18]) (by kernel_rfl) (by simp) ?_
      refine AllReadyH.cons (o := _) rfl (fun K hK => ?_) AllReadyH.nil
      go_simp
      go_at_call 95
      refine (BO.out).mono ?_
      rintro r wd ⟨v5, rfl, o5, kd⟩
      have KD := Lib.hid (KC4.out.trans kd (by simp)); have OB := Lib.hid o5
      clear o5 kd
      go_wp2_with fail
      refine hK.out _ _ KD.out (fun hHeld => ?_)
      clear hK K
      refine wpAnyH_take (i := 19) (oi := _) (v := v5) rfl (by kernel_rfl) (by kernel_rfl) (by kernel_rfl) (fun _ _ _ h => h) (Or.inl ⟨by rfl, fun V hV => by go_simp⟩) hHeld ?_
      change wpAnyH _ _ _ _ _ _ _ (Act.put _ (some 4) _) _
      simp only [Act.put, List.setIfInBounds_toArray, List.set_cons_zero, List.set_cons_succ]
      refine wpAnyH_take (i := 20) (oi := _) (v := .int .i64 0) rfl (by kernel_rfl) (by kernel_rfl) (by kernel_rfl) (fun _ _ _ h => h) (Or.inl ⟨by rfl, fun V hV => by go_simp⟩) hHeld ?_
      change wpAnyH _ _ _ _ _ _ _ (Act.put _ (some 5) _) _
      simp only [Act.put, List.setIfInBounds_toArray, List.set_cons_zero, List.set_cons_succ]
      refine wpAnyH_done (by kernel_rfl) ?_ _
      clear hHeld
      go_wp2
      refine bodyPost_ret (v := .tuple #[v5, .int .i64 0]) (by simp [results, Tryz.results30, go_sem]) rfl ?_
      obtain ⟨r1, r2⟩ := RR.out
      rw [r1, r2]
      exact ⟨_, rfl, OB.out.mono (K3.out.trans KC4.out (by simp)).size, K3.out.trans KD.out (by simp)⟩

set_option maxHeartbeats 1000000 in
theorem krty_fn (e : Ev) (id : Int) (xb : Nat) (W : World) (hx : W.cell? ⟨xb, 0, none⟩ = some (.int .i64 id)) :
    Calls Tryz.prog 100 #[.agg e.cs, .pointer (some ⟨xb, 0, none⟩)] W fun r w' => r = .returned (.bool (e.id == id)) ∧ Kept W w' [] := by
  have hy : (W.alloc (.cells e.cs 50)).cell? ⟨xb, 0, none⟩ = some (.int .i64 id) := ((Kept.refl W []).alloc _).cell (by simp) hx
  obtain ⟨b0, b1, b2, b3, b4, b5, b6, b7⟩ := e
  simp only [Ev.cs] at *
  go_enter Tryz.func100, Tryz.ntmps100
  go_wp2
  go_ret
  exact ⟨rfl, (Kept.refl W []).alloc _⟩

theorem idx_find {α : Type} (P : α → Bool) (l : List α) : (l.find? P = none → idxB P l = -1) ∧ ∀ x, l.find? P = some x → ∃ i : Nat, idxB P l = i ∧ l[i]? = some x := by
  constructor
  · intro h
    rw [List.find?_eq_none] at h
    exact idx_miss (fun j s hj hs => by simpa using h s (List.mem_of_getElem? hs))
  · intro x h
    rw [List.find?_eq_some_iff_getElem] at h
    obtain ⟨hp, i, hi, e, hb⟩ := h
    refine ⟨i, idx_hit (List.getElem?_eq_getElem hi) (by rw [e]; exact hp) (fun j s hj hs => ?_), by rw [List.getElem?_eq_getElem hi, e]⟩
    have hjl : j < l.length := by omega
    rw [List.getElem?_eq_getElem hjl] at hs
    cases hs
    simpa using hb j hj
theorem OwnE.hit {base : Nat} {t : TypeId} {v : Value} {m : List Ev} (h : OwnE w base t v m) {i : Nat} {x : Ev} (hx : m[i]? = some x) : ∃ g c cur, v = .slice (some ⟨g, 0, none⟩) m.length c ∧ base ≤ g ∧ w.heap[g]? = some (.cells cur t (0, 0)) ∧
    ∀ V : World, V.heap[g]? = w.heap[g]? → V.cell? ⟨g, i * 8, none⟩ = some (.int .i64 x.id) ∧ V.cell? ⟨g, i * 8 + 1, none⟩ = some (.int .i64 x.tx) ∧ V.cell? ⟨g, i * 8 + 2, none⟩ = some (.string x.ow) ∧ V.cell? ⟨g, i * 8 + 3, none⟩ = some (.int .i64 x.tr) ∧
      V.cell? ⟨g, i * 8 + 4, none⟩ = some (.int .i64 x.tb) ∧ V.cell? ⟨g, i * 8 + 5, none⟩ = some (.int .u8 x.kd) ∧ V.cell? ⟨g, i * 8 + 6, none⟩ = some (.int .i64 x.key) ∧ V.cell? ⟨g, i * 8 + 7, none⟩ = some (.string x.t) := by
  have r := h.rd
  obtain ⟨u, c, e⟩ := h.shape
  have hb := h.lt
  have ht := h.tag (k := (u.getD ⟨0, 0, none⟩).block)
  rw [e] at r
  obtain ⟨g, o, rfl, p⟩ := r.eight hx
  have ho : o = 0 := by
    rcases h.2 with ⟨h2, _⟩ | ⟨g', cap, cur, h2, _⟩
    · rw [e] at h2; simp at h2
    · rw [e] at h2
      simp only [Value.slice.injEq, Option.some.injEq, Addr.mk.injEq] at h2
      exact h2.1.2.1
  subst ho
  have hob : v.ownBlock = some g := by rw [e]; rfl
  obtain ⟨cur, hc⟩ := ht hob
  refine ⟨g, c, cur, e, (hb g hob).1, hc, fun V hV => ?_⟩
  simp only [Nat.zero_add] at p
  have q : ∀ k, V.cell? ⟨g, k, none⟩ = w.cell? ⟨g, k, none⟩ := fun k => World.cell?_of_block hV
  simp only [q]
  exact p

set_option maxHeartbeats 4000000 in
set_option maxRecDepth 100000 in
theorem krty_any (s : KS w B a st q O) {k : Nat} (z : SzQ k q) (hk : k ≤ 1000) (n : ByteArray) (id at' : Int) : Calls Tryz.prog 35 #[.pointer (some ⟨a.h, 0, none⟩), .string n, .int .i64 id, .int .i64 at'] w fun e w' => e = .returned (.int .i64 (rtyE st q n id)) ∧ KPost w B a st O (rtyQ st q n id at') w' := by
  obtain ⟨zb, hzb⟩ : ∃ zb, zb = w.heap.size := ⟨_, rfl⟩
  obtain ⟨W1, hW1⟩ : ∃ W1, W1 = w.alloc (.cells #[.int .i64 id] 2) := ⟨_, rfl⟩
  have k1 : Kept w W1 [] := by rw [hW1]; exact (Kept.refl w []).alloc _
  have g1 : W1.heap[zb]? = some (.cells #[.int .i64 id] 2 (0, 0)) := by rw [hW1, hzb]; exact heap_alloc_new w _
  have KB := Lib.hid (kbat_any (s.keep k1) z hk n)
  have S := Lib.hid s; have S1 := Lib.hid (s.keep k1); have K1 := Lib.hid k1; have G1 := Lib.hid g1; have HW1 := Lib.hid hW1; have HZB := Lib.hid hzb
  have SB := Lib.hid (show (batV st q n).length < 1000000 ∧ ∀ e ∈ batV st q n, EvW e from ⟨by have := (z.bat st n).1; omega, (z.bat st n).2⟩)
  have OI := Lib.hid z.oki
  obtain ⟨E, hE⟩ : ∃ E, E = batE q n := ⟨_, rfl⟩
  obtain ⟨m, hm⟩ : ∃ m, m = batV st q n := ⟨_, rfl⟩
  have RE : RowKit.Hid (rtyE st q n id = if E = 0 then (match m.find? (fun e => e.id == id) with | some e => adiE q.rs e.id n | none => 4) else E) := Lib.hid (by rw [hE, hm]; rfl)
  have RQ : RowKit.Hid (rtyQ st q n id at' = if E = 0 then (match m.find? (fun e => e.id == id) with | some e => { q with rs := adiL q.rs e n at' } | none => q) else q) := Lib.hid (by rw [hE, hm]; rfl)
  rw [← hE, ← hm] at KB
  rw [← hm] at SB
  clear s k1 g1 hW1 z hk hE hm
  go_enter Tryz.func35, Tryz.ntmps35
  go_upto_region 1 with fail
  rw [← HW1.out, ← HZB.out]
  clear hzb
  go_wp2_with fail
  refine KB.out.mono ?_
  rintro e w2 ⟨v, rfl, ov, k2⟩
  have K2 := Lib.hid k2; have OV := Lib.hid ov
  clear k2
  by_cases h0 : E = 0
  · subst h0
    have PV : PaysV w2 m 100 #[.pointer (some ⟨zb, 0, none⟩)] (fun e => e.id == id) := fun r V hr hV => krty_fn r id zb V (by rw [cell_of_row _ _ _ _ _ _ ((K2.out.trans hV (by simp)).heap (by simp) G1.out)]; rfl)
    have IX := Lib.hid (vindex_any ov.rd SB.out.1 _ _ _ (fun args w => by kernel_rfl) PV)
    obtain ⟨IF1, IF2⟩ := idx_find (fun e : Ev => e.id == id) m
    obtain ⟨N, hN⟩ : ∃ N, N = idxB (fun e : Ev => e.id == id) m := ⟨_, rfl⟩
    rw [← hN] at IX IF1 IF2
    cases hf : m.find? (fun e => e.id == id) with
    | none =>
      have hN1 := IF1 hf
      subst hN1
      have RR : RowKit.Hid (rtyE st q n id = 4 ∧ rtyQ st q n id at' = q) := Lib.hid (by rw [RE.out, RQ.out, hf]; exact ⟨rfl, rfl⟩)
      clear hf IF1 IF2 PV ov hN
      go_wp2_with fail
      refine IX.out.mono ?_
      rintro e w3 ⟨rfl, k3⟩
      have K3 := Lib.hid k3; clear k3
      go_wp2
      go_ret
      obtain ⟨r1, r2⟩ := RR.out
      rw [r1, r2]
      exact ⟨rfl, KPost.same S.out (K1.out.trans (K2.out.trans K3.out (by simp)) (by simp))⟩
    | some x =>
      obtain ⟨i, hi, hx⟩ := IF2 x hf
      subst hi
      have RR : RowKit.Hid (rtyE st q n id = adiE q.rs x.id n ∧ rtyQ st q n id at' = { q with rs := adiL q.rs x n at' }) := Lib.hid (by rw [RE.out, RQ.out, hf]; exact ⟨rfl, rfl⟩)
      have HT := Lib.hid (SB.out.2 x (List.mem_of_getElem? hx)).tr0
      have hil : i < m.length := (List.getElem?_eq_some_iff.1 hx).1
      obtain ⟨g, c, cur, rfl, hbg, hgc, hcel⟩ := ov.hit hx
      have x2 : (i : Int) < (m.length : Int) := by omega
      have x3 : ¬ (i : Int) < 0 := by omega
      have HBG := Lib.hid hbg; have HGC := Lib.hid hgc; have HCEL := Lib.hid hcel; have HIL := Lib.hid hil; have SBL := Lib.hid (show i < 1000000 by have := SB.out.1; omega)
      clear hf IF1 IF2 PV ov hN hx hbg hgc hcel hil
      go_wp2_with fail
      refine IX.out.mono ?_
      rintro e w3 ⟨rfl, k3⟩
      have K3 := Lib.hid (K2.out.trans k3 (by simp)); have GC3 := Lib.hid (k3.heap (by simp) HGC.out)
      clear k3
      obtain ⟨b, u, d, xs, kq, mg, e1, e2, rfl⟩ := (S1.out.keep K3.out).ex
      have kd3 : Kept w3 w3.drew [] := (Kept.refl w3 []).drew
      have S3 := Lib.hid (And.intro (kd3.heap (by simp) kq.hh) (kd3.heap (by simp) GC3.out))
      have HC3 : RowKit.Hid (∀ V : World, V.heap[g]? = some (.cells cur 50 (0, 0)) → _) := Lib.hid (fun V hV => HCEL.out V (by rw [hV, HGC.out]))
      have TA := Lib.hid (tadd_any (kq.keep kd3).rt OI.out x HT.out n at')
      have KQ := Lib.hid kq; have MG := Lib.hid mg; have E1 := Lib.hid e1; have E2 := Lib.hid e2; have KD := Lib.hid kd3
      have NF : RowKit.Hid (¬ kfoot a d g) := Lib.hid (fun hk => by have := (S.out.lt g hk).2; have := HBG.out; have := K1.out.size; omega)
      obtain ⟨y0, y1, y2, y3, y4, y5, y6, y7⟩ := x
      simp only [encEv, Ev.cs] at TA HC3
      clear kq mg e1 e2 kd3
      have x4 : i < m.length := HIL.out
      go_upto_region 7 with fail
      refine wp_region_held_drew (S := fun Z => Z.heap[a.h]? = some (.cells (kR a d) quT (0, 0)) ∧ Z.heap[g]? = some (.cells cur 50 (0, 0))) (by kernel_rfl) S3.out (fun hHeld => ?_)
      refine wpAnyH_take (i := 0) (oi := _) (v := .pointer (some ⟨a.h, 0, none⟩)) rfl (by kernel_rfl) (by kernel_rfl) (by kernel_rfl) (fun _ _ _ h => h) (Or.inl ⟨by rfl, fun V hV => by go_simp⟩) hHeld ?_
      change wpAnyH _ _ _ _ _ _ _ (Act.put _ (some 26) _) _
      simp only [Act.put, List.setIfInBounds_toArray, List.set_cons_zero, List.set_cons_succ]
      refine wpAnyH_take (i := 1) (oi := _) (v := .pointer (some ⟨a.h, 0, none⟩)) rfl (by kernel_rfl) (by kernel_rfl) (by kernel_rfl) (fun _ _ _ h => h) (Or.inl ⟨by rfl, fun V hV => by go_simp⟩) hHeld ?_
      change wpAnyH _ _ _ _ _ _ _ (Act.put _ (some 27) _) _
      simp only [Act.put, List.setIfInBounds_toArray, List.set_cons_zero, List.set_cons_succ]
      refine wpAnyH_take (i := 2) (oi := _) (v := .pointer (some ⟨a.h, 4, none⟩)) rfl (by kernel_rfl) (by kernel_rfl) (by kernel_rfl) (fun _ _ _ h => h) (Or.inl ⟨by rfl, fun V hV => by go_simp⟩) hHeld ?_
      change wpAnyH _ _ _ _ _ _ _ (Act.put _ (some 28) _) _
      simp only [Act.put, List.setIfInBounds_toArray, List.set_cons_zero, List.set_cons_succ]
      refine wpAnyH_take (i := 3) (oi := _) (v := .pointer (some ⟨a.hr, 0, none⟩)) rfl (by kernel_rfl) (by kernel_rfl) (by kernel_rfl) (fun _ _ _ h => h) (Or.inl ⟨by rfl, fun V hV => by (obtain ⟨q0, q1, q2, q3, q4⟩ := kR_cells hV.1; clear hV; go_simp)⟩) hHeld ?_
      change wpAnyH _ _ _ _ _ _ _ (Act.put _ (some 29) _) _
      simp only [Act.put, List.setIfInBounds_toArray, List.set_cons_zero, List.set_cons_succ]
      refine wpAnyH_take (i := 4) (oi := _) (v := .slice (some ⟨g, 0, none⟩) m.length c) rfl (by kernel_rfl) (by kernel_rfl) (by kernel_rfl) (fun _ _ _ h => h) (Or.inl ⟨by rfl, fun V hV => by go_simp⟩) hHeld ?_
      change wpAnyH _ _ _ _ _ _ _ (Act.put _ (some 30) _) _
      simp only [Act.put, List.setIfInBounds_toArray, List.set_cons_zero, List.set_cons_succ]
      refine wpAnyH_take (i := 5) (oi := _) (v := .int .i64 i) rfl (by kernel_rfl) (by kernel_rfl) (by kernel_rfl) (fun _ _ _ h => h) (Or.inl ⟨by rfl, fun V hV => by go_simp⟩) hHeld ?_
      change wpAnyH _ _ _ _ _ _ _ (Act.put _ (some 31) _) _
      simp only [Act.put, List.setIfInBounds_toArray, List.set_cons_zero, List.set_cons_succ]
      refine wpAnyH_take (i := 6) (oi := _) (v := .pointer (some ⟨g, i * 8, none⟩)) rfl (by kernel_rfl) (by kernel_rfl) (by kernel_rfl) (fun _ _ _ h => h) (Or.inl ⟨by rfl, fun V hV => by go_simp⟩) hHeld ?_
      change wpAnyH _ _ _ _ _ _ _ (Act.put _ (some 32) _) _
      simp only [Act.put, List.setIfInBounds_toArray, List.set_cons_zero, List.set_cons_succ]
      refine wpAnyH_take (i := 7) (oi := _) (v := .agg #[.int .i64 y0, .int .i64 y1, .string y2, .int .i64 y3, .int .i64 y4, .int .u8 y5, .int .i64 y6, .string y7]) rfl (by kernel_rfl) (by kernel_rfl) (by kernel_rfl) (fun _ _ _ h => h) (Or.inl ⟨by rfl, fun V hV => by (obtain ⟨q0, q1, q2, q3, q4, q5, q6, q7⟩ := HC3.out V hV.2; clear hV; go_simp)⟩) hHeld ?_
      change wpAnyH _ _ _ _ _ _ _ (Act.put _ (some 33) _) _
      simp only [Act.put, List.setIfInBounds_toArray, List.set_cons_zero, List.set_cons_succ]
      refine wpAnyH_take (i := 8) (oi := _) (v := .string n) rfl (by kernel_rfl) (by kernel_rfl) (by kernel_rfl) (fun _ _ _ h => h) (Or.inl ⟨by rfl, fun V hV => by go_simp⟩) hHeld ?_
      change wpAnyH _ _ _ _ _ _ _ (Act.put _ (some 34) _) _
      simp only [Act.put, List.setIfInBounds_toArray, List.set_cons_zero, List.set_cons_succ]
      refine wpAnyH_take (i := 9) (oi := _) (v := .int .i64 at') rfl (by kernel_rfl) (by kernel_rfl) (by kernel_rfl) (fun _ _ _ h => h) (Or.inl ⟨by rfl, fun V hV => by go_simp⟩) hHeld ?_
      change wpAnyH _ _ _ _ _ _ _ (Act.put _ (some 35) _) _
      simp only [Act.put, List.setIfInBounds_toArray, List.set_cons_zero, List.set_cons_succ]
      refine wpAnyH_ready (rs := [10]) (by kernel_rfl) (by simp) ?_
      refine AllReadyH.cons (o := _) rfl (fun K hK => ?_) AllReadyH.nil
      go_simp
      go_at_call 101
      refine (TA.out).mono ?_
      rintro r w5 ⟨rfl, V9, h1, h3⟩
      obtain ⟨k5, t5⟩ := (KQ.out.keep KD.out).ofRetries h1 h3
      have PP := Lib.hid (KPost.of (q := { q with rs := adiL q.rs ⟨y0, y1, y2, y3, y4, y5, y6, y7⟩ n at' }) KQ.out MG.out ⟨k5, t5.afterK KD.out⟩ E1.out E2.out)
      have S5 := Lib.hid (And.intro (show w5.heap[a.h]? = some (.cells (kR a d) quT (0, 0)) from k5.hh) (t5.1.heap NF.out S3.out.2))
      obtain ⟨EE, hEE⟩ : ∃ EE, EE = adiE q.rs y0 n := ⟨_, rfl⟩
      rw [← hEE]
      have HEE := Lib.hid hEE
      clear h1 h3 k5 t5 hEE
      go_wp2_with fail
      refine hK.out _ _ S5.out (fun hHeld => ?_)
      clear hK K
      refine wpAnyH_take (i := 11) (oi := _) (v := .int .i64 EE) rfl (by kernel_rfl) (by kernel_rfl) (by kernel_rfl) (fun _ _ _ h => h) (Or.inl ⟨by rfl, fun V hV => by go_simp⟩) hHeld ?_
      change wpAnyH _ _ _ _ _ _ _ (Act.put _ (some 8) _) _
      simp only [Act.put, List.setIfInBounds_toArray, List.set_cons_zero, List.set_cons_succ]
      refine wpAnyH_done (by kernel_rfl) ?_ _
      clear hHeld
      go_wp2
      go_ret
      obtain ⟨r1, r2⟩ := RR.out
      rw [r1, r2]
      obtain ⟨O', p1, p2⟩ := PP.out
      exact ⟨congrArg (fun x => Ending.returned (.int .i64 x)) HEE.out, O', p1, p2.afterK (K1.out.trans K3.out (by simp))⟩
  · have hb : (E == 0) = false := by rw [beq_eq_false_iff_ne]; exact h0
    have RR : RowKit.Hid (rtyE st q n id = E ∧ rtyQ st q n id at' = q) := Lib.hid (by rw [RE.out, RQ.out, if_neg h0, if_neg h0]; exact ⟨rfl, rfl⟩)
    obtain ⟨uu, cc, hv⟩ := ov.shape
    subst hv
    clear h0 ov
    go_wp2
    go_ret
    obtain ⟨r1, r2⟩ := RR.out
    rw [r1, r2]
    exact ⟨rfl, KPost.same S.out (K1.out.trans K2.out (by simp))⟩

end Go.Proofs.YticiofkiffgclaaGreat
