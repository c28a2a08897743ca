/-
  Truncate.
-/
import Derived.Test.YtdjhcdgehmpikaaHl
namespace Go.Proofs.Ytdjhcdgehmpikaa
open Go.RowKit Go.Maps

/-- All of these die by x. -/
def dieL (F : Int → List Vr) (x : Int) : List (Int × Nat) → Int → List Vr
  | [] => F
  | q :: l => dieL (updF F q.1 (dieAt (F q.1) q.2 x)) x l

theorem dieL_snoc (x : Int) (q : Int × Nat) : ∀ (l : List (Int × Nat)) (F : Int → List Vr), dieL F x (l ++ [q]) = updF (dieL F x l) q.1 (dieAt (dieL F x l q.1) q.2 x)
  | [], _ => rfl
  | a :: l, F => by rw [List.cons_append, dieL, dieL_snoc x q l, dieL]

theorem die_get (F : Int → List Vr) (x : Int) (q : Int × Nat) (k : Int) (i : Nat) : (updF F q.1 (dieAt (F q.1) q.2 x) k)[i]? = (F k)[i]?.map fun r => if (k, i) = q then { r with death := x } else r := by
  obtain ⟨k0, i0⟩ := q
  by_cases e : k = k0
  · subst e
    rw [updF_same, dieAt, List.getElem?_modify]
    by_cases e2 : i0 = i
    · subst e2; simp
    · have e4 : ¬ i = i0 := fun h => e2 h.symm
      simp [e2, e4]
  · rw [updF_other _ _ e]
    simp [e]

theorem dieL_get (x : Int) (k : Int) (i : Nat) : ∀ (l : List (Int × Nat)) (F : Int → List Vr), (dieL F x l k)[i]? = (F k)[i]?.map fun r => if (k, i) ∈ l then { r with death := x } else r
  | [], F => by simp [dieL]
  | q :: l, F => by
    rw [dieL, dieL_get x k i l, die_get]
    cases (F k)[i]? with
    | none => rfl
    | some r =>
      simp only [Option.map_some, List.mem_cons]
      by_cases h1 : (k, i) = q <;> by_cases h2 : (k, i) ∈ l <;> simp [h1, h2]

theorem dieL_length (x : Int) (k : Int) (l : List (Int × Nat)) (F : Int → List Vr) : (dieL F x l k).length = (F k).length := by
  apply Nat.le_antisymm
  · apply Nat.le_of_not_lt
    intro h
    have := dieL_get x k (F k).length l F
    rw [List.getElem?_eq_getElem h, List.getElem?_eq_none (Nat.le_refl _)] at this
    cases this
  · apply Nat.le_of_not_lt
    intro h
    have := dieL_get x k (dieL F x l k).length l F
    rw [List.getElem?_eq_getElem h, List.getElem?_eq_none (Nat.le_refl _)] at this
    cases this

/-- Has the version with this key and number the last word on its death? -/
def boundAt (st : List Nat) (V : Vw) (F : Int → List Vr) (q : Int × Nat) : Bool := match (F q.1)[q.2]? with
  | some r => binds st V r.death
  | none => false

/-- Truncate: the error, the rows, and what the versions are then. -/
def truE (st : List Nat) (V : Vw) (ks : List Int) (F : Int → List Vr) : Int := if stAt st V.own = 1 then (if (seenAll (sees st V) ks F).any (boundAt st V F) then 6 else 0) else 7
def truR (st : List Nat) (V : Vw) (ks : List Int) (F : Int → List Vr) : List (Int × ByteArray) := if truE st V ks F = 0 then scanR (sees st V) ks F else []
def truF (st : List Nat) (V : Vw) (ks : List Int) (F : Int → List Vr) : Int → List Vr := if truE st V ks F = 0 then dieL F V.own (seenAll (sees st V) ks F) else F

variable {w : World} {B p h b mb : Nat} {v : Value} {S : Int → Value} {st : List Nat} {ks : List Int} {F : Int → List Vr}

theorem bound_keep {w w' : World} {bx gq o : Nat} {x0 x1 x2 y3 : Value} (hk : Kept w w' [])
    (h : ((w.cell? ⟨bx, 0, none⟩ = some x0 ∧ w.cell? ⟨bx, 1, none⟩ = some x1) ∧ w.cell? ⟨bx, 2, none⟩ = some x2) ∧ w.cell? ⟨gq, o, none⟩ = some y3) :
    ((w'.cell? ⟨bx, 0, none⟩ = some x0 ∧ w'.cell? ⟨bx, 1, none⟩ = some x1) ∧ w'.cell? ⟨bx, 2, none⟩ = some x2) ∧ w'.cell? ⟨gq, o, none⟩ = some y3 := by
  obtain ⟨⟨⟨h0, h1⟩, h2⟩, h6⟩ := h
  exact ⟨⟨⟨hk.cell (p := ⟨bx, 0, none⟩) (by simp) h0, hk.cell (p := ⟨bx, 1, none⟩) (by simp) h1⟩, hk.cell (p := ⟨bx, 2, none⟩) (by simp) h2⟩, hk.cell (p := ⟨gq, o, none⟩) (by simp) h6⟩

theorem any_of {α : Type} {l : List α} {f : α → Bool} {i : Nat} {x : α} (h : l[i]? = some x) (hf : f x = true) : l.any f = true := by
  rw [List.any_eq_true]
  exact ⟨x, List.mem_of_getElem? h, hf⟩
theorem any_none {α : Type} {l : List α} {f : α → Bool} (h : ∀ i x, i < l.length → l[i]? = some x → f x = false) : l.any f = false := by
  rw [List.any_eq_false]
  intro x hx
  obtain ⟨i, hi, rfl⟩ := List.mem_iff_getElem.1 hx
  simp [h i _ hi (List.getElem?_eq_getElem hi)]

/-- rows, of what allSeen had found ahead of deaths. -/
theorem rowsDied_any {base : Nat} {G : Int → List Vr} (P : Vr → Bool) (a : Sx w B p h b mb v S st ks G) (hG : ∀ q ∈ seenAll P ks F, ∀ r, (F q.1)[q.2]? = some r → ∃ r', (G q.1)[q.2]? = some r' ∧ r'.txt = r.txt) (sv : Value) (ho : w.ownsRow base 120 1 sv (seenAll P ks F).length (ptrs S (seenAll P ks F))) (hlen : (seenAll P ks F).length ≤ 1000000) :
    Calls Try.prog 62 #[sv] w fun e w' => ∃ v', e = .returned v' ∧ w'.ownsRow w.heap.size 55 2 v' (scanR P ks F).length (rcl (scanR P ks F)) ∧ Kept w w' [] := by
  have e1 : (spots S (seenAll P ks F)).length = (seenAll P ks F).length := by simp [spots]
  rw [ptrs_spots a _ (fun q hq => by obtain ⟨k, i⟩ := q; obtain ⟨r, hr, _⟩ := (mem_seenAll hq).2; obtain ⟨r', hr', _⟩ := hG _ hq r hr; exact ⟨r', hr'⟩), ← e1] at ho
  refine rows_any sv _ (scanR P ks F) (by simp [spots, scanR]) ho ?_ (by omega)
  intro i q r hq hr
  simp only [spots, scanR, List.getElem?_map, Option.map_eq_some_iff] at hq hr
  obtain ⟨⟨k, j⟩, h1, rfl⟩ := hq
  obtain ⟨_, h2, rfl⟩ := hr
  rw [h1] at h2
  cases h2
  have hm := List.mem_of_getElem? h1
  obtain ⟨r, hr, _⟩ := (mem_seenAll hm).2
  obtain ⟨r', hr', ht⟩ := hG _ hm r hr
  obtain ⟨c0, c1, _, _⟩ := spot_cells a hr'
  simp only [hr]
  rw [ht] at c1
  exact ⟨c0, c1⟩

set_option maxHeartbeats 4000000 in
set_option maxRecDepth 100000 in
theorem truncate_any (a : Sx w B p h b mb v S st ks F) (mx own : Int) (sl : Value) (opl : List Int) (hsl : RdI w sl opl) (ho : (Lit.int .i64 own).wf = true) (N : Nat) (hN : ks.length ≤ N ∧ (∀ k, (F k).length ≤ N) ∧ N ≤ 900) :
    Calls Try.prog 40 #[.pointer (some ⟨h, 0, none⟩), vw mx sl own] w fun e w' => ∃ v', e = .returned (.tuple #[v', .int .i64 (truE st ⟨mx, opl, own⟩ ks F)]) ∧ w'.ownsRow w.heap.size 55 2 v' (truR st ⟨mx, opl, own⟩ ks F).length (rcl (truR st ⟨mx, opl, own⟩ ks F)) ∧
      Sx w' B p h b mb v S st ks (truF st ⟨mx, opl, own⟩ ks F) ∧ Fo (foot p b v h mb S) w w' := by
  have A := Lib.hid a; have HS := Lib.hid hsl; have HNN := Lib.hid hN; have HOW := Lib.hid ho
  obtain ⟨sa, sc, rfl, _⟩ := hsl
  obtain ⟨W1, hW1⟩ : ∃ W1, W1 = w.alloc (.cells #[.int .i64 mx, .slice sa opl.length sc, .int .i64 own] 51) := ⟨_, rfl⟩
  have hk1 : Kept w W1 [] := by rw [hW1]; exact (Kept.refl w []).alloc _
  have hb1 : W1.heap[w.heap.size]? = some (.cells #[.int .i64 mx, .slice sa opl.length sc, .int .i64 own] 51 (0, 0)) := by rw [hW1]; exact heap_alloc_new w _
  obtain ⟨bx, hbx⟩ : ∃ bx, bx = w.heap.size := ⟨_, rfl⟩
  rw [← hbx] at hb1
  have HB1 := Lib.hid hb1; have K1 := Lib.hid hk1; have HBXE := Lib.hid hbx
  have A1 := Lib.hid (A.out.keep hk1)
  have cm := Lib.hid (mayWrite_any A1.out mx own sa opl.length sc ho)
  have ca := Lib.hid (fun V (hV : Kept W1 V []) => allSeen_any (A1.out.keep hV) mx own (.slice sa opl.length sc) opl ((HS.out.keep hk1).keep hV) N hN)
  have cb := Lib.hid (fun V x (hx : (Lit.int .i64 x).wf = true) (hV : Kept W1 V []) => binds_any (A1.out.keep hV) mx own (.slice sa opl.length sc) opl ((HS.out.keep hk1).keep hV) x hx)
  obtain ⟨P, hP⟩ : ∃ P, P = sees st ⟨mx, opl, own⟩ := ⟨_, rfl⟩
  have HP := Lib.hid hP
  rw [← hP] at ca
  unfold vw at cm ca cb ⊢
  obtain ⟨l, hl⟩ : ∃ l, l = seenAll P ks F := ⟨_, rfl⟩
  have hl6 : l.length ≤ 1000000 := by
    have b1 := seenAll_length P 900 F (fun k => by have := hN.2.1 k; have := hN.2.2; omega) ks
    have b4 := Nat.mul_le_mul_right 900 (show ks.length ≤ 900 by omega)
    rw [hl]; omega
  have HL := Lib.hid hl; have HL6 := Lib.hid hl6
  rw [← hl] at ca
  have MEM : Hid (∀ q ∈ l, ∃ r, (F q.1)[q.2]? = some r) := Lib.hid (fun q hq => by
    obtain ⟨k, i⟩ := q
    rw [hl] at hq
    obtain ⟨r, hr, _⟩ := (mem_seenAll hq).2
    exact ⟨r, hr⟩)
  obtain ⟨z0, z1, z2⟩ := three_at hb1
  clear a ho hN hk1 hb1 hP hl hl6
  by_cases h1 : stAt st own = 1
  · have hmw : mwE st own = 0 := by rw [mwE, if_pos h1]
    rw [hmw] at cm
    have E0 : Hid (truE st ⟨mx, opl, own⟩ ks F = if l.any (boundAt st ⟨mx, opl, own⟩ F) then 6 else 0) := Lib.hid (by simp only [truE, if_pos h1, HL.out, HP.out])
    clear hmw h1
    go_enter Try.func40, Try.ntmps40
    go_wp2_with fail
    rw [← hW1, ← hbx]
    clear hW1 hbx
    refine cm.out.mono ?_
    rintro e w2 ⟨rfl, k2⟩
    have K2 := Lib.hid k2
    clear z0 z1 z2
    obtain ⟨z0, z1, z2⟩ := three_at (k2.heap (by simp) HB1.out)
    clear k2
    go_wp2_with fail
    refine (ca.out _ K2.out).mono ?_
    rintro e w3 ⟨sv, rfl, ho3, k3⟩
    have O3 := Lib.hid ho3; have K3 := Lib.hid (K2.out.trans k3 (by simp))
    obtain ⟨a3, c3, hs3⟩ := ownsRow_shape ho3
    have A3 := Lib.hid (A1.out.keep K3.out)
    have PS := Lib.hid (ptrs_spots A3.out l MEM.out)
    have HBX : Hid (w.heap.size ≤ w2.heap.size) := Lib.hid (Nat.le_trans K1.out.size K2.out.size)
    obtain ⟨n, hn⟩ : ∃ n, l.length = n := ⟨_, rfl⟩
    have HN := Lib.hid hn
    rw [hn] at hs3
    have hn6 : n ≤ 1000000 := by rw [← hn]; exact HL6.out
    subst hs3
    have O3N : Hid (w3.ownsRow w2.heap.size 120 1 (.slice a3 n c3) n (ptrs S l)) := Lib.hid (by rw [← hn] at ho3 ⊢; exact ho3)
    clear ho3 k3 z0 z1 z2 hn
    go_wp2_with fail
    go_loopw [9, 23] (fun _ t wr => ∃ k : Nat, t = .int .i64 k ∧ k ≤ n ∧ Kept w3 wr [] ∧ (∀ j q, j < k → l[j]? = some q → boundAt st ⟨mx, opl, own⟩ F q = false)) (fun _ t _ => n - (intOf t).toNat)
    case atStart => exact ⟨0, rfl, Nat.zero_le _, Kept.refl w3 [], fun j q hj => absurd hj (Nat.not_lt_zero _)⟩
    case round =>
      obtain ⟨k, rfl, hk, hkw, hx⟩ := hrel
      have Kw := Lib.hid hkw; have Hx := Lib.hid hx; have K := Lib.hid (K3.out.trans hkw (by simp))
      clear hkw hx
      by_cases hlt : k < n
      · obtain ⟨q, hq⟩ : ∃ q, l[k]? = some q := ⟨_, List.getElem?_eq_getElem (by have := HN.out; omega)⟩
        obtain ⟨qk, qi⟩ := q
        obtain ⟨r, hr⟩ := MEM.out _ (List.mem_of_getElem? hq)
        simp only at hr
        obtain ⟨g3, hg3, _, _, _, hcell⟩ := row_head O3N.out (show 0 < n by omega)
        obtain ⟨gq, hgq⟩ : ∃ gq, gq = (S qk).ownBlock.getD 0 := ⟨_, rfl⟩
        have e1 : w3.cell? ⟨g3, k, none⟩ = some (.pointer (some ⟨gq, qi * 4, none⟩)) := hcell k _ (by rw [PS.out, List.getElem?_map, spots, List.getElem?_map, hq, hgq]; rfl)
        subst hg3
        obtain ⟨_, _, _, d3⟩ := spot_cells (A3.out.keep Kw.out) hr
        rw [← hgq] at d3
        have e2 := Kw.out.cell (p := ⟨g3, k, none⟩) (by simp) e1
        obtain ⟨z0, z1, z2⟩ := three_at (K.out.heap (by simp) HB1.out)
        have x1 : (k : Int) < (n : Int) := by omega
        have hok := (A.out.hp.ok qk r (List.mem_of_getElem? hr)).2
        have bq : Hid (boundAt st ⟨mx, opl, own⟩ F (qk, qi) = binds st ⟨mx, opl, own⟩ r.death) := Lib.hid (by simp only [boundAt, hr])
        obtain ⟨rt, rb, rd⟩ := r
        simp only at d3 hok bq
        have CB := Lib.hid (fun V (hV : Kept W1 V []) => cb.out V rd hok hV)
        obtain ⟨bo, hbo⟩ : ∃ bo, binds st ⟨mx, opl, own⟩ rd = bo := ⟨_, rfl⟩
        rw [hbo] at bq CB
        have HQ := Lib.hid hq
        have k8 : Kept wr wr.drew [] := (Kept.refl wr []).drew
        have yy : ((wr.drew.cell? ⟨bx, 0, none⟩ = some (.int .i64 mx) ∧ wr.drew.cell? ⟨bx, 1, none⟩ = some (.slice sa opl.length sc)) ∧ wr.drew.cell? ⟨bx, 2, none⟩ = some (.int .i64 own)) ∧ wr.drew.cell? ⟨gq, qi * 4 + 3, none⟩ = some (.int .i64 rd) := ⟨⟨⟨z0, z1⟩, z2⟩, d3⟩
        have YY := Lib.hid yy
        clear hq hr hcell hgq e1 hok hbo z0 z1 z2 d3
        cases bo
        · go_wp2_with fail
          go_region_held3 (fun V => ((V.cell? ⟨bx, 0, none⟩ = some (.int .i64 mx) ∧ V.cell? ⟨bx, 1, none⟩ = some (.slice sa opl.length sc)) ∧ V.cell? ⟨bx, 2, none⟩ = some (.int .i64 own)) ∧ V.cell? ⟨gq, qi * 4 + 3, none⟩ = some (.int .i64 rd)) (exact yy)
            (first
              | (go_at_call 60; refine (CB.out _ ?_).mono ?_; exact K.out.trans k8 (by simp); rintro e w8 ⟨rfl, k9⟩; have yy := bound_keep k9 YY.out; have k8 := k8.trans k9 (by simp)))
          have K8 := Lib.hid (Kw.out.trans k8 (by simp))
          clear k8 k9 yy
          go_wp2
          go_roundw
          case rel =>
            refine ⟨k + 1, by go_num, by omega, K8.out, fun j s hj hs => ?_⟩
            by_cases e : j = k
            · subst e
              rw [HQ.out] at hs
              cases hs
              exact bq.out
            · exact Hx.out j s (by omega) hs
          case measure => simp [intOf]; omega
        · go_wp2_with fail
          go_region_held3 (fun V => ((V.cell? ⟨bx, 0, none⟩ = some (.int .i64 mx) ∧ V.cell? ⟨bx, 1, none⟩ = some (.slice sa opl.length sc)) ∧ V.cell? ⟨bx, 2, none⟩ = some (.int .i64 own)) ∧ V.cell? ⟨gq, qi * 4 + 3, none⟩ = some (.int .i64 rd)) (exact yy)
            (first
              | (go_at_call 60; refine (CB.out _ ?_).mono ?_; exact K.out.trans k8 (by simp); rintro e w8 ⟨rfl, k9⟩; have yy := bound_keep k9 YY.out; have k8 := k8.trans k9 (by simp)))
          have K8 := Lib.hid (K.out.trans k8 (by simp))
          have E6 : Hid (truE st ⟨mx, opl, own⟩ ks F = 6) := Lib.hid (by rw [E0.out, any_of HQ.out bq.out]; rfl)
          clear k8 k9 yy
          go_wp2
          go_ret2
          refine ⟨.slice none 0 0, by rw [E6.out]; rfl, ?_, ?_, Fo.ofKept (K1.out.trans K8.out (by simp)) _⟩
          · rw [truR, E6.out, if_neg (by decide)]
            exact World.ownsRow_nil _ _ _ _
          · rw [truF, E6.out, if_neg (by decide)]
            exact A1.out.keep K8.out
      · have x1 : ¬ (k : Int) < (n : Int) := by omega
        have E6 : Hid (truE st ⟨mx, opl, own⟩ ks F = 0) := Lib.hid (by rw [E0.out, any_none (fun i q hi hq => Hx.out i q (by have := HN.out; omega) hq)]; rfl)
        go_wp2_with fail
        go_loopw [11, 37] (fun _ t wx => ∃ k : Nat, t = .int .i64 k ∧ k ≤ n ∧ Sx wx B p h b mb v S st ks (dieL F own (l.take k)) ∧ Fo (foot p b v h mb S) w3 wx ∧ Fr B [124] w3 wx) (fun _ t _ => n - (intOf t).toNat)
        case atStart => exact ⟨0, rfl, Nat.zero_le _, A3.out.keep Kw.out, Fo.ofKept Kw.out _, Fr.ofKept Kw.out B _⟩
        case round =>
          obtain ⟨j, rfl, hj, hsx, hfo, hfr⟩ := hrel
          have SX := Lib.hid hsx; have FO := Lib.hid hfo; have FR := Lib.hid hfr
          clear hsx hfo hfr
          by_cases hlt2 : j < n
          · obtain ⟨q, hq⟩ : ∃ q, l[j]? = some q := ⟨_, List.getElem?_eq_getElem (by have := HN.out; omega)⟩
            obtain ⟨qk, qi⟩ := q
            obtain ⟨r0, hr0⟩ := MEM.out _ (List.mem_of_getElem? hq)
            simp only at hr0
            have hr : (dieL F own (l.take j) qk)[qi]? = some (if (qk, qi) ∈ l.take j then { r0 with death := own } else r0) := by rw [dieL_get, hr0]; rfl
            generalize (if (qk, qi) ∈ l.take j then { r0 with death := own } else r0 : Vr) = r at hr
            have hlen := (List.getElem?_eq_some_iff.1 hr).1
            obtain ⟨gq, capq, curq, hsq, hgq⟩ := SX.out.row hlen
            obtain ⟨g3, hg3, _, _, _, hcell⟩ := row_head (ownsRow_fr O3N.out FR.out (by decide)) (show 0 < n by omega)
            have e1 := hcell j (.pointer (some ⟨gq, qi * 4, none⟩)) (by rw [ptrs, List.getElem?_map, hq]; simp only [Option.map_some, pv, hsq])
            subst hg3
            obtain ⟨_, _, _, d3⟩ := spot_cells SX.out hr
            rw [hsq] at d3
            simp only [Value.ownBlock, Option.getD_some] at d3
            have fz := frozen_of_row _ gq (qi * 4 + 3) _ _ hgq
            obtain ⟨z0, z1, z2⟩ := three_at (FR.out.heap (K3.out.heap (by simp) HB1.out) (by decide))
            have x2 : (j : Int) < (n : Int) := by omega
            have D := Lib.hid (SX.out.die hsq hlen own HOW.out)
            have TK : Hid (dieL F own (l.take (j + 1)) = updF (dieL F own (l.take j)) qk (dieAt (dieL F own (l.take j) qk) qi own)) := Lib.hid (by
              rw [List.take_add_one, hq]
              exact dieL_snoc own (qk, qi) (l.take j) F)
            obtain ⟨rt, rb, rd⟩ := r
            simp only at d3
            clear hq hr0 hr hlen hsq hgq hcell
            go_wp2
            go_roundw
            case rel =>
              refine ⟨j + 1, by go_num, by omega, ?_, FO.out.trans D.out.2.1, FR.out.trans D.out.2.2⟩
              rw [TK.out]
              exact D.out.1
            case measure => simp [intOf]; omega
          · have x2 : ¬ (j : Int) < (n : Int) := by omega
            have LJ : Hid (l.take j = l) := Lib.hid (List.take_of_length_le (by have := HN.out; omega))
            have SX2 := SX.out
            rw [LJ.out] at SX2
            have SXL := Lib.hid SX2
            have cr := Lib.hid (rowsDied_any (F := F) P SXL.out (fun q hq r hr => by
              refine ⟨if (q.1, q.2) ∈ l then { r with death := own } else r, by rw [dieL_get, hr]; rfl, by split <;> rfl⟩) (.slice a3 n c3) (by rw [← HL.out, HN.out]; exact ownsRow_fr O3N.out FR.out (by decide)) (by rw [← HL.out]; exact HL6.out))
            clear SX2
            go_wp2_with fail
            refine cr.out.mono ?_
            rintro e w5 ⟨v5, rfl, ho5, k5⟩
            have O5 := Lib.hid ho5; have K5 := Lib.hid k5
            clear ho5 k5
            go_wp2
            go_ret2
            refine ⟨v5, by rw [E6.out]; rfl, ?_, ?_, ((Fo.ofKept (K1.out.trans K3.out (by simp)) _).trans FO.out).trans (Fo.ofKept K5.out _)⟩
            · rw [truR, E6.out, if_pos rfl, ← HP.out]
              exact ownsRow_low O5.out (Nat.le_trans (Nat.le_trans K1.out.size K3.out.size) FO.out.size)
            · rw [truF, E6.out, if_pos rfl, ← HP.out, ← HL.out]
              exact SXL.out.keep K5.out
  · have hmw : mwE st own = 7 := by rw [mwE, if_neg h1]
    rw [hmw] at cm
    have E6 : Hid (truE st ⟨mx, opl, own⟩ ks F = 7) := Lib.hid (by rw [truE, if_neg h1])
    clear hmw h1 ca cb
    go_enter Try.func40, Try.ntmps40
    go_wp2_with fail
    rw [← hW1, ← hbx]
    clear hW1 hbx
    refine cm.out.mono ?_
    rintro e w2 ⟨rfl, k2⟩
    have K2 := Lib.hid k2
    clear k2
    go_wp2
    go_ret2
    refine ⟨.slice none 0 0, by rw [E6.out]; rfl, ?_, ?_, Fo.ofKept (K1.out.trans K2.out (by simp)) _⟩
    · rw [truR, E6.out, if_neg (by decide)]
      exact World.ownsRow_nil _ _ _ _
    · rw [truF, E6.out, if_neg (by decide)]
      exact A1.out.keep K2.out

end Go.Proofs.Ytdjhcdgehmpikaa
