/-
  The contracts of the document's own answers for layer 3, fifth part: Crash.
-/
import Derived.Test.YtfhdblbiamdplaaRefRest
namespace Go.Proofs.Ytfhdblbiamdplaa
open Go.RowKit

theorem left_step (lost : List Bool) (torn : Int) (m : Nat) (ws : List (Nat × List UInt8)) (i : Nat) (hi : i < ws.length) :
    left lost torn m 0 (ws.take (i + 1)) = left lost torn m 0 (ws.take i) ++ (if lost.getD i false then [] else [(ws[i].1, if i + 1 = m then ws[i].2.take torn.toNat else ws[i].2)]) := by
  have e : ws.take (i + 1) = ws.take i ++ [ws[i]] := by
    rw [List.take_add_one, List.getElem?_eq_getElem hi]
    rfl
  have el : (ws.take i).length = i := by simp; omega
  rw [e, left_take, el, Nat.zero_add]

theorem ownsRow_mono {w : World} {base base' e size n : Nat} {v : Value} {xs : List Value} (h : w.ownsRow base e size v n xs) (hb : base' ≤ base) : w.ownsRow base' e size v n xs := by
  refine ⟨h.1, ?_⟩
  rcases h.2 with h2 | ⟨g, cap, cur, rfl, hbg, r⟩
  · exact .inl h2
  · exact .inr ⟨g, cap, cur, rfl, by omega, r⟩

/-- What the append of one write makes of the list that is left. -/
theorem rleft_end {w wB w5 : World} {B I : Nat} {v5 pv : Value} {P : List UInt8} {L : List (Nat × List UInt8)} {xs : List (Nat × Value)} (hk : Kept w wB []) (hq : Wq wB B xs L) (hB : B ≤ w.heap.size) (hp : Rb wB B 5 pv P)
    (ho : w5.ownsRow w.heap.size 108 2 v5 (L.length + 1) (qcells xs ++ [.int .i64 I, pv])) (hf : Fr w.heap.size [108] wB w5) :
    (∃ a n c, v5 = .slice a n c) ∧ w5.ownsRow w.heap.size 108 2 v5 (L ++ [(I, P)]).length (qcells (xs ++ [(I, pv)])) ∧ Wq w5 B (xs ++ [(I, pv)]) (L ++ [(I, P)]) ∧ Kept w w5 [] := by
  obtain ⟨a, c, hv⟩ := ownsRow_shape ho
  have e : qcells (xs ++ [(I, pv)]) = qcells xs ++ [.int .i64 I, pv] := by simp [qcells]
  refine ⟨⟨a, _, c, hv⟩, by rw [e, List.length_append]; exact ho, (hq.frame hf hB (by decide)).snoc I pv P (hp.frame hf hB (by decide)), hk.later hf (Nat.le_refl _)⟩

theorem Try.size67 : (Try.prog.info? 108).map (·.size) = some 2 := by kernel_rfl

/-- A literal of one element at a plain region's list: the new world is a name. -/
theorem wpList_buildSlice_one {P : Program} (w : World) {ops : Array Oper} {rest : List Oper} {o : Oper} {a : Act} {Q : Exit → Act → World → Prop} (hgd : o.guard = none) (t : TypeId) (x : Operand) (ho : o.op = .buildSlice t 1 #[(0, x)])
    (e : TypeId) (i : TypeInfo) (z : Value) (size : Nat) (ht : P.underlying t = some (.slice e)) (hi : P.info? e = some i) (hz : i.zero = some z) (hs : i.size = size) (h0 : 0 < size) (hb : size ≤ 16777216)
    (cells : List Value) (hx : a.eval x = .agg cells.toArray) (hl : cells.length = size)
    (h : ∀ w', Hid (w'.heap[w.heap.size]? = some (.cells cells.toArray e (0, 0))) → Kept w w' [] → w'.heap.size = w.heap.size + 1 → wpList P ops Q rest (a.put o.dst (.slice (some ⟨w.heap.size, 0, none⟩) 1 1)) w') : wpList P ops Q (o :: rest) a w := by
  refine wpList_plain hgd fun K hK => ?_
  have hr := run_buildSlice_one (P := P) w t e i z size ht hi hz hs h0 hb cells hl
  unfold Oper.wp execOp
  simp only [ho, List.map_toArray, List.map_cons, List.map_nil, hx, hr, Sem.run_bind, Sem.run_pure, Result.andThen_ok]
  exact hK _ _ (h _ (Lib.hid (heap_alloc_new w _)) ((Kept.refl w []).alloc _) (by simp))

theorem src_two {w : World} {g : Nat} {u v : Value} (hb : w.heap[g]? = some (.cells #[u, v] 108 (0, 0))) (hu : u.oneCell' = true) (hv : v.oneCell' = true) : Src Try.prog 2 50 (.slice (some ⟨g, 0, none⟩) 1 1) 1 [u, v] w := by
  refine Src.ofSlice w Try.underlying50 ⟨g, 0, none⟩ 1 1 _ rfl (fun j x hx => ?_) (by intro x hx; simp at hx; rcases hx with rfl | rfl; exact hu; exact hv)
  rw [Addr.add_lit, cell_of_row w _ _ _ _ _ hb, Nat.zero_add]
  simpa using hx

theorem two_cell0 {w : World} {g : Nat} {u v : Value} {t : TypeId} {fz : Nat × Nat} (h : w.heap[g]? = some (.cells [u, v].toArray t fz)) : w.cell? ⟨g, 0, none⟩ = some u := by simpa using cell_of_row w g 0 _ _ _ h
theorem two_cell1 {w : World} {g : Nat} {u v : Value} {t : TypeId} {fz : Nat × Nat} (h : w.heap[g]? = some (.cells [u, v].toArray t fz)) : w.cell? ⟨g, 1, none⟩ = some v := by simpa using cell_of_row w g 1 _ _ _ h
theorem two_frozen {w : World} {g : Nat} {u v : Value} {t : TypeId} (h : w.heap[g]? = some (.cells [u, v].toArray t (0, 0))) : w.frozen? ⟨g, 1, none⟩ = false := frozen_of_row _ _ _ _ _ h

theorem two_one (I : Int) (pa : Option Addr) (n c : Nat) : ∀ u ∈ [Value.int .i64 I, .slice pa n c], u.oneCell' = true := by
  intro u hu
  simp at hu
  rcases hu with rfl | rfl <;> rfl

set_option maxHeartbeats 8000000 in
set_option maxRecDepth 100000 in
theorem rcrash_any {w : World} {B q n : Nat} {vs vw : Value} {safe : List UInt8} {ws : List (Nat × List UInt8)} (R : Rf w B q vs vw n safe ws) (hws : ws.length ≤ 1000000) (hB : B ≤ w.heap.size) (vl : Value) (lost : List Bool) (hlo : RbB w B 4 vl lost) (torn : Int) :
    Calls Try.prog 24 #[.pointer (some ⟨q, 0, none⟩), vl, .int .i64 torn] w fun e w' => e = .returned (.tuple #[]) ∧ ∃ vs', Rf w' B q vs' (.slice none 0 0) n (laid safe (left lost torn ws.length 0 ws)) [] ∧ Fr B rts w w' := by
  obtain ⟨xs, hx, hwq⟩ := R.hw
  obtain ⟨aw, cw, hvw⟩ := ownsRow_shape hx
  subst hvw
  obtain ⟨la, lc, rfl, _⟩ := id hlo
  have hq1 := R.cell1
  have Hx := Lib.hid hx; have Hwq := Lib.hid hwq; have HR := Lib.hid R; have Hlo := Lib.hid hlo; have Hq1 := Lib.hid hq1
  clear hx hwq R hlo hq1
  obtain ⟨i0, hi0, hz0, hz1, hzb⟩ := info_parts Try.infoQ
  go_enter Try.func24, Try.ntmps24
  go_wp2
  go_loopw [2, 6, 7] (fun t2 t6 t7 wr => ∃ (i : Nat) (xs' : List (Nat × Value)) (a6 : Option Addr) (n6 c6 : Nat), t7 = .int .i64 i ∧ i ≤ ws.length ∧ t6 = .slice a6 n6 c6 ∧ (i < ws.length → t2 = .int .i64 torn) ∧ wr.ownsRow w.heap.size 108 2 (.slice a6 n6 c6) (left lost torn ws.length 0 (ws.take i)).length (qcells xs') ∧ Wq wr B xs' (left lost torn ws.length 0 (ws.take i)) ∧ Kept w wr []) (fun _ _ t7 _ => ws.length - (intOf t7).toNat)
  case atStart => exact ⟨0, [], none, 0, 0, rfl, Nat.zero_le _, rfl, fun _ => rfl, World.ownsRow_nil _ _ _ _, ⟨rfl, fun i h => by simp at h⟩, Kept.refl _ _⟩
  case round =>
    obtain ⟨i, xs', a6, n6, c6, rfl, hi, rfl, ht2, hown, hwq2, hkept⟩ := hrel
    have Hown := Lib.hid hown; have Hwq2 := Lib.hid hwq2; have Hkept := Lib.hid hkept
    clear hown hwq2 hkept
    have c1 := Hkept.out.cell (p := ⟨q, 1, none⟩) (by simp) Hq1.out
    by_cases hlt : i < ws.length
    · have e2 := ht2 hlt
      subst e2
      clear ht2
      obtain ⟨gw, pv, hav, e1, e2, e3⟩ := wq_at Hx.out Hwq.out i hlt
      subst hav
      obtain ⟨I, hI⟩ : ∃ I, I = ws[i].1 := ⟨_, rfl⟩
      obtain ⟨P, hP⟩ : ∃ P, P = ws[i].2 := ⟨_, rfl⟩
      have hst := left_step lost torn ws.length ws i hlt
      rw [← hI, ← hP] at hst
      rw [← hI] at e1
      rw [← hP] at e3
      have E3 := Lib.hid e3
      obtain ⟨pa, pc, rfl, hpc, hpn, _⟩ := e3
      have d1 := Hkept.out.cell (p := ⟨gw, i * 2, none⟩) (by simp) e1
      have d2 := Hkept.out.cell (p := ⟨gw, i * 2 + 1, none⟩) (by simp) e2
      have Hst := Lib.hid hst
      have hLo := Hlo.out.frame (Fr.ofKept Hkept.out B []) (Nat.le_refl _) (by simp)
      clear hst hI hP e1 e2
      by_cases hl : lost.getD i false = true
      · have hkl : i < lost.length := by
          rcases Nat.lt_or_ge i lost.length with h1 | h1
          · exact h1
          · rw [List.getD, List.getElem?_eq_none h1] at hl; simp at hl
        obtain ⟨la', lc', e1, hb⟩ := hLo
        simp only [Value.slice.injEq] at e1
        obtain ⟨rfl, _, rfl⟩ := e1
        obtain ⟨lb, lo, rfl, _, hcl⟩ := hb (by rintro rfl; simp at hkl)
        have Hcl := Lib.hid (hcl i hkl)
        rw [hl] at Hcl
        clear hcl hb
        go_wp2_with (refine wpList_store_new wr rfl 108 (.tmp 8) (.tmp 24) rfl _ 108 [.int .i64 I, .slice pa P.length pc] rfl rfl Try.size67 rfl (two_one _ _ _ _) ?_; intro w2 hbox hk2 hz2; have c2 := hk2.out.cell (p := ⟨q, 1, none⟩) (by simp) c1; have b0 := two_cell0 hbox.out; have b1 := two_cell1 hbox.out; have bf := two_frozen hbox.out; have cl : w2.cell? ⟨lb, lo + i, none⟩ = some (.bool true) := hk2.out.cell (p := ⟨lb, lo + i, none⟩) (by simp) Hcl.out)
        have K2 := Lib.hid (Hkept.out.trans hk2.out (by simp))
        have O2 := Lib.hid (ownsRow_kept Hown.out hk2.out (fun _ _ => by simp)); have Q2 := Lib.hid (Hwq2.out.frame (Fr.ofKept hk2.out B []) (Nat.le_refl _) (by simp))
        have E2 : left lost torn ws.length 0 (ws.take (i + 1)) = left lost torn ws.length 0 (ws.take i) := by rw [Hst.out, if_pos hl, List.append_nil]
        have E2 := Lib.hid E2
        go_roundw
        case rel => exact ⟨i + 1, xs', a6, n6, c6, by go_num, by omega, rfl, fun _ => rfl, by rw [E2.out]; exact O2.out, by rw [E2.out]; exact Q2.out, K2.out⟩
        case measure => simp [intOf]; omega
      · have hlf : lost.getD i false = false := by simpa using hl
        clear hl
        rw [hlf, if_neg (by decide)] at Hst
        have hL := left_le lost torn ws.length (ws.take i) 0
        have hL2 : (ws.take i).length ≤ i := List.length_take_le _ _
        by_cases hkl : i < lost.length
        · obtain ⟨la', lc', e1, hb⟩ := hLo
          simp only [Value.slice.injEq] at e1
          obtain ⟨rfl, _, rfl⟩ := e1
          obtain ⟨lb, lo, rfl, _, hcl⟩ := hb (by rintro rfl; simp at hkl)
          have Hcl := Lib.hid (hcl i hkl)
          rw [hlf] at Hcl
          clear hcl hb
          by_cases hlast : i + 1 = ws.length
          · rw [if_pos hlast] at Hst
            have hbl : ((i : Int) == (ws.length : Int) - 1) = true := by simp; omega
            have hnl : ¬ (i + 1 < ws.length) := by omega
            clear hlast
            by_cases ht : torn < (P.length : Int)
            · by_cases h0 : torn < 0
              · have e0 : P.take torn.toNat = [] := by rw [show torn.toNat = 0 by omega]; rfl
                rw [e0] at Hst
                have hp0 := E3.out.take 0 (Nat.zero_le _)
                rw [List.take_zero] at hp0
                have Hp0 := Lib.hid hp0
                clear e0 hp0
                go_wp2_with (first
                  | (refine wpList_store_new wr rfl 108 (.tmp 8) (.tmp 24) rfl _ 108 [.int .i64 I, .slice pa P.length pc] rfl rfl Try.size67 rfl (two_one _ _ _ _) ?_; intro w2 hbox hk2 hz2; have c2 := hk2.out.cell (p := ⟨q, 1, none⟩) (by simp) c1; have b0 := two_cell0 hbox.out; have b1 := two_cell1 hbox.out; have bf := two_frozen hbox.out; have cl : w2.cell? ⟨lb, lo + i, none⟩ = some (.bool false) := hk2.out.cell (p := ⟨lb, lo + i, none⟩) (by simp) Hcl.out)
                  | (refine wpList_buildSlice_one _ rfl 50 (.tmp 58) rfl 108 i0 _ 2 Try.underlying50 hi0 hz0 hz1 (by decide) (by decide) [.int .i64 I, .slice pa 0 pc] rfl rfl ?_; intro w3 hb3 hk3 hz3; have k3 : Kept wr w3 [] := (hk2.out.setCell (.inr (Nat.le_refl _)) _).trans hk3 (by simp))
                  | (refine wpList_append_fr w3 rfl (.tmp 57) (.tmp 59) 50 50 rfl w.heap.size 108 i0 _ 2 32 Try.underlying50 hi0 hz0 hz1 hzb rfl (.slice a6 n6 c6) (left lost torn ws.length 0 (ws.take i)).length (qcells xs') rfl (ownsRow_kept Hown.out k3 (fun _ _ => by simp)) _ 1 [.int .i64 I, .slice pa 0 pc] rfl (src_two hb3.out rfl rfl) (by unfold maxLen; omega) (by omega) (by have h1 := Hkept.out.size; have h2 := k3.size; omega) ?_; intro v5 w5 ho5 hf5 _; obtain ⟨⟨a5, n5, c5, rfl⟩, o5, q5, k5⟩ := rleft_end (Hkept.out.trans k3 (by simp)) (Hwq2.out.frame (Fr.ofKept k3 B []) (Nat.le_refl _) (by simp)) hB ((Hp0.out).frame (Fr.ofKept (Hkept.out.trans k3 (by simp)) B []) (Nat.le_refl _) (by simp)) ho5 hf5; have O5 := Lib.hid o5; have Q5 := Lib.hid q5; have K5 := Lib.hid k5; clear ho5 hf5 o5 q5 k5))
                go_roundw
                case rel => exact ⟨i + 1, _, a5, n5, c5, by go_num, by omega, rfl, fun h => absurd h hnl, by rw [Hst.out]; exact O5.out, by rw [Hst.out]; exact Q5.out, K5.out⟩
                case measure => simp [intOf]; omega
              · obtain ⟨t, rfl⟩ : ∃ t : Nat, torn = t := ⟨torn.toNat, by omega⟩
                have htc : (t : Int) ≤ (pc : Int) := by omega
                rw [Int.toNat_natCast] at Hst
                have Hp0 := Lib.hid (E3.out.take t (by omega))
                go_wp2_with (first
                  | (refine wpList_store_new wr rfl 108 (.tmp 8) (.tmp 24) rfl _ 108 [.int .i64 I, .slice pa P.length pc] rfl rfl Try.size67 rfl (two_one _ _ _ _) ?_; intro w2 hbox hk2 hz2; have c2 := hk2.out.cell (p := ⟨q, 1, none⟩) (by simp) c1; have b0 := two_cell0 hbox.out; have b1 := two_cell1 hbox.out; have bf := two_frozen hbox.out; have cl : w2.cell? ⟨lb, lo + i, none⟩ = some (.bool false) := hk2.out.cell (p := ⟨lb, lo + i, none⟩) (by simp) Hcl.out)
                  | (refine wpList_buildSlice_one _ rfl 50 (.tmp 58) rfl 108 i0 _ 2 Try.underlying50 hi0 hz0 hz1 (by decide) (by decide) [.int .i64 I, .slice pa t pc] rfl rfl ?_; intro w3 hb3 hk3 hz3; have k3 : Kept wr w3 [] := (hk2.out.setCell (.inr (Nat.le_refl _)) _).trans hk3 (by simp))
                  | (refine wpList_append_fr w3 rfl (.tmp 57) (.tmp 59) 50 50 rfl w.heap.size 108 i0 _ 2 32 Try.underlying50 hi0 hz0 hz1 hzb rfl (.slice a6 n6 c6) (left lost (t : Int) ws.length 0 (ws.take i)).length (qcells xs') rfl (ownsRow_kept Hown.out k3 (fun _ _ => by simp)) _ 1 [.int .i64 I, .slice pa t pc] rfl (src_two hb3.out rfl rfl) (by unfold maxLen; omega) (by omega) (by have h1 := Hkept.out.size; have h2 := k3.size; omega) ?_; intro v5 w5 ho5 hf5 _; obtain ⟨⟨a5, n5, c5, rfl⟩, o5, q5, k5⟩ := rleft_end (Hkept.out.trans k3 (by simp)) (Hwq2.out.frame (Fr.ofKept k3 B []) (Nat.le_refl _) (by simp)) hB ((Hp0.out).frame (Fr.ofKept (Hkept.out.trans k3 (by simp)) B []) (Nat.le_refl _) (by simp)) ho5 hf5; have O5 := Lib.hid o5; have Q5 := Lib.hid q5; have K5 := Lib.hid k5; clear ho5 hf5 o5 q5 k5))
                go_roundw
                case rel => exact ⟨i + 1, _, a5, n5, c5, by go_num, by omega, rfl, fun h => absurd h hnl, by rw [Hst.out]; exact O5.out, by rw [Hst.out]; exact Q5.out, K5.out⟩
                case measure => simp [intOf]; omega
            · have e0 : P.take torn.toNat = P := List.take_of_length_le (by omega)
              rw [e0] at Hst
              clear e0
              go_wp2_with (first
                | (refine wpList_store_new wr rfl 108 (.tmp 8) (.tmp 24) rfl _ 108 [.int .i64 I, .slice pa P.length pc] rfl rfl Try.size67 rfl (two_one _ _ _ _) ?_; intro w2 hbox hk2 hz2; have c2 := hk2.out.cell (p := ⟨q, 1, none⟩) (by simp) c1; have b0 := two_cell0 hbox.out; have b1 := two_cell1 hbox.out; have bf := two_frozen hbox.out; have cl : w2.cell? ⟨lb, lo + i, none⟩ = some (.bool false) := hk2.out.cell (p := ⟨lb, lo + i, none⟩) (by simp) Hcl.out)
                | (refine wpList_buildSlice_one _ rfl 50 (.tmp 58) rfl 108 i0 _ 2 Try.underlying50 hi0 hz0 hz1 (by decide) (by decide) [.int .i64 I, .slice pa P.length pc] rfl rfl ?_; intro w3 hb3 hk3 hz3; have k3 : Kept wr w3 [] := (hk2.out).trans hk3 (by simp))
                | (refine wpList_append_fr w3 rfl (.tmp 57) (.tmp 59) 50 50 rfl w.heap.size 108 i0 _ 2 32 Try.underlying50 hi0 hz0 hz1 hzb rfl (.slice a6 n6 c6) (left lost torn ws.length 0 (ws.take i)).length (qcells xs') rfl (ownsRow_kept Hown.out k3 (fun _ _ => by simp)) _ 1 [.int .i64 I, .slice pa P.length pc] rfl (src_two hb3.out rfl rfl) (by unfold maxLen; omega) (by omega) (by have h1 := Hkept.out.size; have h2 := k3.size; omega) ?_; intro v5 w5 ho5 hf5 _; obtain ⟨⟨a5, n5, c5, rfl⟩, o5, q5, k5⟩ := rleft_end (Hkept.out.trans k3 (by simp)) (Hwq2.out.frame (Fr.ofKept k3 B []) (Nat.le_refl _) (by simp)) hB ((E3.out).frame (Fr.ofKept (Hkept.out.trans k3 (by simp)) B []) (Nat.le_refl _) (by simp)) ho5 hf5; have O5 := Lib.hid o5; have Q5 := Lib.hid q5; have K5 := Lib.hid k5; clear ho5 hf5 o5 q5 k5))
              go_roundw
              case rel => exact ⟨i + 1, _, a5, n5, c5, by go_num, by omega, rfl, fun h => absurd h hnl, by rw [Hst.out]; exact O5.out, by rw [Hst.out]; exact Q5.out, K5.out⟩
              case measure => simp [intOf]; omega
          · rw [if_neg hlast] at Hst
            have hbl : ((i : Int) == (ws.length : Int) - 1) = false := by simp; omega
            clear hlast
            go_wp2_with (first
              | (refine wpList_store_new wr rfl 108 (.tmp 8) (.tmp 24) rfl _ 108 [.int .i64 I, .slice pa P.length pc] rfl rfl Try.size67 rfl (two_one _ _ _ _) ?_; intro w2 hbox hk2 hz2; have c2 := hk2.out.cell (p := ⟨q, 1, none⟩) (by simp) c1; have b0 := two_cell0 hbox.out; have b1 := two_cell1 hbox.out; have bf := two_frozen hbox.out; have cl : w2.cell? ⟨lb, lo + i, none⟩ = some (.bool false) := hk2.out.cell (p := ⟨lb, lo + i, none⟩) (by simp) Hcl.out)
              | (refine wpList_buildSlice_one _ rfl 50 (.tmp 58) rfl 108 i0 _ 2 Try.underlying50 hi0 hz0 hz1 (by decide) (by decide) [.int .i64 I, .slice pa P.length pc] rfl rfl ?_; intro w3 hb3 hk3 hz3; have k3 : Kept wr w3 [] := (hk2.out).trans hk3 (by simp))
              | (refine wpList_append_fr w3 rfl (.tmp 57) (.tmp 59) 50 50 rfl w.heap.size 108 i0 _ 2 32 Try.underlying50 hi0 hz0 hz1 hzb rfl (.slice a6 n6 c6) (left lost torn ws.length 0 (ws.take i)).length (qcells xs') rfl (ownsRow_kept Hown.out k3 (fun _ _ => by simp)) _ 1 [.int .i64 I, .slice pa P.length pc] rfl (src_two hb3.out rfl rfl) (by unfold maxLen; omega) (by omega) (by have h1 := Hkept.out.size; have h2 := k3.size; omega) ?_; intro v5 w5 ho5 hf5 _; obtain ⟨⟨a5, n5, c5, rfl⟩, o5, q5, k5⟩ := rleft_end (Hkept.out.trans k3 (by simp)) (Hwq2.out.frame (Fr.ofKept k3 B []) (Nat.le_refl _) (by simp)) hB ((E3.out).frame (Fr.ofKept (Hkept.out.trans k3 (by simp)) B []) (Nat.le_refl _) (by simp)) ho5 hf5; have O5 := Lib.hid o5; have Q5 := Lib.hid q5; have K5 := Lib.hid k5; clear ho5 hf5 o5 q5 k5))
            go_roundw
            case rel => exact ⟨i + 1, _, a5, n5, c5, by go_num, by omega, rfl, fun _ => rfl, by rw [Hst.out]; exact O5.out, by rw [Hst.out]; exact Q5.out, K5.out⟩
            case measure => simp [intOf]; omega
        · have hkf : ¬ (i : Int) < (lost.length : Int) := by omega
          clear hLo
          by_cases hlast : i + 1 = ws.length
          · rw [if_pos hlast] at Hst
            have hbl : ((i : Int) == (ws.length : Int) - 1) = true := by simp; omega
            have hnl : ¬ (i + 1 < ws.length) := by omega
            clear hlast
            by_cases ht : torn < (P.length : Int)
            · by_cases h0 : torn < 0
              · have e0 : P.take torn.toNat = [] := by rw [show torn.toNat = 0 by omega]; rfl
                rw [e0] at Hst
                have hp0 := E3.out.take 0 (Nat.zero_le _)
                rw [List.take_zero] at hp0
                have Hp0 := Lib.hid hp0
                clear e0 hp0
                go_wp2_with (first
                  | (refine wpList_store_new wr rfl 108 (.tmp 8) (.tmp 24) rfl _ 108 [.int .i64 I, .slice pa P.length pc] rfl rfl Try.size67 rfl (two_one _ _ _ _) ?_; intro w2 hbox hk2 hz2; have c2 := hk2.out.cell (p := ⟨q, 1, none⟩) (by simp) c1; have b0 := two_cell0 hbox.out; have b1 := two_cell1 hbox.out; have bf := two_frozen hbox.out)
                  | (refine wpList_buildSlice_one _ rfl 50 (.tmp 58) rfl 108 i0 _ 2 Try.underlying50 hi0 hz0 hz1 (by decide) (by decide) [.int .i64 I, .slice pa 0 pc] rfl rfl ?_; intro w3 hb3 hk3 hz3; have k3 : Kept wr w3 [] := (hk2.out.setCell (.inr (Nat.le_refl _)) _).trans hk3 (by simp))
                  | (refine wpList_append_fr w3 rfl (.tmp 57) (.tmp 59) 50 50 rfl w.heap.size 108 i0 _ 2 32 Try.underlying50 hi0 hz0 hz1 hzb rfl (.slice a6 n6 c6) (left lost torn ws.length 0 (ws.take i)).length (qcells xs') rfl (ownsRow_kept Hown.out k3 (fun _ _ => by simp)) _ 1 [.int .i64 I, .slice pa 0 pc] rfl (src_two hb3.out rfl rfl) (by unfold maxLen; omega) (by omega) (by have h1 := Hkept.out.size; have h2 := k3.size; omega) ?_; intro v5 w5 ho5 hf5 _; obtain ⟨⟨a5, n5, c5, rfl⟩, o5, q5, k5⟩ := rleft_end (Hkept.out.trans k3 (by simp)) (Hwq2.out.frame (Fr.ofKept k3 B []) (Nat.le_refl _) (by simp)) hB ((Hp0.out).frame (Fr.ofKept (Hkept.out.trans k3 (by simp)) B []) (Nat.le_refl _) (by simp)) ho5 hf5; have O5 := Lib.hid o5; have Q5 := Lib.hid q5; have K5 := Lib.hid k5; clear ho5 hf5 o5 q5 k5))
                go_roundw
                case rel => exact ⟨i + 1, _, a5, n5, c5, by go_num, by omega, rfl, fun h => absurd h hnl, by rw [Hst.out]; exact O5.out, by rw [Hst.out]; exact Q5.out, K5.out⟩
                case measure => simp [intOf]; omega
              · obtain ⟨t, rfl⟩ : ∃ t : Nat, torn = t := ⟨torn.toNat, by omega⟩
                have htc : (t : Int) ≤ (pc : Int) := by omega
                rw [Int.toNat_natCast] at Hst
                have Hp0 := Lib.hid (E3.out.take t (by omega))
                go_wp2_with (first
                  | (refine wpList_store_new wr rfl 108 (.tmp 8) (.tmp 24) rfl _ 108 [.int .i64 I, .slice pa P.length pc] rfl rfl Try.size67 rfl (two_one _ _ _ _) ?_; intro w2 hbox hk2 hz2; have c2 := hk2.out.cell (p := ⟨q, 1, none⟩) (by simp) c1; have b0 := two_cell0 hbox.out; have b1 := two_cell1 hbox.out; have bf := two_frozen hbox.out)
                  | (refine wpList_buildSlice_one _ rfl 50 (.tmp 58) rfl 108 i0 _ 2 Try.underlying50 hi0 hz0 hz1 (by decide) (by decide) [.int .i64 I, .slice pa t pc] rfl rfl ?_; intro w3 hb3 hk3 hz3; have k3 : Kept wr w3 [] := (hk2.out.setCell (.inr (Nat.le_refl _)) _).trans hk3 (by simp))
                  | (refine wpList_append_fr w3 rfl (.tmp 57) (.tmp 59) 50 50 rfl w.heap.size 108 i0 _ 2 32 Try.underlying50 hi0 hz0 hz1 hzb rfl (.slice a6 n6 c6) (left lost (t : Int) ws.length 0 (ws.take i)).length (qcells xs') rfl (ownsRow_kept Hown.out k3 (fun _ _ => by simp)) _ 1 [.int .i64 I, .slice pa t pc] rfl (src_two hb3.out rfl rfl) (by unfold maxLen; omega) (by omega) (by have h1 := Hkept.out.size; have h2 := k3.size; omega) ?_; intro v5 w5 ho5 hf5 _; obtain ⟨⟨a5, n5, c5, rfl⟩, o5, q5, k5⟩ := rleft_end (Hkept.out.trans k3 (by simp)) (Hwq2.out.frame (Fr.ofKept k3 B []) (Nat.le_refl _) (by simp)) hB ((Hp0.out).frame (Fr.ofKept (Hkept.out.trans k3 (by simp)) B []) (Nat.le_refl _) (by simp)) ho5 hf5; have O5 := Lib.hid o5; have Q5 := Lib.hid q5; have K5 := Lib.hid k5; clear ho5 hf5 o5 q5 k5))
                go_roundw
                case rel => exact ⟨i + 1, _, a5, n5, c5, by go_num, by omega, rfl, fun h => absurd h hnl, by rw [Hst.out]; exact O5.out, by rw [Hst.out]; exact Q5.out, K5.out⟩
                case measure => simp [intOf]; omega
            · have e0 : P.take torn.toNat = P := List.take_of_length_le (by omega)
              rw [e0] at Hst
              clear e0
              go_wp2_with (first
                | (refine wpList_store_new wr rfl 108 (.tmp 8) (.tmp 24) rfl _ 108 [.int .i64 I, .slice pa P.length pc] rfl rfl Try.size67 rfl (two_one _ _ _ _) ?_; intro w2 hbox hk2 hz2; have c2 := hk2.out.cell (p := ⟨q, 1, none⟩) (by simp) c1; have b0 := two_cell0 hbox.out; have b1 := two_cell1 hbox.out; have bf := two_frozen hbox.out)
                | (refine wpList_buildSlice_one _ rfl 50 (.tmp 58) rfl 108 i0 _ 2 Try.underlying50 hi0 hz0 hz1 (by decide) (by decide) [.int .i64 I, .slice pa P.length pc] rfl rfl ?_; intro w3 hb3 hk3 hz3; have k3 : Kept wr w3 [] := (hk2.out).trans hk3 (by simp))
                | (refine wpList_append_fr w3 rfl (.tmp 57) (.tmp 59) 50 50 rfl w.heap.size 108 i0 _ 2 32 Try.underlying50 hi0 hz0 hz1 hzb rfl (.slice a6 n6 c6) (left lost torn ws.length 0 (ws.take i)).length (qcells xs') rfl (ownsRow_kept Hown.out k3 (fun _ _ => by simp)) _ 1 [.int .i64 I, .slice pa P.length pc] rfl (src_two hb3.out rfl rfl) (by unfold maxLen; omega) (by omega) (by have h1 := Hkept.out.size; have h2 := k3.size; omega) ?_; intro v5 w5 ho5 hf5 _; obtain ⟨⟨a5, n5, c5, rfl⟩, o5, q5, k5⟩ := rleft_end (Hkept.out.trans k3 (by simp)) (Hwq2.out.frame (Fr.ofKept k3 B []) (Nat.le_refl _) (by simp)) hB ((E3.out).frame (Fr.ofKept (Hkept.out.trans k3 (by simp)) B []) (Nat.le_refl _) (by simp)) ho5 hf5; have O5 := Lib.hid o5; have Q5 := Lib.hid q5; have K5 := Lib.hid k5; clear ho5 hf5 o5 q5 k5))
              go_roundw
              case rel => exact ⟨i + 1, _, a5, n5, c5, by go_num, by omega, rfl, fun h => absurd h hnl, by rw [Hst.out]; exact O5.out, by rw [Hst.out]; exact Q5.out, K5.out⟩
              case measure => simp [intOf]; omega
          · rw [if_neg hlast] at Hst
            have hbl : ((i : Int) == (ws.length : Int) - 1) = false := by simp; omega
            clear hlast
            go_wp2_with (first
              | (refine wpList_store_new wr rfl 108 (.tmp 8) (.tmp 24) rfl _ 108 [.int .i64 I, .slice pa P.length pc] rfl rfl Try.size67 rfl (two_one _ _ _ _) ?_; intro w2 hbox hk2 hz2; have c2 := hk2.out.cell (p := ⟨q, 1, none⟩) (by simp) c1; have b0 := two_cell0 hbox.out; have b1 := two_cell1 hbox.out; have bf := two_frozen hbox.out)
              | (refine wpList_buildSlice_one _ rfl 50 (.tmp 58) rfl 108 i0 _ 2 Try.underlying50 hi0 hz0 hz1 (by decide) (by decide) [.int .i64 I, .slice pa P.length pc] rfl rfl ?_; intro w3 hb3 hk3 hz3; have k3 : Kept wr w3 [] := (hk2.out).trans hk3 (by simp))
              | (refine wpList_append_fr w3 rfl (.tmp 57) (.tmp 59) 50 50 rfl w.heap.size 108 i0 _ 2 32 Try.underlying50 hi0 hz0 hz1 hzb rfl (.slice a6 n6 c6) (left lost torn ws.length 0 (ws.take i)).length (qcells xs') rfl (ownsRow_kept Hown.out k3 (fun _ _ => by simp)) _ 1 [.int .i64 I, .slice pa P.length pc] rfl (src_two hb3.out rfl rfl) (by unfold maxLen; omega) (by omega) (by have h1 := Hkept.out.size; have h2 := k3.size; omega) ?_; intro v5 w5 ho5 hf5 _; obtain ⟨⟨a5, n5, c5, rfl⟩, o5, q5, k5⟩ := rleft_end (Hkept.out.trans k3 (by simp)) (Hwq2.out.frame (Fr.ofKept k3 B []) (Nat.le_refl _) (by simp)) hB ((E3.out).frame (Fr.ofKept (Hkept.out.trans k3 (by simp)) B []) (Nat.le_refl _) (by simp)) ho5 hf5; have O5 := Lib.hid o5; have Q5 := Lib.hid q5; have K5 := Lib.hid k5; clear ho5 hf5 o5 q5 k5))
            go_roundw
            case rel => exact ⟨i + 1, _, a5, n5, c5, by go_num, by omega, rfl, fun _ => rfl, by rw [Hst.out]; exact O5.out, by rw [Hst.out]; exact Q5.out, K5.out⟩
            case measure => simp [intOf]; omega
    · have hie : i = ws.length := by omega
      have hge : ¬ (i : Int) < (ws.length : Int) := by omega
      have e1 : ws.take i = ws := List.take_of_length_le (by omega)
      rw [e1] at Hown Hwq2
      have f1 := HR.out.frame (Fr.ofKept Hkept.out B []) (Nat.le_refl _) (by simp) (by simp) (by simp) |>.frozen 1
      have hq6 := Hkept.out.heap (by simp) HR.out.hq
      have k6 : Kept wr (wr.setCell ⟨q, 1, none⟩ (.slice a6 n6 c6)) [q] := (Kept.refl wr [q]).setCell (p := ⟨q, 1, none⟩) (.inl (by simp)) _
      have F6 : Fr B rts wr (wr.setCell ⟨q, 1, none⟩ (.slice a6 n6 c6)) := (Fr.refl B rts wr).setCell hq6 (.inr ⟨HR.out.bq, by decide⟩) 1 _
      have F0 : Fr B rts w (wr.setCell ⟨q, 1, none⟩ (.slice a6 n6 c6)) := (Fr.ofKept Hkept.out B rts).trans F6
      have R6 : Rf (wr.setCell ⟨q, 1, none⟩ (.slice a6 n6 c6)) B q vs (.slice a6 n6 c6) n safe (left lost torn ws.length 0 ws) :=
        { hq := by simpa using heap_setCell_at hq6 1 (.slice a6 n6 c6), hs := HR.out.hs.frame F0 (by decide)
          hw := ⟨xs', ownsRow_mono (ownsRow_kept Hown.out k6 (fun g hg => by simpa using own_ne Hown.out hq6 (by decide) g hg)) hB, Hwq2.out.frame F6 (Nat.le_refl _) (by decide)⟩
          bq := HR.out.bq, n12 := HR.out.n12, ls := HR.out.ls, ok := left_ok n _ _ _ _ _ HR.out.ok }
      have hl6 : (left lost torn ws.length 0 ws).length ≤ 1000000 := by
        have := left_le lost torn ws.length ws 0
        omega
      have R6 := Lib.hid R6; have F0 := Lib.hid F0
      have hz6 : B ≤ (wr.setCell ⟨q, 1, none⟩ (.slice a6 n6 c6)).heap.size := by have := F0.out.size; omega
      clear k6 F6 hq6 hie e1 ht2
      go_wp2_with fail
      refine (rsync_any R6.out hl6 hz6).mono ?_
      rintro e w7 ⟨rfl, vs7, r7, f7⟩
      have R7 := Lib.hid r7; have F7 := Lib.hid (F0.out.trans f7)
      clear r7 f7
      go_wp2
      go_end0
      exact ⟨rfl, _, R7.out, F7.out⟩

end Go.Proofs.Ytfhdblbiamdplaa
