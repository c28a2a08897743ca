/-
  Both consumers' answers held against each other: like; the names that the law makes.
-/
import Derived.Test.YtnoiomaoignndaaCur
import Derived.Test.YtnoiomaoignndaaCun
import Derived.Laws.StructEq
namespace Go.Proofs.Ytnoiomaoignndaa
set_option linter.unusedVariables false
open Go.RowKit

set_option maxRecDepth 100000 in
theorem cu_ne (a : ByteArray) (b c : Int) (w : World) : (binOp .neq 39 (.agg #[.string a, .int .i64 b, .int .i64 c]) (.agg #[.string a, .int .i64 b, .int .i64 c])).run Try.prog w = .ok (.bool false) w := by
  rw [run_neq_struct]
  go_simp

variable {w w' : World} {l : List Cu} {w0 : World} {p q : Nat}

theorem plc_here {i : Nat} {x : Cu} (h : Nms l) (hx : l[i]? = some x) : plc l x.nm = some i := by
  refine plc_hit hx (isN_iff.2 rfl) (fun j y hj hy => ?_)
  cases hc : isN x.nm y with
  | false => rfl
  | true => have := nms_one h hy hx (isN_iff.1 hc); omega

set_option maxHeartbeats 4000000 in
set_option maxRecDepth 100000 in
theorem like_any (b : Bo w0 w p q l) : Calls Try.prog 22 #[.pointer (some ⟨p, 0, none⟩), .pointer (some ⟨q, 0, none⟩)] w fun e w' => e = .returned (.bool true) ∧ Kept w w' [] := by
  obtain ⟨ok, V, U, a, d, k0⟩ := b
  have few := ok.few
  have CL := Lib.hid (call_any a (by omega))
  have A := Lib.hid a; have D := Lib.hid d; have OK := Lib.hid ok
  obtain ⟨N, hN⟩ : ∃ N, N = leaN l := ⟨_, rfl⟩
  obtain ⟨bz, hbz⟩ : ∃ bz : Bool, bz = decide (0 < l.length) := ⟨_, rfl⟩
  have LC : Hid (∀ W, Kept w W [] → Calls Try.prog 24 #[.pointer (some ⟨p, 0, none⟩)] W fun e w' => e = .returned (.tuple #[.int .i64 N, .bool bz]) ∧ Kept W w' []) := Lib.hid (fun W k => by rw [hN, hbz]; exact clea_any (a.keep k) (by omega))
  have LR : Hid (∀ W, Kept w W [] → Calls Try.prog 29 #[.pointer (some ⟨q, 0, none⟩)] W fun e w' => e = .returned (.tuple #[.int .i64 N, .bool bz]) ∧ Kept W w' []) := Lib.hid (fun W k => by rw [hN, hbz]; exact rlea_any (d.keep k) (by omega))
  obtain ⟨uq, cq, eq⟩ := d.shape
  have dc := d.cell.1
  rw [eq] at dc
  have DC := Lib.hid dc; have EQ := Lib.hid eq
  have NE := cu_ne
  clear a d ok k0 hN hbz eq dc
  go_enter Try.func22, Try.ntmps22
  go_wp2_with fail
  refine CL.out.mono ?_
  rintro e w1 ⟨v1, rfl, o1, k1⟩
  obtain ⟨u1, c1, e1⟩ := o1.shape
  subst e1
  have O1 := Lib.hid o1; have K1 := Lib.hid k1
  clear o1 k1
  go_wp2_with fail
  refine (LC.out w1 K1.out).mono ?_
  rintro e w2 ⟨rfl, k2⟩
  have K2 := Lib.hid (K1.out.trans k2 (by simp)); have O2 := Lib.hid (O1.out.keep k2)
  clear k2
  go_wp2_with fail
  refine (LR.out w2 K2.out).mono ?_
  rintro e w3 ⟨rfl, k3⟩
  have K3 := Lib.hid (K2.out.trans k3 (by simp)); have O3 := Lib.hid (O2.out.keep k3)
  have dc := K3.out.cell (by simp) DC.out
  clear k3
  go_wp2
  clear dc
  go_loopw [10] (fun s10 wr => ∃ i : Nat, s10 = .int .i64 i ∧ i ≤ l.length ∧ Hid (Kept w3 wr [])) (fun s10 _ => l.length - (intOf s10).toNat)
  case atStart => exact ⟨0, rfl, Nat.zero_le _, Lib.hid (Kept.refl _ _)⟩
  case round =>
    obtain ⟨i, rfl, hi, KR⟩ := hrel
    by_cases hlt : i < l.length
    · have x1 : (i : Int) < (l.length : Int) := by omega
      obtain ⟨x, hx⟩ : ∃ x, l[i]? = some x := ⟨_, List.getElem?_eq_getElem hlt⟩
      have o4 := O3.out.keep KR.out
      obtain ⟨g, eg, -⟩ := o4.at hx
      subst eg
      obtain ⟨p0, p1, p2⟩ := o4.three hx
      have kw := K3.out.trans KR.out (by simp)
      have GT := cget_any (A.out.keep kw) OK.out x.nm
      have hgv : getV l x.nm = .tuple #[.agg x.cs, .bool true] := by rw [getV, getC_plc (plc_here OK.out.nms hx) hx]; rfl
      rw [hgv] at GT
      have HG := Lib.hid GT
      have HX := Lib.hid hx; have KW := Lib.hid kw; have O4 := Lib.hid o4
      obtain ⟨b0, b1, b2⟩ := x
      simp only [Cu.cs] at *
      clear hgv GT o4 kw hx
      go_wp2_with fail
      refine HG.out.mono ?_
      rintro e w5 ⟨rfl, k5⟩
      obtain ⟨z, hz⟩ : ∃ z, z = w5.heap.size := ⟨_, rfl⟩
      obtain ⟨w6, hw6⟩ : ∃ w6, w6 = w5.alloc (.cells #[.string b0, .int .i64 b1, .int .i64 b2] cuE) := ⟨_, rfl⟩
      have k6 : Kept wr w6 [] := by rw [hw6]; exact k5.alloc _
      have g6 : w6.heap[z]? = some (.cells #[.string b0, .int .i64 b1, .int .i64 b2] cuE (0, 0)) := by rw [hw6, hz]; exact heap_alloc_new w5 _
      have HW6 := Lib.hid hw6; have HZ := Lib.hid hz
      have K6 := Lib.hid (KR.out.trans k6 (by simp))
      clear p0 p1 p2
      obtain ⟨p0, p1, p2⟩ := (O4.out.keep k6).three HX.out
      obtain ⟨f0, f1, f2⟩ : w6.cell? ⟨z, 0, none⟩ = some (.string b0) ∧ w6.cell? ⟨z, 1, none⟩ = some (.int .i64 b1) ∧ w6.cell? ⟨z, 2, none⟩ = some (.int .i64 b2) := ⟨by rw [cell_of_row _ _ _ _ _ _ g6]; rfl, by rw [cell_of_row _ _ _ _ _ _ g6]; rfl, by rw [cell_of_row _ _ _ _ _ _ g6]; rfl⟩
      obtain ⟨gq, cq', hv, dc, ⟨q0, q1, q2⟩, -⟩ := (D.out.keep (KW.out.trans k6 (by simp))).hit HX.out
      simp only at q0 q1 q2 p0 p1 p2
      clear k5 k6 g6 hz hv
      go_upto_region 10 with fail
      rw [← HW6.out, ← HZ.out]
      clear hw6
      go_region
      go_wp2
      have K7 := Lib.hid K6.out.drew
      go_roundw
      case rel => exact ⟨i + 1, by go_num, by omega, K7⟩
      case measure => simp [intOf]; omega
    · have x1 : ¬ (i : Int) < (l.length : Int) := by omega
      go_wp2
      go_ret
      exact ⟨rfl, K3.out.trans KR.out (by simp)⟩

/-- The name that an act names. -/
def nmA (x : ActD) : ByteArray := if 240 ≤ x.d then x.nm else bN (97 + ((x.d / 8 % 6 : Nat) : Int))

set_option maxHeartbeats 1000000 in
theorem name_any (x : ActD) (hx : x.d < 256) (w : World) : Calls Try.prog 11 #[.agg #[.int .u8 x.d, .string x.nm, .int .i64 x.n]] w fun e w' => e = .returned (.string (nmA x)) ∧ Kept w w' [] := by
  obtain ⟨d, nm, n⟩ := x
  simp only at hx ⊢
  by_cases h : 240 ≤ d
  · have x1 : (240 : Int) ≤ (d : Int) := by omega
    rw [nmA, if_pos h]
    go_enter Try.func11, Try.ntmps11
    go_wp2
    go_ret
    exact ⟨rfl, (Kept.refl w []).alloc _⟩
  · have x1 : ¬ (240 : Int) ≤ (d : Int) := by omega
    obtain ⟨k, hk⟩ : ∃ k : Nat, k = d / 8 := ⟨_, rfl⟩
    have xk : (d : Int) / 8 = (k : Int) := by omega
    have xkt : (d : Int).tdiv 8 = (k : Int) := by rw [Int.tdiv_eq_ediv_of_nonneg (by omega)]; exact xk
    obtain ⟨r, hr⟩ : ∃ r : Nat, r = k % 6 := ⟨_, rfl⟩
    have xr : (k : Int) % 6 = (r : Int) := by omega
    have xrt : (k : Int).tmod 6 = (r : Int) := by rw [Int.tmod_eq_emod_of_nonneg (by omega)]; exact xr
    have hr6 : r < 6 := by omega
    have hn : nmA ⟨d, nm, n⟩ = bN (97 + (r : Int)) := by rw [nmA, if_neg h, hr, hk]
    rw [hn]
    have sc := str1 (x := 97 + (r : Int)) (by omega) (by omega) (w.alloc (.cells #[.int .u8 d, .string nm, .int .i64 n] 31)) (w.heap.size + 1) (by simp)
    clear hn hk hr
    go_enter Try.func11, Try.ntmps11
    go_wp2
    go_ret
    exact ⟨rfl, ((Kept.refl w []).alloc _).alloc _⟩

end Go.Proofs.Ytnoiomaoignndaa
