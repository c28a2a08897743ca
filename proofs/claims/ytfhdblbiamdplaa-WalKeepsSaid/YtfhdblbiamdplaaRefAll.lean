/-
  The contracts of the document's own answers for layer 3, third part: All.
-/
import Derived.Test.YtfhdblbiamdplaaRefPut
import Derived.Test.YtfhdblbiamdplaaLKit
import Derived.Test.YtfhdblbiamdplaaBMath2
namespace Go.Proofs.Ytfhdblbiamdplaa
open Go.RowKit

/-- Element i of the writes, in memory. -/
theorem wq_at {w : World} {B m cw : Nat} {aw : Option Addr} {xs : List (Nat × Value)} {ws : List (Nat × List UInt8)} (h : w.ownsRow B 108 2 (.slice aw m cw) ws.length (qcells xs)) (hq : Wq w B xs ws) (i : Nat) (hi : i < ws.length) :
    ∃ g pv, aw = some ⟨g, 0, none⟩ ∧ w.cell? ⟨g, i * 2, none⟩ = some (.int .i64 ws[i].1) ∧ w.cell? ⟨g, i * 2 + 1, none⟩ = some pv ∧ Rb w B 5 pv ws[i].2 := by
  have hxi : i < xs.length := by rw [hq.1]; exact hi
  obtain ⟨e1, e2⟩ := hq.2 i hxi hi
  obtain ⟨c1, c2⟩ := qcells_at xs i hxi
  rcases h.2 with ⟨_, h1⟩ | ⟨g, cap, cur, hv, _⟩
  · omega
  · simp only [Value.slice.injEq] at hv
    obtain ⟨rfl, rfl, rfl⟩ := hv
    have d1 := World.ownsRow.cells h (g := g) rfl _ _ c1
    have d2 := World.ownsRow.cells h (g := g) rfl _ _ c2
    rw [Addr.add_lit, Nat.zero_add] at d1 d2
    refine ⟨g, xs[i].2, rfl, ?_, ?_, e2⟩
    · rw [Nat.mul_comm, ← e1]; exact d1
    · rw [Nat.mul_comm]; exact d2

set_option maxHeartbeats 2000000 in
set_option maxRecDepth 100000 in
theorem rall_any {w : World} {B q n : Nat} {vs vw : Value} {safe : List UInt8} {ws : List (Nat × List UInt8)} (R : Rf w B q vs vw n safe ws) (hws : ws.length ≤ 1000000) :
    Calls Try.prog 28 #[.pointer (some ⟨q, 0, none⟩)] w fun e w' => ∃ v', e = .returned v' ∧ Own w' w.heap.size 5 v' (laid safe ws) ∧ Kept w w' [] := by
  obtain ⟨xs, hx, hwq⟩ := R.hw
  obtain ⟨aw, cw, hvw⟩ := ownsRow_shape hx
  subst hvw
  have c0 := R.cell0
  have Hx := Lib.hid hx; have Hwq := Lib.hid hwq; have HR := Lib.hid R
  obtain ⟨as0, cs0, hvs⟩ := R.hs.shape
  subst hvs
  clear hx hwq R
  have hn12 := HR.out.n12
  go_enter Try.func28, Try.ntmps28
  go_wp2_with fail
  refine (join_any _ (.slice none 0 0) safe [] w HR.out.hs.rd (Rd.nil _) (by rw [HR.out.ls]; omega) (by decide)).mono ?_
  rintro e w1 ⟨vp, rfl, ho, hk⟩
  rw [List.append_nil] at ho
  obtain ⟨ap, cp, hvp⟩ := ho.shape
  rw [HR.out.ls] at hvp
  subst hvp
  have O1 := Lib.hid ho; have K1 := Lib.hid hk
  clear ho hk c0
  go_wp2
  go_loopw [4] (fun t wr => ∃ i : Nat, t = .int .i64 i ∧ i ≤ ws.length ∧ Own wr w.heap.size 5 (.slice ap (32 * n) cp) (laid safe (ws.take i)) ∧ Kept w wr []) (fun t _ => ws.length - (intOf t).toNat)
  case atStart => exact ⟨0, rfl, Nat.zero_le _, O1.out, K1.out⟩
  case round =>
    obtain ⟨i, rfl, hi, hown, hkept⟩ := hrel
    have Hown := Lib.hid hown; have Hkept := Lib.hid hkept
    clear hown hkept
    have RR := HR.out.frame (Fr.ofKept Hkept.out B []) (Nat.le_refl _) (by simp) (by simp) (by simp)
    have c1 := RR.cell1
    by_cases hlt : i < ws.length
    · obtain ⟨gw, pv, hav, e1, e2, e3⟩ := wq_at Hx.out Hwq.out i hlt
      subst hav
      obtain ⟨I, hI⟩ : ∃ I, I = ws[i].1 := ⟨_, rfl⟩
      obtain ⟨P, hP⟩ : ∃ P, P = ws[i].2 := ⟨_, rfl⟩
      have hIP := HR.out.ok _ (List.getElem_mem hlt)
      rw [← hI, ← hP] at hIP
      rw [← hI] at e1
      rw [← hP] at e3
      have hst := laid_take safe ws i hlt
      rw [← hI, ← hP] at hst
      have hlen := laid_take_length n safe ws i HR.out.ls HR.out.ok
      obtain ⟨hIn, hP32⟩ := hIP
      obtain ⟨pa, pc, rfl, hpc, _, hpb⟩ := e3
      have hwq1 := HR.out.cell1
      have Hst := Lib.hid hst; have Hlen := Lib.hid hlen
      have Hpb := Lib.hid hpb; have He1 := Lib.hid e1; have He2 := Lib.hid e2; have Hq1 := Lib.hid hwq1
      clear hst hlen hI hP hpb e1 e2 hwq1 RR
      go_wp2
      go_loopw [5] (fun t wr2 => ∃ k : Nat, t = .int .i64 k ∧ k ≤ P.length ∧ Own wr2 w.heap.size 5 (.slice ap (32 * n) cp) (splice (laid safe (ws.take i)) (32 * I) (P.take k)) ∧ Kept w wr2 []) (fun t _ => P.length - (intOf t).toNat)
      case atStart => exact ⟨0, rfl, Nat.zero_le _, by rw [List.take_zero, splice_nil]; exact Hown.out, Hkept.out⟩
      case round =>
        obtain ⟨k, rfl, hk, hown2, hkept2⟩ := hrel
        have Hown2 := Lib.hid hown2; have Hkept2 := Lib.hid hkept2
        clear hown2 hkept2 c1
        have c1 := Hkept2.out.cell (p := ⟨q, 1, none⟩) (by simp) Hq1.out
        have e2 := Hkept2.out.cell (p := ⟨gw, i * 2 + 1, none⟩) (by simp) He2.out
        by_cases hkl : k < P.length
        · obtain ⟨pb, po, rfl, _, hpcell⟩ := Hpb.out (by rintro rfl; simp at hkl)
          obtain ⟨d, hd⟩ : ∃ d, d = P.getD k 0 := ⟨_, rfl⟩
          have hb := hpcell k hkl
          rw [← hd] at hb
          have Hb := Lib.hid hb
          clear hpcell hb
          obtain ⟨gp, rfl⟩ := own_addr Hown2.out (by omega)
          have hl2 : (splice (laid safe (ws.take i)) (32 * I) (P.take k)).length = 32 * n := by rw [length_splice _ _ _ (by rw [Hlen.out, List.length_take]; omega), Hlen.out]
          obtain ⟨o0, o1⟩ := own_at Hown2.out (32 * I + k) (by rw [hl2]; omega)
          have O3 := Lib.hid (own_store Hown2.out (32 * I + k) (by rw [hl2]; omega) d)
          have hgp : w.heap.size ≤ gp := (Hown2.out.lt gp rfl).1
          have K3 : Kept w (wr.setCell ⟨gp, 32 * I + k, none⟩ (.int .u8 d.toNat)) [] := Hkept2.out.setCell (.inr hgp) _
          have hS : RowKit.Hid (∀ W', Kept w W' [] → W'.cell? ⟨q, 1, none⟩ = some (.slice (some ⟨gw, 0, none⟩) ws.length cw) ∧ W'.cell? ⟨gw, i * 2, none⟩ = some (.int .i64 I) ∧ W'.cell? ⟨gw, i * 2 + 1, none⟩ = some (.slice (some ⟨pb, po, none⟩) P.length pc) ∧ W'.cell? ⟨pb, po + k, none⟩ = some (.int .u8 d.toNat)) := Lib.hid (fun W' h =>
            ⟨h.cell (p := ⟨q, 1, none⟩) (by simp) Hq1.out, h.cell (p := ⟨gw, i * 2, none⟩) (by simp) He1.out, h.cell (p := ⟨gw, i * 2 + 1, none⟩) (by simp) He2.out, h.cell (p := ⟨pb, po + k, none⟩) (by simp) Hb.out⟩)
          have S1 := Lib.hid (hS.out wr Hkept2.out)
          have S2 := Lib.hid (hS.out _ K3)
          have K3 := Lib.hid K3
          have Hd := Lib.hid hd
          clear hl2 hd
          go_wp2
          have w1 : IntKind.i64.wrap (32 * (I : Int)) = 32 * (I : Int) := IntWalk.i64_in _ (by omega)
          have w2 : IntKind.i64.wrap (32 * (I : Int) + (k : Int)) = 32 * (I : Int) + (k : Int) := IntWalk.i64_in _ (by omega)
          have w3 : (0 : Int) ≤ 32 * (I : Int) + (k : Int) := by omega
          have w4 : (32 * (I : Int) + (k : Int)).toNat = 32 * I + k := by omega
          have w5 : 32 * (I : Int) + (k : Int) < 32 * (n : Int) := by omega
          go_region_held3 (fun W' => W'.cell? ⟨q, 1, none⟩ = some (.slice (some ⟨gw, 0, none⟩) ws.length cw) ∧ W'.cell? ⟨gw, i * 2, none⟩ = some (.int .i64 I) ∧ W'.cell? ⟨gw, i * 2 + 1, none⟩ = some (.slice (some ⟨pb, po, none⟩) P.length pc) ∧ W'.cell? ⟨pb, po + k, none⟩ = some (.int .u8 d.toNat))
            (first | exact S1.out | exact S2.out)
            (fail)
          clear w1 w2 w3 w4 w5
          go_wp2
          go_roundw
          case rel => exact ⟨k + 1, by go_num, by omega, by rw [splice_step _ _ _ _ hkl (by rw [Hlen.out]; omega), ← Hd.out]; exact O3.out, K3.out.drew⟩
          case measure => simp [intOf]; omega
        · have hke : k = P.length := by omega
          have hge : ¬ (k : Int) < (P.length : Int) := by omega
          have e8 : P.take k = P := List.take_of_length_le (by omega)
          have e9 : splice (laid safe (ws.take i)) (32 * I) (P.take k) = laid safe (ws.take (i + 1)) := by rw [Hst.out, lay, e8]
          have E9 := Lib.hid e9
          clear e9 e8 hke hkl
          go_wp2
          go_roundw
          case rel => exact ⟨i + 1, by go_num, by omega, by rw [← E9.out]; exact Hown2.out, Hkept2.out⟩
          case measure => simp [intOf]; omega
    · have hie : i = ws.length := by omega
      have e1 : laid safe (ws.take i) = laid safe ws := by rw [List.take_of_length_le (by omega)]
      have E1 := Lib.hid e1
      clear e1 hie
      go_wp2
      go_ret
      exact ⟨_, rfl, by rw [← E1.out]; exact Hown.out, Hkept.out⟩

end Go.Proofs.Ytfhdblbiamdplaa
