/-
  Rows of bytes that came in; carrierlaw04's few and laid.
-/
import Derived.Test.YtfhdblbiamdplaaWu
namespace Go.Proofs.Ytfhdblbiamdplaa
open Go.ChangeShapes Go.WideShapes Go.ChangeAt Go.RowKit

/-- Rows of bytes that came in. -/
def RbR (w : World) (B : Nat) (v : Value) (L : List (List UInt8)) : Prop :=
  ∃ a c, v = .slice a L.length c ∧ L.length ≤ maxLen ∧ (0 < L.length → ∃ b o, a = some ⟨b, o, none⟩ ∧ ∀ i, (h : i < L.length) → ∃ u, w.cell? ⟨b, o + i, none⟩ = some u ∧ Rb w B 5 u L[i])

theorem RbR.keep {w w' : World} {B : Nat} {v : Value} {L : List (List UInt8)} (h : RbR w B v L) (hk : Kept w w' []) : RbR w' B v L := by
  obtain ⟨a, c, hv, hm, hl⟩ := h
  refine ⟨a, c, hv, hm, fun h0 => ?_⟩
  obtain ⟨b, o, e, hx⟩ := hl h0
  refine ⟨b, o, e, fun i hi => ?_⟩
  obtain ⟨u, h1, h2⟩ := hx i hi
  exact ⟨u, hk.cell (p := ⟨b, o + i, none⟩) (by simp) h1, h2.frame (Fr.ofKept hk B []) (Nat.le_refl _) (by simp)⟩

theorem rows_open {H : Type} {enc : TypeId × Value → H} {w : World} {base : Nat} {held : Bool} {fuel : Nat} {v : Value} {x : DataW H × List MemPlace}
    (h : DataW.trod enc Try.prog w base (fun _ => true) held fuel 29 [v] = some x) : ∃ L : List (List UInt8), RbR w w.heap.size v L := by
  have hC : Try.prog.cellsOf 36 = 1 := by kernel_rfl
  rcases Go.Deep.open_slice Try.underlying29 h with ⟨hcs, _⟩ | ⟨b, l, c, m, n, D, Pl, hcs, _, hl, hm, hmm, _, hel⟩
  · simp at hcs
    subst hcs
    exact ⟨[], none, 0, rfl, Nat.zero_le _, fun h => absurd h (Nat.lt_irrefl _)⟩
  · simp at hcs
    subst hcs
    have hex : ∀ i, i < l → ∃ (y : List UInt8) (u : Value), w.cell? (b.add i) = some u ∧ Rb w w.heap.size 5 u y := by
      intro i hi
      obtain ⟨cs, hc, ht⟩ := hel i (by rw [hmm]; simp; omega)
      rw [hC, Nat.mul_one] at hc
      obtain ⟨_, hcl, hat⟩ := World.cells?_some hc
      match cs, hcl with
      | [x0], _ =>
        obtain ⟨P, hP⟩ := bytes_open ht
        have h0 := hat 0 (by decide)
        simp only [List.getElem?_cons_zero] at h0
        refine ⟨P, x0, ?_, hP⟩
        have e : (b.add i).add 0 = b.add i := by cases b; simp [Addr.add]
        rw [e] at h0
        exact h0
    refine ⟨List.ofFn (n := l) fun i => Classical.choose (hex i.1 i.2), some b, c, by simp, by simp; omega, fun h0 => ?_⟩
    simp at h0
    obtain ⟨bb, oo, spot⟩ := b
    have hspot : spot = none := by
      obtain ⟨_, u, hu, _⟩ := hex 0 h0
      simpa [Addr.add] using World.cell?_spot hu
    subst hspot
    refine ⟨bb, oo, rfl, fun i hi => ?_⟩
    simp at hi
    obtain ⟨u, h1, h2⟩ := Classical.choose_spec (hex i hi)
    rw [Addr.add_lit] at h1
    refine ⟨u, h1, ?_⟩
    rw [List.getElem_ofFn]
    exact h2

/-- What few tells: a bool; if it is true there are at most 12 rows, each of at most 100 bytes. -/
def FewPost (L : List (List UInt8)) (w : World) (e : Ending) (w' : World) : Prop := ∃ r : Bool, e = .returned (.bool r) ∧ (r = true → L.length ≤ 12 ∧ ∀ x ∈ L, x.length ≤ 100) ∧ w = w'
theorem FewPost.no (L : List (List UInt8)) (w : World) : FewPost L w (.returned (.bool false)) w := ⟨false, rfl, by simp, rfl⟩

set_option maxHeartbeats 1000000 in
set_option maxRecDepth 100000 in
theorem few_any (v : Value) (L : List (List UInt8)) (w : World) (B : Nat) (h : RbR w B v L) :
    Calls Try.prog 33 #[v] w (FewPost L w) := by
  obtain ⟨a, c, rfl, hm, hl⟩ := h
  have HL := Lib.hid hl
  unfold maxLen at hm
  clear hl
  go_enter Try.func33, Try.ntmps33
  go_wp2
  go_loop [3] (fun t => ∃ i : Nat, t = .int .i64 i ∧ i ≤ L.length ∧ ∀ x ∈ L.take i, x.length ≤ 100) (fun t => L.length - (intOf t).toNat)
  case atStart => exact ⟨0, rfl, Nat.zero_le _, by simp⟩
  case round =>
    obtain ⟨i, rfl, hi, hall⟩ := hrel
    have A := Lib.hid hall
    clear hall
    by_cases hlt : i < L.length
    · obtain ⟨b, o, rfl, hx⟩ := HL.out (by omega)
      obtain ⟨u, hu, hb⟩ := hx i hlt
      obtain ⟨ua, uc, rfl, _⟩ := hb
      obtain ⟨z, hz⟩ : ∃ z, z = L[i].length := ⟨_, rfl⟩
      rw [← hz] at hu
      have Z := Lib.hid hz
      have x1 : (i : Int) < (L.length : Int) := by omega
      clear hx hz
      by_cases h100 : (100 : Int) < (z : Int)
      · go_wp2
        go_ret
        exact FewPost.no _ _
      · go_wp2
        go_round
        case rel =>
          refine ⟨i + 1, by go_num, by omega, fun x hx => ?_⟩
          rw [List.take_succ_eq_append_getElem hlt] at hx
          rcases List.mem_append.1 hx with hx | hx
          · exact A.out x hx
          · rw [List.mem_singleton] at hx
            have := Z.out
            subst hx
            omega
        case measure => simp [intOf]; omega
    · obtain rfl : i = L.length := by omega
      have x1 : ¬ (L.length : Int) < (L.length : Int) := by omega
      have A' := A.out
      rw [List.take_length] at A'
      have HA := Lib.hid A'
      clear A A'
      go_wp2
      go_ret
      refine ⟨_, rfl, fun h => ⟨?_, HA.out⟩, rfl⟩
      have : (L.length : Int) ≤ 12 := by simpa using h
      omega

/-- Two devices of the same content, on which nothing waits. -/
def Made (w : World) (n : Nat) (e : Ending) (w' : World) : Prop :=
  ∃ p gn gs q vs X, e = .returned (.tuple #[.pointer (some ⟨p, 0, none⟩), .pointer (some ⟨q, 0, none⟩)]) ∧ Dv w' w.heap.size p gn gs (.slice none 0 0) n X X [] ∧ Rf w' w.heap.size q vs (.slice none 0 0) n X [] ∧ Kept w w' []

set_option maxHeartbeats 4000000 in
set_option maxRecDepth 100000 in
theorem lawlaid_any (w : World) (n : Nat) (v : Value) (Q : List UInt8) (hr : Rd w v Q) (hn : n ≤ 4000) (hQ : Q.length ≤ 32 * n) :
    Calls Try.prog 36 #[.int .i64 n, v] w (Made w n) := by
  have HR := Lib.hid hr
  obtain ⟨a, c, rfl, hc, ha, hcell⟩ := hr
  have HC := Lib.hid hcell
  clear hcell ha
  go_enter Try.func36, Try.ntmps36
  go_wp2_with fail
  refine (new_any (n : Int) w).mono ?_
  rintro e w2 ⟨p, gn, gs, rfl, hd, hk⟩
  have ecl : clampN (n : Int) = n := by unfold clampN; omega
  rw [ecl] at hd
  have D2 := Lib.hid hd; have K2 := Lib.hid hk
  have hz2 := hk.size
  clear hd hk
  go_wp2_with fail
  refine (rnew_any (n : Int) w2).mono ?_
  rintro e w3 ⟨q, vs3, rfl, hr, hk⟩
  rw [ecl] at hr
  have R3 := Lib.hid (rf_lower hr hz2); have K3 := Lib.hid (K2.out.trans hk (by simp))
  have D3 := Lib.hid (D2.out.frame (Fr.ofKept hk 0 []) (by simp) (by simp) (by simp))
  clear hr hk D2 K2 ecl
  go_wp2
  go_loopw [8] (fun t wr => ∃ (k : Nat) (v vw : Value) (now : List UInt8) (ws : List Wt), t = .int .i64 k ∧ k ≤ n ∧ ws.length = k ∧ Dv wr w.heap.size p gn gs v n now (noughts n) ws ∧ Rf wr w.heap.size q vs3 vw n (noughts n) (pairs ws) ∧ now = laid (noughts n) (pairs ws) ∧ Kept w wr []) (fun t _ => n - (intOf t).toNat)
  case atStart => exact ⟨0, _, _, noughts n, [], rfl, Nat.zero_le _, rfl, D3.out, R3.out, rfl, K3.out⟩
  case round =>
    obtain ⟨k, v, vw, now, ws, rfl, hk, hwk, hd, hr, hnow, hkp⟩ := hrel
    have D := Lib.hid hd; have R := Lib.hid hr; have NN := Lib.hid hnow; have K := Lib.hid hkp; have HW := Lib.hid hwk
    have hz := hkp.size
    clear hd hr hnow hkp hwk D3 R3 K3
    by_cases hlt : 32 * k < Q.length
    · have hkn : k < n := by omega
      obtain ⟨b, o, rfl, hcl⟩ := HC.out (by rintro rfl; simp at hlt)
      have x1 : 32 * (k : Int) < (Q.length : Int) := by omega
      by_cases hto : 32 * k + 32 ≤ Q.length
      · have x2 : ¬ (Q.length : Int) < 32 * (k : Int) + 32 := by omega
        have x3 : 32 * (k : Int) + 32 ≤ (c : Int) := by omega
        have x4 : ¬ c = 32 * k := by omega
        have hsub : ∀ V, Kept w V [] → Rb V w.heap.size 5 (.slice (some ⟨b, o + 32 * k, none⟩) (32) (c - 32 * k)) ((Q.drop (32 * k)).take (32)) := fun V hV =>
          ((HR.out.rb 5).sub (32 * k) (32) (c - 32 * k) (by omega) (by omega) (by omega)).frame (Fr.ofKept hV w.heap.size []) (Nat.le_refl _) (by simp)
        have hPl : ((Q.drop (32 * k)).take (32)).length ≤ 32 := by simp; omega
        obtain ⟨P, hP⟩ : ∃ P, P = (Q.drop (32 * k)).take (32) := ⟨_, rfl⟩
        rw [← hP] at hsub hPl
        have S := Lib.hid hsub
        have c1 := Lib.hid (write_ok D.out k hkn _ P hPl (S.out wr K.out) (by have := HW.out; omega) hz)
        clear hsub hP
        go_wp2_with fail
        refine c1.out.mono ?_
        rintro e w6 ⟨rfl, v6, hd, hf⟩
        have D6 := Lib.hid hd; have R6 := Lib.hid (R.out.frame hf (Nat.le_refl _) (by decide) (by decide) (by decide)); have K6 := Lib.hid (kept_fr K.out hf)
        have c2 := Lib.hid (rput_ok R6.out k hkn _ P hPl (S.out w6 K6.out).rd (by have := HW.out; simp only [pairs, List.length_map]; omega) K6.out.size)
        clear hd hf c1
        go_wp2_with fail
        refine c2.out.mono ?_
        rintro e w7 ⟨rfl, v7, hr, hf⟩
        rw [← pairs_snoc ws k P (noughts 1)] at hr
        have R7 := Lib.hid hr; have D7 := Lib.hid (D6.out.frame hf (by decide) (by decide) (by decide)); have K7 := Lib.hid (kept_fr K6.out hf)
        have N7 := Lib.hid (show lay now k P = laid (noughts n) (pairs (ws ++ [⟨k, P.length, splice (noughts 1) 0 P⟩])) by rw [pairs_snoc, laid_snoc, ← NN.out])
        clear hr hf c2
        go_wp2
        go_roundw
        case rel => exact ⟨k + 1, v6, v7, _, _, by go_num, by omega, by have := HW.out; simp; omega, D7.out, R7.out, N7.out, K7.out⟩
        case measure => simp [intOf]; omega
      · have x2 : (Q.length : Int) < 32 * (k : Int) + 32 := by omega
        have x3 : (Q.length : Int) ≤ (c : Int) := by omega
        have x4 : ¬ c = 32 * k := by omega
        have hsub : ∀ V, Kept w V [] → Rb V w.heap.size 5 (.slice (some ⟨b, o + 32 * k, none⟩) (Q.length - 32 * k) (c - 32 * k)) ((Q.drop (32 * k)).take (Q.length - 32 * k)) := fun V hV =>
          ((HR.out.rb 5).sub (32 * k) (Q.length - 32 * k) (c - 32 * k) (by omega) (by omega) (by omega)).frame (Fr.ofKept hV w.heap.size []) (Nat.le_refl _) (by simp)
        have hPl : ((Q.drop (32 * k)).take (Q.length - 32 * k)).length ≤ 32 := by simp; omega
        obtain ⟨P, hP⟩ : ∃ P, P = (Q.drop (32 * k)).take (Q.length - 32 * k) := ⟨_, rfl⟩
        rw [← hP] at hsub hPl
        have S := Lib.hid hsub
        have c1 := Lib.hid (write_ok D.out k hkn _ P hPl (S.out wr K.out) (by have := HW.out; omega) hz)
        clear hsub hP
        go_wp2_with fail
        refine c1.out.mono ?_
        rintro e w6 ⟨rfl, v6, hd, hf⟩
        have D6 := Lib.hid hd; have R6 := Lib.hid (R.out.frame hf (Nat.le_refl _) (by decide) (by decide) (by decide)); have K6 := Lib.hid (kept_fr K.out hf)
        have c2 := Lib.hid (rput_ok R6.out k hkn _ P hPl (S.out w6 K6.out).rd (by have := HW.out; simp only [pairs, List.length_map]; omega) K6.out.size)
        clear hd hf c1
        go_wp2_with fail
        refine c2.out.mono ?_
        rintro e w7 ⟨rfl, v7, hr, hf⟩
        rw [← pairs_snoc ws k P (noughts 1)] at hr
        have R7 := Lib.hid hr; have D7 := Lib.hid (D6.out.frame hf (by decide) (by decide) (by decide)); have K7 := Lib.hid (kept_fr K6.out hf)
        have N7 := Lib.hid (show lay now k P = laid (noughts n) (pairs (ws ++ [⟨k, P.length, splice (noughts 1) 0 P⟩])) by rw [pairs_snoc, laid_snoc, ← NN.out])
        clear hr hf c2
        go_wp2
        go_roundw
        case rel => exact ⟨k + 1, v6, v7, _, _, by go_num, by omega, by have := HW.out; simp; omega, D7.out, R7.out, N7.out, K7.out⟩
        case measure => simp [intOf]; omega
    · have x1 : ¬ 32 * (k : Int) < (Q.length : Int) := by omega
      go_wp2_with fail
      refine (sync_any D.out (by have := HW.out; omega)).mono ?_
      rintro e w6 ⟨rfl, hd, hf⟩
      have R6 := Lib.hid (R.out.frame hf (Nat.le_refl _) (by decide) (by decide) (by decide)); have K6 := Lib.hid (kept_fr K.out hf)
      rw [sync_safe n _ now ws D.out.ls D.out.hw NN.out] at hd
      have D6 := Lib.hid hd
      clear hd hf
      go_wp2_with fail
      refine (rsync_any R6.out (by have := HW.out; simp only [pairs, List.length_map]; omega) K6.out.size).mono ?_
      rintro e w7 ⟨rfl, vs7, hr, hf⟩
      rw [← NN.out] at hr
      have R7 := Lib.hid hr; have D7 := Lib.hid (D6.out.frame hf (by decide) (by decide) (by decide)); have K7 := Lib.hid (kept_fr K6.out hf)
      clear hr hf
      go_wp2
      go_ret2
      exact ⟨p, gn, gs, q, vs7, now, rfl, D7.out, R7.out, K7.out⟩

end Go.Proofs.Ytfhdblbiamdplaa
