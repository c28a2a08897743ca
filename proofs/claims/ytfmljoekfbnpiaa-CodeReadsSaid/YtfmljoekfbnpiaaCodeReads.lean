/-
  Proved: whatever the arguments are, carrierlaw02.CodeReads answers true and leaves its arguments as they were. No condition.
-/
import Derived.Test.YtfmljoekfbnpiaaLaws
import Derived.Test.YtfmljoekfbnpiaaRefText
namespace Go.Proofs.Ytfmljoekfbnpiaa.codeReads
open Go.ChangeShapes Go.WideShapes Go.ChangeAt Go.RowKit
open Go.ChangeMaps (open_string shut_string)
set_option linter.unusedVariables false

theorem own : ownKnob Try.prog.godebug = none := by kernel_rfl
theorem laidOut : laidOutB Try.prog = true := by kernel_rfl

theorem cell_set2 {w : World} {b mb : Nat} (h : b ≠ mb) (u v : Value) (j : Nat) : ((w.setCell ⟨mb, 0, none⟩ u).setCell ⟨mb, 1, none⟩ v).cell? ⟨b, j, none⟩ = w.cell? ⟨b, j, none⟩ := by
  have h1 : ∀ (W : World) (i : Nat) (x : Value), (W.setCell ⟨mb, i, none⟩ x).cell? ⟨b, j, none⟩ = W.cell? ⟨b, j, none⟩ := fun W i x => World.cell?_of_block (w := W) (Below.heap_setCell W ⟨mb, i, none⟩ x b h)
  rw [h1, h1]

theorem rText_len (most e : Int) (l : List UInt8) : (rText most e l).2.1.length ≤ l.length := by
  have h := rNum_len e l
  unfold rText rTextOf
  by_cases h1 : (rNum e l).2.2 = 0
  · rw [if_pos h1]
    by_cases h2 : max most 0 < ((rNum e l).1 : Int)
    · rw [if_pos h2]; simp
    · rw [if_neg h2]
      by_cases h3 : (rNum e l).2.1.length < (rNum e l).1
      · rw [if_pos h3]; simp
      · rw [if_neg h3]; simp; omega
  · rw [if_neg h1]; exact h

theorem isRow_cell {kd : IntKind} {w : World} {a : Option Addr} {len cap : Nat} {zs : List Int} (h : IsRow kd w a len cap zs) (i : Nat) (hi : i < len) :
    ∃ b o, a = some ⟨b, o, none⟩ ∧ w.cell? ⟨b, o + i, none⟩ = some (.int kd (zs.getD i 0)) ∧ (Lit.int kd (zs.getD i 0)).wf = true := by
  rcases h with ⟨rfl, rfl, _, _⟩ | ⟨x, rfl, hl, hm, hz, hcell, hwz⟩
  · omega
  · obtain ⟨b, off, spot⟩ := x
    have h0 := hcell i (by omega)
    have hspot : spot = none := by
      have := hcell 0 (by omega)
      simpa [Addr.add] using World.cell?_spot this
    subst hspot
    rw [Addr.add_lit] at h0
    exact ⟨b, off, rfl, h0, hwz (zs.getD i 0) (by simp [List.getD, show i < zs.length by omega])⟩

/-- What stands in a block of two fields. -/
def Two (w : World) (b : Nat) (u v : Value) : Prop :=
  w.cell? ⟨b, 0, none⟩ = some u ∧ w.cell? ⟨b, 1, none⟩ = some v ∧ w.frozen? ⟨b, 0, none⟩ = false ∧ w.frozen? ⟨b, 1, none⟩ = false

theorem two_of {w : World} {b : Nat} {u v : Value} {T : TypeId} (h : w.heap[b]? = some (.cells #[u, v] T (0, 0))) : Two w b u v :=
  ⟨by simpa using cell_of_row w b 0 #[u, v] _ _ h, by simpa using cell_of_row w b 1 #[u, v] _ _ h, frozen_of_row w b 0 _ _ h, frozen_of_row w b 1 _ _ h⟩

/-- What the loop knows at a round's head: the program's reader at block r, the document's at block mb: of both the same bytes are left, and the same error. 'v0', 'vp': where their bytes lay at first. -/
def Rel (w wr : World) (r mb : Nat) (v0 vp : Value) (p : List UInt8) (e : Int) (l : List UInt8) (vr vm : Value) : Prop :=
  Rr wr r vr e l ∧ wr.heap[mb]? = some (.cells #[vm, .int .i64 e] 42 (0, 0)) ∧ Rd wr vm l ∧ l.length ≤ p.length ∧
    (∀ x, vr.ownBlock = some x → v0.ownBlock = some x) ∧ (∀ x, vm.ownBlock = some x → vp.ownBlock = some x) ∧ Kept w wr []

theorem Rel.kept {w W W' : World} {r mb : Nat} {v0 vp vr vm : Value} {p l : List UInt8} {e : Int} (h : Rel w W r mb v0 vp p e l vr vm) (hk : Kept W W' []) : Rel w W' r mb v0 vp p e l vr vm :=
  ⟨h.1.kept hk (by simp) (by simp), hk.heap (by simp) h.2.1, h.2.2.1.kept hk (by simp), h.2.2.2.1, h.2.2.2.2.1, h.2.2.2.2.2.1, h.2.2.2.2.2.2.trans hk (by simp)⟩

theorem rd_len {w : World} {a : Option Addr} {n c : Nat} {l : List UInt8} (h : Rd w (.slice a n c) l) : n = l.length := by
  obtain ⟨a', c', he, _⟩ := h
  simp only [Value.slice.injEq] at he
  exact he.2.1

/-- A round's step: behind the two reads, and 'm = s'. -/
theorem Rel.step {w w4 w5 : World} {r mb : Nat} {v0 vp v5 u : Value} {p l4 : List UInt8} {a4 : Option Addr} {q4 c4 : Nat} {e e4 : Int} (hkw : Kept w w4 []) (hrmb : r < mb) (hmbw : w.heap.size ≤ mb) (hrw : w.heap.size ≤ r)
    (hv0 : p ≠ [] → ∀ x, v0.ownBlock = some x → x < mb) (hvp : p ≠ [] → ∀ x, vp.ownBlock = some x → x < w.heap.size)
    (hr4 : Rd w4 (.slice a4 q4 c4) l4) (hb4 : ∀ x, (Value.slice a4 q4 c4).ownBlock = some x → vp.ownBlock = some x) (hlen : l4.length ≤ p.length)
    (q1 : Rr w5 r v5 e4 l4) (q2 : Kept w4 w5 [r]) (q3 : ∀ x, v5.ownBlock = some x → v0.ownBlock = some x) (q4' : w5.heap[mb]? = some (.cells #[u, .int .i64 e] 42 (0, 0))) :
    Rel w ((w5.setCell ⟨mb, 0, none⟩ (.slice a4 q4 c4)).setCell ⟨mb, 1, none⟩ (.int .i64 e4)) r mb v0 vp p e4 l4 v5 (.slice a4 q4 c4) := by
  have hk : Kept w5 ((w5.setCell ⟨mb, 0, none⟩ (.slice a4 q4 c4)).setCell ⟨mb, 1, none⟩ (.int .i64 e4)) [mb] := ((Kept.refl w5 [mb]).setCell (.inl (by simp)) _).setCell (.inl (by simp)) _
  have hp : l4 ≠ [] → p ≠ [] := by rintro h rfl; exact h (List.eq_nil_of_length_eq_zero (by simpa using hlen))
  refine ⟨q1.kept2 hk (by simp; omega) (fun h x hx => by have := hv0 (hp h) x (q3 x hx); simp; omega), ?_, ?_, hlen, q3, hb4, (hkw.trans q2 (by intro x hx; simp at hx; exact .inr (by omega))).trans hk (by intro x hx; simp at hx; exact .inr (by omega))⟩
  · have h1 := heap_setCell_at q4' 0 (.slice a4 q4 c4)
    simpa using heap_setCell_at h1 1 (.int .i64 e4)
  · exact (hr4.kept2 q2 (fun h x hx => by have := hvp (hp h) x (hb4 x hx); simp; omega)).kept2 hk (fun h x hx => by have := hvp (hp h) x (hb4 x hx); simp; omega)

set_option maxHeartbeats 20000000 in
set_option maxRecDepth 100000 in
theorem walk (a0 : Option Addr) (len0 cap0 : Nat) (z0 : List Int) (a1 : Option Addr) (len1 cap1 : Nat) (z1 : List Int) (a2 : Option Addr) (len2 cap2 : Nat) (z2 : List Int) (w : World)
    (w0 : IsRow .u8 w a0 len0 cap0 z0) (w1 : IsRow .u8 w a1 len1 cap1 z1) (w2 : IsRow .i8 w a2 len2 cap2 z2) :
    Calls Try.prog 4 #[.slice a0 len0 cap0, .slice a1 len1 cap1, .slice a2 len2 cap2] w fun e w' => e = .returned (.bool true) ∧ Below w.heap.size w w' := by
  obtain ⟨p, hlen0, hp⟩ := isRow_rd w0
  have hcap0 : len0 ≤ 9223372036854775807 := by
    rcases w0 with ⟨_, h, _⟩ | ⟨_, _, h1, h2, _⟩
    · omega
    · unfold maxLen at h2; omega
  have hcap1 : len1 ≤ 9223372036854775807 := by
    rcases w1 with ⟨_, h, _⟩ | ⟨_, _, h1, h2, _⟩
    · omega
    · unfold maxLen at h2; omega
  have hcap2 : len2 ≤ 9223372036854775807 := by
    rcases w2 with ⟨_, h, _⟩ | ⟨_, _, h1, h2, _⟩
    · omega
    · unfold maxLen at h2; omega
  have Hp := Lib.hid hp; have Hlen0 := Lib.hid hlen0; have W1 := Lib.hid w1; have W2 := Lib.hid w2
  clear hp hlen0 w0 w1 w2
  by_cases hbig : (120 : Int) < (len0 : Int) ∨ (40 : Int) < (len1 : Int)
  · by_cases h120 : (120 : Int) < (len0 : Int)
    · clear hbig
      go_enter Try.func4, Try.ntmps4
      go_wp2_with fail
      refine (three_any w).mono ?_
      rintro e w1 ⟨rfl, hk⟩
      have Hk := Lib.hid hk; clear hk
      go_wp2_with fail
      refine (three_any w1).mono ?_
      rintro e w2 ⟨rfl, hk⟩
      have Hk2 := Lib.hid (Hk.out.trans hk (by simp)); clear hk
      go_wp2
      go_ret
      exact ⟨rfl, Hk2.out.below (Nat.le_refl _) (by simp)⟩
    · have h40 : (40 : Int) < (len1 : Int) := by omega
      clear hbig
      go_enter Try.func4, Try.ntmps4
      go_wp2_with fail
      refine (three_any w).mono ?_
      rintro e w1 ⟨rfl, hk⟩
      have Hk := Lib.hid hk; clear hk
      go_wp2_with fail
      refine (three_any w1).mono ?_
      rintro e w2 ⟨rfl, hk⟩
      have Hk2 := Lib.hid (Hk.out.trans hk (by simp)); clear hk
      go_wp2
      go_ret
      exact ⟨rfl, Hk2.out.below (Nat.le_refl _) (by simp)⟩
  · have h120 : ¬ (120 : Int) < (len0 : Int) := by omega
    have h40 : ¬ (40 : Int) < (len1 : Int) := by omega
    have hpl : p.length ≤ 120 := by have := Hlen0.out; omega
    clear hbig
    go_enter Try.func4, Try.ntmps4
    go_wp2_with fail
    refine (three_any w).mono ?_
    rintro e w1 ⟨rfl, hk⟩
    have hz1 := hk.size
    have Hk1 := Lib.hid hk; clear hk
    go_wp2_with fail
    refine (new_any _ p w1 (Hp.out.kept Hk1.out (by simp)) (by omega)).mono ?_
    rintro e w3 ⟨r, v0, rfl, hr3, hle3, hb3, hk3⟩
    have hrlt : r < w3.heap.size := (Array.getElem?_eq_some_iff.1 hr3.1).1
    have hz3 := hk3.size
    have Hr3 := Lib.hid hr3; have Hk3 := Lib.hid (Hk1.out.trans hk3 (by simp)); have Hb3 := Lib.hid hb3
    clear hr3 hk3 hb3
    go_wp2
    obtain ⟨mb, hmb⟩ : ∃ mb, mb = w3.heap.size := ⟨_, rfl⟩
    have hRel0 : Rel w (w3.alloc (.cells #[.slice a0 len0 cap0, .int .i64 0] 42)) r mb v0 (.slice a0 len0 cap0) p 0 p v0 (.slice a0 len0 cap0) := by
      subst hmb
      exact ⟨Hr3.out.kept ((Kept.refl w3 []).alloc _) (by simp) (by simp), heap_alloc_new w3 _, Hp.out.kept (Hk3.out.alloc _) (by simp), Nat.le_refl _, fun x hx => hx, fun x hx => hx, Hk3.out.alloc _⟩
    have hrmb : r < mb := by omega
    have hmbw : w.heap.size ≤ mb := by omega
    have hrw : w.heap.size ≤ r := by omega
    have Hv0 : RowKit.Hid (p ≠ [] → ∀ x, v0.ownBlock = some x → x < mb) := Lib.hid (by rw [hmb]; exact Hr3.out.2.1.block_lt)
    have Hvp : RowKit.Hid (p ≠ [] → ∀ x, (Value.slice a0 len0 cap0).ownBlock = some x → x < w.heap.size) := Lib.hid Hp.out.block_lt
    rw [← hmb]
    have HR0 := Lib.hid hRel0; have Hmbq := Lib.hid hmb
    clear hRel0 hmb
    go_loopw [9] (fun t wr => ∃ (k : Nat) (e : Int) (l : List UInt8) (vr vm : Value), t = .int .i64 k ∧ k ≤ len1 ∧ Rel w wr r mb v0 (.slice a0 len0 cap0) p e l vr vm) (fun t _ => len1 - (intOf t).toNat)
    case atStart => exact ⟨0, 0, p, v0, _, rfl, Nat.zero_le _, HR0.out⟩
    case round =>
      obtain ⟨k, e, l, vr, vm, rfl, hk, hrr, hmb, hrm, hll, hbr, hbm, hkw⟩ := hrel
      have hmblt : mb < wr.heap.size := (Array.getElem?_eq_some_iff.1 hmb).1
      obtain ⟨am, nm, cm, hvm⟩ := hrm.shape3
      obtain ⟨m0', m1', g0', g1'⟩ := two_of hmb
      have hzw := hkw.size
      have Hrr := Lib.hid hrr; have Hmb := Lib.hid hmb; have Hrm := Lib.hid hrm; have Hbr := Lib.hid hbr; have Hbm := Lib.hid hbm; have Hkw := Lib.hid hkw
      clear hrr hmb hrm hbr hbm hkw
      subst hvm
      by_cases hlt : k < len1
      · obtain ⟨kb, ko, rfl, kc, kwf⟩ := isRow_cell W1.out k hlt
        obtain ⟨kd, hkd⟩ : ∃ kd : Nat, z1.getD k 0 = (kd : Int) := ⟨(z1.getD k 0).toNat, by have := bounds_u8 kwf; omega⟩
        have hkd2 := bounds_u8 kwf
        rw [hkd] at kc hkd2
        have kc2 := Hkw.out.cell (p := ⟨kb, ko + k, none⟩) (by simp) kc
        clear kc kwf hkd
        have x1 : (k : Int) < (len1 : Int) := by omega
        by_cases k0 : kd % 3 = 0
        · have y0 : ((kd : Int) % 3 == 0) = true := by simp; omega
          go_wp2_with fail
          refine (refread_any _ e l wr Hrm.out (by omega)).mono ?_
          rintro en w4 ⟨vm4, rfl, hr4, hk4, hb4⟩
          obtain ⟨T, hT⟩ : ∃ T, T = rNum e l := ⟨_, rfl⟩
          rw [← hT] at hr4
          rw [← hT]
          obtain ⟨e4, he4⟩ : ∃ e4, e4 = T.2.2 := ⟨_, rfl⟩
          obtain ⟨l4, hl4⟩ : ∃ l4, l4 = T.2.1 := ⟨_, rfl⟩
          obtain ⟨n4, hn4⟩ : ∃ n4, n4 = T.1 := ⟨_, rfl⟩
          rw [← he4, ← hn4]
          rw [← hl4] at hr4
          have hl4len : l4.length ≤ l.length := by rw [hl4, hT]; exact rNum_len e l
          obtain ⟨a4, q4, c4, hv4⟩ := hr4.shape3
          have hz4 := hk4.size
          have hmb4 := hk4.heap (by simp) Hmb.out
          have hmblt4 : mb < w4.heap.size := (Array.getElem?_eq_some_iff.1 hmb4).1
          have Hr4 := Lib.hid hr4; have Hk4 := Lib.hid hk4; have Hb4 := Lib.hid hb4; have HT := Lib.hid hT; have He4 := Lib.hid he4; have Hl4 := Lib.hid hl4; have Hn4 := Lib.hid hn4; have Hmb4 := Lib.hid hmb4; have Hrr4 := Lib.hid (Hrr.out.kept hk4 (by simp) (by simp))
          clear hr4 hk4 hb4 hT he4 hl4 hn4 hmb4
          subst hv4
          have hrl : r < w4.heap.size := by omega
          have hne4 : w4.heap.size ≠ mb := by omega
          have HC : RowKit.Hid (∀ W, Kept w4 W [] → W.cell? ⟨w4.heap.size, 0, none⟩ = some (.slice a4 q4 c4) → W.cell? ⟨w4.heap.size, 1, none⟩ = some (.int .i64 e4) → Calls Try.prog 13 #[.pointer (some ⟨r, 0, none⟩)] W fun en w' => en = .returned (.int .u64 (n4 : Int)) ∧ ∃ v', Rr w' r v' e4 l4 ∧ Kept w4 w' [r] ∧ (∀ x, v'.ownBlock = some x → vr.ownBlock = some x) ∧ w'.heap[mb]? = some (.cells #[.slice am nm cm, .int .i64 e] 42 (0, 0)) ∧ w'.cell? ⟨w4.heap.size, 0, none⟩ = some (.slice a4 q4 c4) ∧ w'.cell? ⟨w4.heap.size, 1, none⟩ = some (.int .i64 e4)) := Lib.hid (fun W hk hs0 hs1 => by
            refine (rnum_any r vr e l W (Hrr4.out.kept hk (by simp) (by simp)) (by omega)).mono ?_
            rw [← HT.out, ← He4.out, ← Hl4.out, ← Hn4.out]
            rintro en w' ⟨rfl, v', q1, q2, q3⟩
            exact ⟨rfl, v', q1, (hk.mono (by simp)).trans q2 (fun x hx => .inl hx), q3, q2.heap (by simp; omega) (hk.heap (by simp) Hmb4.out), q2.cell (p := ⟨w4.heap.size, 0, none⟩) (by simp; omega) hs0, q2.cell (p := ⟨w4.heap.size, 1, none⟩) (by simp; omega) hs1⟩)
          go_wp2_with fail
          go_region_held3 (fun W => W.cell? ⟨w4.heap.size, 0, none⟩ = some (.slice a4 q4 c4) ∧ W.cell? ⟨w4.heap.size, 1, none⟩ = some (.int .i64 e4)) (first | exact ⟨by assumption, by assumption⟩ | exact ⟨(cell_set2 hne4 _ _ 0).trans (by assumption), (cell_set2 hne4 _ _ 1).trans (by assumption)⟩ | go_keep)
            (first
              | (go_at_call 13; refine (HC.out _ ?_ ?_ ?_).mono ?_; exact ((Kept.refl w4 []).alloc _).drew; (simp); (simp); rintro en w5 ⟨rfl, v5, q1, q2, q3, q4', s0, s1⟩; obtain ⟨m0, m1, g0, g1⟩ := two_of q4'; have Q1 := Lib.hid q1; have Q2 := Lib.hid q2; have Q3 := Lib.hid q3; have Q4 := Lib.hid q4'; clear q1 q2 q3 q4'))
          have hRel : Rel w ((w5.setCell ⟨mb, 0, none⟩ (.slice a4 q4 c4)).setCell ⟨mb, 1, none⟩ (.int .i64 e4)) r mb v0 (.slice a0 len0 cap0) p e4 l4 v5 (.slice a4 q4 c4) :=
            Rel.step (Hkw.out.trans Hk4.out (by simp)) hrmb hmbw hrw Hv0.out Hvp.out Hr4.out (fun x hx => Hbm.out x (Hb4.out x hx)) (by omega) Q1.out Q2.out (fun x hx => Hbr.out x (Q3.out x hx)) Q4.out
          go_wp2_with fail
          clear s0 s1 m0 m1 g0 g1 m0' m1' g0' g1'
          generalize (w5.setCell ⟨mb, 0, none⟩ (.slice a4 q4 c4)).setCell ⟨mb, 1, none⟩ (.int .i64 e4) = W6 at hRel ⊢
          obtain ⟨ee, hee⟩ : ∃ ee, ee = rEnd e4 l4 := ⟨_, rfl⟩
          have hq4 := rd_len Hr4.out
          have HD := Lib.hid (hRel.kept ((Kept.refl W6 []).drew))
          have HE1 : RowKit.Hid (Calls Try.prog 22 #[.pointer (some ⟨r, 0, none⟩)] W6.drew fun en w' => en = .returned (.int .i64 e4) ∧ W6.drew = w') := Lib.hid (error_any r v5 e4 l4 _ HD.out.1)
          have HE2 : RowKit.Hid (Calls Try.prog 18 #[.pointer (some ⟨r, 0, none⟩)] W6.drew fun en w' => en = .returned (.int .i64 q4) ∧ W6.drew = w') := Lib.hid (by rw [hq4]; exact left_any r v5 e4 l4 _ HD.out.1)
          have HE3 : RowKit.Hid (Calls Try.prog 17 #[.pointer (some ⟨r, 0, none⟩)] W6.drew fun en w' => en = .returned (.int .i64 ee) ∧ W6.drew = w') := Lib.hid (by rw [hee]; exact end_any r v5 e4 l4 _ HD.out.1 (by omega))
          have HE4 : RowKit.Hid (Calls Try.prog 23 #[.agg #[.slice a4 q4 c4, .int .i64 e4]] W6.drew fun en w' => en = .returned (.int .i64 ee) ∧ Kept W6.drew w' []) := Lib.hid (by rw [hee]; exact refend_any _ e4 l4 _ HD.out.2.2.1)
          obtain ⟨s0, s1, _, _⟩ := two_of HD.out.2.1
          have s0' : W6.cell? ⟨mb, 0, none⟩ = some (.slice a4 q4 c4) := s0
          have s1' : W6.cell? ⟨mb, 1, none⟩ = some (.int .i64 e4) := s1
          clear hee hq4 hRel s0 s1
          go_region_held3 (fun W => W.cell? ⟨mb, 0, none⟩ = some (.slice a4 q4 c4) ∧ W.cell? ⟨mb, 1, none⟩ = some (.int .i64 e4)) (first | exact ⟨by assumption, by assumption⟩ | exact ⟨s0', s1'⟩ | go_keep)
            (first
              | (go_at_call 22; refine HE1.out.mono ?_; rintro en w7 ⟨rfl, rfl⟩)
              | (go_at_call 18; refine HE2.out.mono ?_; rintro en w7 ⟨rfl, rfl⟩)
              | (go_at_call 17; refine HE3.out.mono ?_; rintro en w7 ⟨rfl, rfl⟩)
              | (go_at_call 23; refine HE4.out.mono ?_; rintro en w7 ⟨rfl, q⟩; have t0 := q.cell (p := ⟨mb, 0, none⟩) (by simp) s0'; have t1 := q.cell (p := ⟨mb, 1, none⟩) (by simp) s1'; have QE := Lib.hid q; clear q))
          go_wp2
          go_roundw
          case rel => exact ⟨k + 1, e4, l4, v5, _, by go_num, by omega, HD.out.kept QE.out⟩
          case measure => simp [intOf]; omega
        · have y0 : ((kd : Int) % 3 == 0) = false := by simp; omega
          by_cases k1 : kd % 3 = 1
          · have y1 : ((kd : Int) % 3 == 1) = true := by simp; omega
            go_wp2_with fail
            refine (refreadint_any _ e l wr Hrm.out (by omega)).mono ?_
            rintro en w4 ⟨vm4, rfl, hr4, hk4, hb4⟩
            obtain ⟨T, hT⟩ : ∃ T, T = rNum e l := ⟨_, rfl⟩
            rw [← hT] at hr4
            rw [← hT]
            obtain ⟨e4, he4⟩ : ∃ e4, e4 = T.2.2 := ⟨_, rfl⟩
            obtain ⟨l4, hl4⟩ : ∃ l4, l4 = T.2.1 := ⟨_, rfl⟩
            obtain ⟨n4, hn4⟩ : ∃ n4, n4 = unzig T.1 := ⟨_, rfl⟩
            rw [← he4, ← hn4]
            rw [← hl4] at hr4
            have hl4len : l4.length ≤ l.length := by rw [hl4, hT]; exact rNum_len e l
            obtain ⟨a4, q4, c4, hv4⟩ := hr4.shape3
            have hz4 := hk4.size
            have hmb4 := hk4.heap (by simp) Hmb.out
            have hmblt4 : mb < w4.heap.size := (Array.getElem?_eq_some_iff.1 hmb4).1
            have Hr4 := Lib.hid hr4; have Hk4 := Lib.hid hk4; have Hb4 := Lib.hid hb4; have HT := Lib.hid hT; have He4 := Lib.hid he4; have Hl4 := Lib.hid hl4; have Hn4 := Lib.hid hn4; have Hmb4 := Lib.hid hmb4; have Hrr4 := Lib.hid (Hrr.out.kept hk4 (by simp) (by simp))
            clear hr4 hk4 hb4 hT he4 hl4 hn4 hmb4
            subst hv4
            have hrl : r < w4.heap.size := by omega
            have hne4 : w4.heap.size ≠ mb := by omega
            have HC : RowKit.Hid (∀ W, Kept w4 W [] → W.cell? ⟨w4.heap.size, 0, none⟩ = some (.slice a4 q4 c4) → W.cell? ⟨w4.heap.size, 1, none⟩ = some (.int .i64 e4) → Calls Try.prog 14 #[.pointer (some ⟨r, 0, none⟩)] W fun en w' => en = .returned (.int .i64 n4) ∧ ∃ v', Rr w' r v' e4 l4 ∧ Kept w4 w' [r] ∧ (∀ x, v'.ownBlock = some x → vr.ownBlock = some x) ∧ w'.heap[mb]? = some (.cells #[.slice am nm cm, .int .i64 e] 42 (0, 0)) ∧ w'.cell? ⟨w4.heap.size, 0, none⟩ = some (.slice a4 q4 c4) ∧ w'.cell? ⟨w4.heap.size, 1, none⟩ = some (.int .i64 e4)) := Lib.hid (fun W hk hs0 hs1 => by
              refine (rint_any r vr e l W (Hrr4.out.kept hk (by simp) (by simp)) (by omega)).mono ?_
              rw [← HT.out, ← He4.out, ← Hl4.out, ← Hn4.out]
              rintro en w' ⟨rfl, v', q1, q2, q3⟩
              exact ⟨rfl, v', q1, (hk.mono (by simp)).trans q2 (fun x hx => .inl hx), q3, q2.heap (by simp; omega) (hk.heap (by simp) Hmb4.out), q2.cell (p := ⟨w4.heap.size, 0, none⟩) (by simp; omega) hs0, q2.cell (p := ⟨w4.heap.size, 1, none⟩) (by simp; omega) hs1⟩)
            go_wp2_with fail
            go_region_held3 (fun W => W.cell? ⟨w4.heap.size, 0, none⟩ = some (.slice a4 q4 c4) ∧ W.cell? ⟨w4.heap.size, 1, none⟩ = some (.int .i64 e4)) (first | exact ⟨by assumption, by assumption⟩ | exact ⟨(cell_set2 hne4 _ _ 0).trans (by assumption), (cell_set2 hne4 _ _ 1).trans (by assumption)⟩ | go_keep)
              (first
                | (go_at_call 14; refine (HC.out _ ?_ ?_ ?_).mono ?_; exact ((Kept.refl w4 []).alloc _).drew; (simp); (simp); rintro en w5 ⟨rfl, v5, q1, q2, q3, q4', s0, s1⟩; obtain ⟨m0, m1, g0, g1⟩ := two_of q4'; have Q1 := Lib.hid q1; have Q2 := Lib.hid q2; have Q3 := Lib.hid q3; have Q4 := Lib.hid q4'; clear q1 q2 q3 q4'))
            have hRel : Rel w ((w5.setCell ⟨mb, 0, none⟩ (.slice a4 q4 c4)).setCell ⟨mb, 1, none⟩ (.int .i64 e4)) r mb v0 (.slice a0 len0 cap0) p e4 l4 v5 (.slice a4 q4 c4) :=
              Rel.step (Hkw.out.trans Hk4.out (by simp)) hrmb hmbw hrw Hv0.out Hvp.out Hr4.out (fun x hx => Hbm.out x (Hb4.out x hx)) (by omega) Q1.out Q2.out (fun x hx => Hbr.out x (Q3.out x hx)) Q4.out
            go_wp2_with fail
            clear s0 s1 m0 m1 g0 g1 m0' m1' g0' g1'
            generalize (w5.setCell ⟨mb, 0, none⟩ (.slice a4 q4 c4)).setCell ⟨mb, 1, none⟩ (.int .i64 e4) = W6 at hRel ⊢
            obtain ⟨ee, hee⟩ : ∃ ee, ee = rEnd e4 l4 := ⟨_, rfl⟩
            have hq4 := rd_len Hr4.out
            have HD := Lib.hid (hRel.kept ((Kept.refl W6 []).drew))
            have HE1 : RowKit.Hid (Calls Try.prog 22 #[.pointer (some ⟨r, 0, none⟩)] W6.drew fun en w' => en = .returned (.int .i64 e4) ∧ W6.drew = w') := Lib.hid (error_any r v5 e4 l4 _ HD.out.1)
            have HE2 : RowKit.Hid (Calls Try.prog 18 #[.pointer (some ⟨r, 0, none⟩)] W6.drew fun en w' => en = .returned (.int .i64 q4) ∧ W6.drew = w') := Lib.hid (by rw [hq4]; exact left_any r v5 e4 l4 _ HD.out.1)
            have HE3 : RowKit.Hid (Calls Try.prog 17 #[.pointer (some ⟨r, 0, none⟩)] W6.drew fun en w' => en = .returned (.int .i64 ee) ∧ W6.drew = w') := Lib.hid (by rw [hee]; exact end_any r v5 e4 l4 _ HD.out.1 (by omega))
            have HE4 : RowKit.Hid (Calls Try.prog 23 #[.agg #[.slice a4 q4 c4, .int .i64 e4]] W6.drew fun en w' => en = .returned (.int .i64 ee) ∧ Kept W6.drew w' []) := Lib.hid (by rw [hee]; exact refend_any _ e4 l4 _ HD.out.2.2.1)
            obtain ⟨s0, s1, _, _⟩ := two_of HD.out.2.1
            have s0' : W6.cell? ⟨mb, 0, none⟩ = some (.slice a4 q4 c4) := s0
            have s1' : W6.cell? ⟨mb, 1, none⟩ = some (.int .i64 e4) := s1
            clear hee hq4 hRel s0 s1
            go_region_held3 (fun W => W.cell? ⟨mb, 0, none⟩ = some (.slice a4 q4 c4) ∧ W.cell? ⟨mb, 1, none⟩ = some (.int .i64 e4)) (first | exact ⟨by assumption, by assumption⟩ | exact ⟨s0', s1'⟩ | go_keep)
              (first
                | (go_at_call 22; refine HE1.out.mono ?_; rintro en w7 ⟨rfl, rfl⟩)
                | (go_at_call 18; refine HE2.out.mono ?_; rintro en w7 ⟨rfl, rfl⟩)
                | (go_at_call 17; refine HE3.out.mono ?_; rintro en w7 ⟨rfl, rfl⟩)
                | (go_at_call 23; refine HE4.out.mono ?_; rintro en w7 ⟨rfl, q⟩; have t0 := q.cell (p := ⟨mb, 0, none⟩) (by simp) s0'; have t1 := q.cell (p := ⟨mb, 1, none⟩) (by simp) s1'; have QE := Lib.hid q; clear q))
            go_wp2
            go_roundw
            case rel => exact ⟨k + 1, e4, l4, v5, _, by go_num, by omega, HD.out.kept QE.out⟩
            case measure => simp [intOf]; omega
          · have y1 : ((kd : Int) % 3 == 1) = false := by simp; omega
            by_cases hm2 : k < len2
            · obtain ⟨tb, to, rfl, mc, mwf⟩ := isRow_cell W2.out k hm2
              obtain ⟨mk, hmk⟩ : ∃ mk, mk = z2.getD k 0 := ⟨_, rfl⟩
              rw [← hmk] at mc mwf
              have mc2 := Hkw.out.cell (p := ⟨tb, to + k, none⟩) (by simp) mc
              obtain ⟨mlo, mhi⟩ := bounds_i8 mwf
              have x2 : (k : Int) < (len2 : Int) := by omega
              clear mc mwf hmk
              go_wp2_with fail
              refine (refreadtext_any _ mk e l wr Hrm.out (by omega) (by omega)).mono ?_
              rintro en w4 ⟨vm4, rfl, hr4, hk4, hb4⟩
              obtain ⟨T, hT⟩ : ∃ T, T = rText mk e l := ⟨_, rfl⟩
              rw [← hT] at hr4
              rw [← hT]
              obtain ⟨e4, he4⟩ : ∃ e4, e4 = T.2.2 := ⟨_, rfl⟩
              obtain ⟨l4, hl4⟩ : ∃ l4, l4 = T.2.1 := ⟨_, rfl⟩
              obtain ⟨n4, hn4⟩ : ∃ n4, n4 = strL T.1 := ⟨_, rfl⟩
              rw [← he4, ← hn4]
              rw [← hl4] at hr4
              have hl4len : l4.length ≤ l.length := by rw [hl4, hT]; exact rText_len mk e l
              obtain ⟨a4, q4, c4, hv4⟩ := hr4.shape3
              have hz4 := hk4.size
              have hmb4 := hk4.heap (by simp) Hmb.out
              have hmblt4 : mb < w4.heap.size := (Array.getElem?_eq_some_iff.1 hmb4).1
              have Hr4 := Lib.hid hr4; have Hk4 := Lib.hid hk4; have Hb4 := Lib.hid hb4; have HT := Lib.hid hT; have He4 := Lib.hid he4; have Hl4 := Lib.hid hl4; have Hn4 := Lib.hid hn4; have Hmb4 := Lib.hid hmb4; have Hrr4 := Lib.hid (Hrr.out.kept hk4 (by simp) (by simp))
              clear hr4 hk4 hb4 hT he4 hl4 hn4 hmb4
              subst hv4
              have hrl : r < w4.heap.size := by omega
              have hne4 : w4.heap.size ≠ mb := by omega
              have HC : RowKit.Hid (∀ W, Kept w4 W [] → W.cell? ⟨w4.heap.size, 0, none⟩ = some (.slice a4 q4 c4) → W.cell? ⟨w4.heap.size, 1, none⟩ = some (.int .i64 e4) → Calls Try.prog 15 #[.pointer (some ⟨r, 0, none⟩), .int .i64 mk] W fun en w' => en = .returned (.string n4) ∧ ∃ v', Rr w' r v' e4 l4 ∧ Kept w4 w' [r] ∧ (∀ x, v'.ownBlock = some x → vr.ownBlock = some x) ∧ w'.heap[mb]? = some (.cells #[.slice am nm cm, .int .i64 e] 42 (0, 0)) ∧ w'.cell? ⟨w4.heap.size, 0, none⟩ = some (.slice a4 q4 c4) ∧ w'.cell? ⟨w4.heap.size, 1, none⟩ = some (.int .i64 e4)) := Lib.hid (fun W hk hs0 hs1 => by
                refine (rtext_any r vr mk e l W (Hrr4.out.kept hk (by simp) (by simp)) (by omega) (by omega)).mono ?_
                rw [← HT.out, ← He4.out, ← Hl4.out, ← Hn4.out]
                rintro en w' ⟨rfl, v', q1, q2, q3⟩
                exact ⟨rfl, v', q1, (hk.mono (by simp)).trans q2 (fun x hx => .inl hx), q3, q2.heap (by simp; omega) (hk.heap (by simp) Hmb4.out), q2.cell (p := ⟨w4.heap.size, 0, none⟩) (by simp; omega) hs0, q2.cell (p := ⟨w4.heap.size, 1, none⟩) (by simp; omega) hs1⟩)
              go_wp2_with fail
              go_region_held3 (fun W => W.cell? ⟨w4.heap.size, 0, none⟩ = some (.slice a4 q4 c4) ∧ W.cell? ⟨w4.heap.size, 1, none⟩ = some (.int .i64 e4)) (first | exact ⟨by assumption, by assumption⟩ | exact ⟨(cell_set2 hne4 _ _ 0).trans (by assumption), (cell_set2 hne4 _ _ 1).trans (by assumption)⟩ | go_keep)
                (first
                  | (go_at_call 15; refine (HC.out _ ?_ ?_ ?_).mono ?_; exact ((Kept.refl w4 []).alloc _).drew; (simp); (simp); rintro en w5 ⟨rfl, v5, q1, q2, q3, q4', s0, s1⟩; obtain ⟨m0, m1, g0, g1⟩ := two_of q4'; have Q1 := Lib.hid q1; have Q2 := Lib.hid q2; have Q3 := Lib.hid q3; have Q4 := Lib.hid q4'; clear q1 q2 q3 q4'))
              have hRel : Rel w ((w5.setCell ⟨mb, 0, none⟩ (.slice a4 q4 c4)).setCell ⟨mb, 1, none⟩ (.int .i64 e4)) r mb v0 (.slice a0 len0 cap0) p e4 l4 v5 (.slice a4 q4 c4) :=
                Rel.step (Hkw.out.trans Hk4.out (by simp)) hrmb hmbw hrw Hv0.out Hvp.out Hr4.out (fun x hx => Hbm.out x (Hb4.out x hx)) (by omega) Q1.out Q2.out (fun x hx => Hbr.out x (Q3.out x hx)) Q4.out
              go_wp2_with fail
              clear s0 s1 m0 m1 g0 g1 m0' m1' g0' g1'
              generalize (w5.setCell ⟨mb, 0, none⟩ (.slice a4 q4 c4)).setCell ⟨mb, 1, none⟩ (.int .i64 e4) = W6 at hRel ⊢
              obtain ⟨ee, hee⟩ : ∃ ee, ee = rEnd e4 l4 := ⟨_, rfl⟩
              have hq4 := rd_len Hr4.out
              have HD := Lib.hid (hRel.kept ((Kept.refl W6 []).drew))
              have HE1 : RowKit.Hid (Calls Try.prog 22 #[.pointer (some ⟨r, 0, none⟩)] W6.drew fun en w' => en = .returned (.int .i64 e4) ∧ W6.drew = w') := Lib.hid (error_any r v5 e4 l4 _ HD.out.1)
              have HE2 : RowKit.Hid (Calls Try.prog 18 #[.pointer (some ⟨r, 0, none⟩)] W6.drew fun en w' => en = .returned (.int .i64 q4) ∧ W6.drew = w') := Lib.hid (by rw [hq4]; exact left_any r v5 e4 l4 _ HD.out.1)
              have HE3 : RowKit.Hid (Calls Try.prog 17 #[.pointer (some ⟨r, 0, none⟩)] W6.drew fun en w' => en = .returned (.int .i64 ee) ∧ W6.drew = w') := Lib.hid (by rw [hee]; exact end_any r v5 e4 l4 _ HD.out.1 (by omega))
              have HE4 : RowKit.Hid (Calls Try.prog 23 #[.agg #[.slice a4 q4 c4, .int .i64 e4]] W6.drew fun en w' => en = .returned (.int .i64 ee) ∧ Kept W6.drew w' []) := Lib.hid (by rw [hee]; exact refend_any _ e4 l4 _ HD.out.2.2.1)
              obtain ⟨s0, s1, _, _⟩ := two_of HD.out.2.1
              have s0' : W6.cell? ⟨mb, 0, none⟩ = some (.slice a4 q4 c4) := s0
              have s1' : W6.cell? ⟨mb, 1, none⟩ = some (.int .i64 e4) := s1
              clear hee hq4 hRel s0 s1
              go_region_held3 (fun W => W.cell? ⟨mb, 0, none⟩ = some (.slice a4 q4 c4) ∧ W.cell? ⟨mb, 1, none⟩ = some (.int .i64 e4)) (first | exact ⟨by assumption, by assumption⟩ | exact ⟨s0', s1'⟩ | go_keep)
                (first
                  | (go_at_call 22; refine HE1.out.mono ?_; rintro en w7 ⟨rfl, rfl⟩)
                  | (go_at_call 18; refine HE2.out.mono ?_; rintro en w7 ⟨rfl, rfl⟩)
                  | (go_at_call 17; refine HE3.out.mono ?_; rintro en w7 ⟨rfl, rfl⟩)
                  | (go_at_call 23; refine HE4.out.mono ?_; rintro en w7 ⟨rfl, q⟩; have t0 := q.cell (p := ⟨mb, 0, none⟩) (by simp) s0'; have t1 := q.cell (p := ⟨mb, 1, none⟩) (by simp) s1'; have QE := Lib.hid q; clear q))
              go_wp2
              go_roundw
              case rel => exact ⟨k + 1, e4, l4, v5, _, by go_num, by omega, HD.out.kept QE.out⟩
              case measure => simp [intOf]; omega
            · have x2 : ¬ (k : Int) < (len2 : Int) := by omega
              go_wp2_with fail
              refine (refreadtext_any _ 9 e l wr Hrm.out (by omega) (by omega)).mono ?_
              rintro en w4 ⟨vm4, rfl, hr4, hk4, hb4⟩
              obtain ⟨T, hT⟩ : ∃ T, T = rText 9 e l := ⟨_, rfl⟩
              rw [← hT] at hr4
              rw [← hT]
              obtain ⟨e4, he4⟩ : ∃ e4, e4 = T.2.2 := ⟨_, rfl⟩
              obtain ⟨l4, hl4⟩ : ∃ l4, l4 = T.2.1 := ⟨_, rfl⟩
              obtain ⟨n4, hn4⟩ : ∃ n4, n4 = strL T.1 := ⟨_, rfl⟩
              rw [← he4, ← hn4]
              rw [← hl4] at hr4
              have hl4len : l4.length ≤ l.length := by rw [hl4, hT]; exact rText_len 9 e l
              obtain ⟨a4, q4, c4, hv4⟩ := hr4.shape3
              have hz4 := hk4.size
              have hmb4 := hk4.heap (by simp) Hmb.out
              have hmblt4 : mb < w4.heap.size := (Array.getElem?_eq_some_iff.1 hmb4).1
              have Hr4 := Lib.hid hr4; have Hk4 := Lib.hid hk4; have Hb4 := Lib.hid hb4; have HT := Lib.hid hT; have He4 := Lib.hid he4; have Hl4 := Lib.hid hl4; have Hn4 := Lib.hid hn4; have Hmb4 := Lib.hid hmb4; have Hrr4 := Lib.hid (Hrr.out.kept hk4 (by simp) (by simp))
              clear hr4 hk4 hb4 hT he4 hl4 hn4 hmb4
              subst hv4
              have hrl : r < w4.heap.size := by omega
              have hne4 : w4.heap.size ≠ mb := by omega
              have HC : RowKit.Hid (∀ W, Kept w4 W [] → W.cell? ⟨w4.heap.size, 0, none⟩ = some (.slice a4 q4 c4) → W.cell? ⟨w4.heap.size, 1, none⟩ = some (.int .i64 e4) → Calls Try.prog 15 #[.pointer (some ⟨r, 0, none⟩), .int .i64 9] W fun en w' => en = .returned (.string n4) ∧ ∃ v', Rr w' r v' e4 l4 ∧ Kept w4 w' [r] ∧ (∀ x, v'.ownBlock = some x → vr.ownBlock = some x) ∧ w'.heap[mb]? = some (.cells #[.slice am nm cm, .int .i64 e] 42 (0, 0)) ∧ w'.cell? ⟨w4.heap.size, 0, none⟩ = some (.slice a4 q4 c4) ∧ w'.cell? ⟨w4.heap.size, 1, none⟩ = some (.int .i64 e4)) := Lib.hid (fun W hk hs0 hs1 => by
                refine (rtext_any r vr 9 e l W (Hrr4.out.kept hk (by simp) (by simp)) (by omega) (by omega)).mono ?_
                rw [← HT.out, ← He4.out, ← Hl4.out, ← Hn4.out]
                rintro en w' ⟨rfl, v', q1, q2, q3⟩
                exact ⟨rfl, v', q1, (hk.mono (by simp)).trans q2 (fun x hx => .inl hx), q3, q2.heap (by simp; omega) (hk.heap (by simp) Hmb4.out), q2.cell (p := ⟨w4.heap.size, 0, none⟩) (by simp; omega) hs0, q2.cell (p := ⟨w4.heap.size, 1, none⟩) (by simp; omega) hs1⟩)
              go_wp2_with fail
              go_region_held3 (fun W => W.cell? ⟨w4.heap.size, 0, none⟩ = some (.slice a4 q4 c4) ∧ W.cell? ⟨w4.heap.size, 1, none⟩ = some (.int .i64 e4)) (first | exact ⟨by assumption, by assumption⟩ | exact ⟨(cell_set2 hne4 _ _ 0).trans (by assumption), (cell_set2 hne4 _ _ 1).trans (by assumption)⟩ | go_keep)
                (first
                  | (go_at_call 15; refine (HC.out _ ?_ ?_ ?_).mono ?_; exact ((Kept.refl w4 []).alloc _).drew; (simp); (simp); rintro en w5 ⟨rfl, v5, q1, q2, q3, q4', s0, s1⟩; obtain ⟨m0, m1, g0, g1⟩ := two_of q4'; have Q1 := Lib.hid q1; have Q2 := Lib.hid q2; have Q3 := Lib.hid q3; have Q4 := Lib.hid q4'; clear q1 q2 q3 q4'))
              have hRel : Rel w ((w5.setCell ⟨mb, 0, none⟩ (.slice a4 q4 c4)).setCell ⟨mb, 1, none⟩ (.int .i64 e4)) r mb v0 (.slice a0 len0 cap0) p e4 l4 v5 (.slice a4 q4 c4) :=
                Rel.step (Hkw.out.trans Hk4.out (by simp)) hrmb hmbw hrw Hv0.out Hvp.out Hr4.out (fun x hx => Hbm.out x (Hb4.out x hx)) (by omega) Q1.out Q2.out (fun x hx => Hbr.out x (Q3.out x hx)) Q4.out
              go_wp2_with fail
              clear s0 s1 m0 m1 g0 g1 m0' m1' g0' g1'
              generalize (w5.setCell ⟨mb, 0, none⟩ (.slice a4 q4 c4)).setCell ⟨mb, 1, none⟩ (.int .i64 e4) = W6 at hRel ⊢
              obtain ⟨ee, hee⟩ : ∃ ee, ee = rEnd e4 l4 := ⟨_, rfl⟩
              have hq4 := rd_len Hr4.out
              have HD := Lib.hid (hRel.kept ((Kept.refl W6 []).drew))
              have HE1 : RowKit.Hid (Calls Try.prog 22 #[.pointer (some ⟨r, 0, none⟩)] W6.drew fun en w' => en = .returned (.int .i64 e4) ∧ W6.drew = w') := Lib.hid (error_any r v5 e4 l4 _ HD.out.1)
              have HE2 : RowKit.Hid (Calls Try.prog 18 #[.pointer (some ⟨r, 0, none⟩)] W6.drew fun en w' => en = .returned (.int .i64 q4) ∧ W6.drew = w') := Lib.hid (by rw [hq4]; exact left_any r v5 e4 l4 _ HD.out.1)
              have HE3 : RowKit.Hid (Calls Try.prog 17 #[.pointer (some ⟨r, 0, none⟩)] W6.drew fun en w' => en = .returned (.int .i64 ee) ∧ W6.drew = w') := Lib.hid (by rw [hee]; exact end_any r v5 e4 l4 _ HD.out.1 (by omega))
              have HE4 : RowKit.Hid (Calls Try.prog 23 #[.agg #[.slice a4 q4 c4, .int .i64 e4]] W6.drew fun en w' => en = .returned (.int .i64 ee) ∧ Kept W6.drew w' []) := Lib.hid (by rw [hee]; exact refend_any _ e4 l4 _ HD.out.2.2.1)
              obtain ⟨s0, s1, _, _⟩ := two_of HD.out.2.1
              have s0' : W6.cell? ⟨mb, 0, none⟩ = some (.slice a4 q4 c4) := s0
              have s1' : W6.cell? ⟨mb, 1, none⟩ = some (.int .i64 e4) := s1
              clear hee hq4 hRel s0 s1
              go_region_held3 (fun W => W.cell? ⟨mb, 0, none⟩ = some (.slice a4 q4 c4) ∧ W.cell? ⟨mb, 1, none⟩ = some (.int .i64 e4)) (first | exact ⟨by assumption, by assumption⟩ | exact ⟨s0', s1'⟩ | go_keep)
                (first
                  | (go_at_call 22; refine HE1.out.mono ?_; rintro en w7 ⟨rfl, rfl⟩)
                  | (go_at_call 18; refine HE2.out.mono ?_; rintro en w7 ⟨rfl, rfl⟩)
                  | (go_at_call 17; refine HE3.out.mono ?_; rintro en w7 ⟨rfl, rfl⟩)
                  | (go_at_call 23; refine HE4.out.mono ?_; rintro en w7 ⟨rfl, q⟩; have t0 := q.cell (p := ⟨mb, 0, none⟩) (by simp) s0'; have t1 := q.cell (p := ⟨mb, 1, none⟩) (by simp) s1'; have QE := Lib.hid q; clear q))
              go_wp2
              go_roundw
              case rel => exact ⟨k + 1, e4, l4, v5, _, by go_num, by omega, HD.out.kept QE.out⟩
              case measure => simp [intOf]; omega
      · have x1 : ¬ (k : Int) < (len1 : Int) := by omega
        go_wp2
        go_ret
        exact ⟨rfl, Hkw.out.below (Nat.le_refl _) (by simp)⟩

set_option maxRecDepth 100000 in
theorem lifted (os : Os) (started : os.Started) (H : Type) (enc : TypeId × Value → H) :
    ReturnsInHanded {} Try.checked os 4 .any (Rows.codeReadsSpec.pre6 enc Try.prog Try.f4 Rows.codeReadsRow.domain false) (Rows.codeReadsSpec.post enc Try.prog Try.f4 false true false false) := by
  refine returnsInHanded_of_change (C := Try.checked) own started (by kernel_rfl) Try.func4
    (ChangeSpec.witness6 (enc := enc) (C := Try.checked) false ⟨#[], #[.slice none 0 0, .slice none 0 0, .slice none 0 0], []⟩ 8 (by kernel_rfl) (by kernel_rfl) (by kernel_rfl) (by kernel_rfl)) ?_
  intro W base args ds gs before hval0 hW hcnd _
  have hval : ∀ (j : Nat) t v, Try.f4.params[j]? = some t → args[j]? = some v → Value.okWide Try.prog W .any base t v := hval0
  have hW' := hW
  obtain ⟨p, q, hA0, hV, rfl, hfz, hnd⟩ := hW
  have hA : DataW.TrodAll enc Try.prog W 0 (fun _ => true) true Try.f4.params.toList args.toList ds p := hA0
  rw [Try.params4] at hA hval
  obtain ⟨v0, vs0, d0, ds0, p0, q0, hargs, rfl, rfl, h0, r0⟩ := trodAll_cons hA
  obtain ⟨v1, vs1, d1, ds1, p1, q1, rfl, rfl, rfl, h1, r1⟩ := trodAll_cons r0
  obtain ⟨v2, vs2, d2, ds2, p2, q2, rfl, rfl, rfl, h2, r2⟩ := trodAll_cons r1
  obtain ⟨rfl, rfl, rfl⟩ := trodAll_nil r2
  obtain rfl : args = #[v0, v1, v2] := by cases args; simp_all
  obtain ⟨rfl, rfl⟩ := trodVars_none hV
  obtain ⟨a0, len0, cap0, rfl⟩ := okWide_slice Try.underlying25 (hval 0 25 v0 rfl rfl)
  have k0 := h0
  have lt0 : ∀ x ∈ p0, x.block < W.heap.size := by obtain ⟨m, hm⟩ := k0; exact DataW.trod_lt m _ _ _ hm
  obtain ⟨z0, w0⟩ : ∃ zs, IsRow .u8 W a0 len0 cap0 zs := by
    obtain ⟨fuel, hf⟩ := h0
    rcases open_ints Try.underlying25 Try.underlying5 (by kernel_rfl) hf with ⟨hcs, _⟩ | ⟨x, l, c, zs, hcs, _, hl, hm, hz, _, hcell, hwz⟩
    · simp [Value.cells] at hcs
      obtain ⟨rfl, rfl, rfl⟩ := hcs
      exact ⟨[], .inl ⟨rfl, rfl, rfl, rfl⟩⟩
    · simp [Value.cells] at hcs
      obtain ⟨rfl, rfl, rfl⟩ := hcs
      exact ⟨zs, .inr ⟨_, rfl, hl, hm, by simpa using hz, hcell, hwz⟩⟩
  obtain ⟨a1, len1, cap1, rfl⟩ := okWide_slice Try.underlying25 (hval 1 25 v1 rfl rfl)
  have k1 := h1
  have lt1 : ∀ x ∈ p1, x.block < W.heap.size := by obtain ⟨m, hm⟩ := k1; exact DataW.trod_lt m _ _ _ hm
  obtain ⟨z1, w1⟩ : ∃ zs, IsRow .u8 W a1 len1 cap1 zs := by
    obtain ⟨fuel, hf⟩ := h1
    rcases open_ints Try.underlying25 Try.underlying5 (by kernel_rfl) hf with ⟨hcs, _⟩ | ⟨x, l, c, zs, hcs, _, hl, hm, hz, _, hcell, hwz⟩
    · simp [Value.cells] at hcs
      obtain ⟨rfl, rfl, rfl⟩ := hcs
      exact ⟨[], .inl ⟨rfl, rfl, rfl, rfl⟩⟩
    · simp [Value.cells] at hcs
      obtain ⟨rfl, rfl, rfl⟩ := hcs
      exact ⟨zs, .inr ⟨_, rfl, hl, hm, by simpa using hz, hcell, hwz⟩⟩
  obtain ⟨a2, len2, cap2, rfl⟩ := okWide_slice Try.underlying40 (hval 2 40 v2 rfl rfl)
  have k2 := h2
  have lt2 : ∀ x ∈ p2, x.block < W.heap.size := by obtain ⟨m, hm⟩ := k2; exact DataW.trod_lt m _ _ _ hm
  obtain ⟨z2, w2⟩ : ∃ zs, IsRow .i8 W a2 len2 cap2 zs := by
    obtain ⟨fuel, hf⟩ := h2
    rcases open_ints Try.underlying40 Try.underlying47 (by kernel_rfl) hf with ⟨hcs, _⟩ | ⟨x, l, c, zs, hcs, _, hl, hm, hz, _, hcell, hwz⟩
    · simp [Value.cells] at hcs
      obtain ⟨rfl, rfl, rfl⟩ := hcs
      exact ⟨[], .inl ⟨rfl, rfl, rfl, rfl⟩⟩
    · simp [Value.cells] at hcs
      obtain ⟨rfl, rfl, rfl⟩ := hcs
      exact ⟨zs, .inr ⟨_, rfl, hl, hm, by simpa using hz, hcell, hwz⟩⟩
  clear hA0 hval0
  refine (walk a0 len0 cap0 z0 a1 len1 cap1 z1 a2 len2 cap2 z2 W w0 w1 w2).mono fun e W' ⟨he, bel⟩ => ?_
  subst he
  exact ⟨_, rfl, _, _, _, [], _, [], hW', trodAll_mk1 (shut_bool Try.underlying4 _), (trodAll_cons_mk (Below.trod laidOut (by kernel_rfl) (of_decide_eq_true (by kernel_rfl)) k0 bel lt0) (trodAll_cons_mk (Below.trod laidOut (by kernel_rfl) (of_decide_eq_true (by kernel_rfl)) k1 bel lt1) (trodAll_cons_mk (Below.trod laidOut (by kernel_rfl) (of_decide_eq_true (by kernel_rfl)) k2 bel lt2) trodAll_mk0))), rfl, bel.frame _, fun h => by cases h⟩

theorem over : Rows.codeReadsRow.holds Try.pinned (OpenSpec.ofChange Rows.codeReadsSpec) :=
  OpenClaim.holds_of_wide 4 Try.f4 rfl rfl rfl rfl rfl rfl rfl ⟨rfl, rfl, rfl, rfl, rfl⟩ rfl rfl rfl rfl rfl (by kernel_rfl) Try.func4 (by kernel_rfl)
    (of_decide_eq_true (by kernel_rfl)) (by unfold Func.isWrapper; first | (rw [if_pos (by decide +kernel)]; kernel_rfl) | (rw [if_neg (by decide +kernel)]; exact ⟨rfl, rfl⟩))
    (fun os started H enc _ => lifted os started H enc)

theorem proved : Rows.CodeReadsSaid :=
  over
end Go.Proofs.Ytfmljoekfbnpiaa.codeReads

namespace Go.Proofs.Ytfmljoekfbnpiaa
theorem codeReads_holds : Rows.CodeReadsSaid := codeReads.proved
#print axioms codeReads_holds
end Go.Proofs.Ytfmljoekfbnpiaa
