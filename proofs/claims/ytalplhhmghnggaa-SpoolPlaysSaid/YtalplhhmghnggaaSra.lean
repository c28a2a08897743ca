/-
  The document's spools: AddTo, Next, Rotate; Same.
-/
import Derived.Test.YtalplhhmghnggaaSpi
import Derived.Laws.StructEq
import Derived.BigQuiet
import Derived.Deep.DeepCutAuto
namespace Go.Proofs.Ytalplhhmghnggaa
set_option linter.unusedVariables false
open Go.RowKit

variable {w w' : World} {B h c : Nat} {V : Nat → Value} {l : Nat → List Ev}

abbrev spR : TypeId := 30

/-- A table is laid anew, out of what is new. -/
theorem Sp.lay0 {T : TypeId} (hT : T ≠ 36) (a : Sp T w B h V l c) {w1 : World} {i : Nat} (hi : i < 3) (k : Kept w w1 []) {v : Value} {m : List Ev} (x : OwnE w1 B 36 v m) (hv : ∀ k, v.ownBlock = some k → w.heap.size ≤ k) :
    (w1.cell? ⟨h, i, none⟩ = some (V i) ∧ w1.frozen? ⟨h, i, none⟩ = false) ∧ Sp T (w1.setCell ⟨h, i, none⟩ v) B h (upd V i v) (upd l i m) c ∧ Stp (sfoot h V) (sfoot h (upd V i v)) w (w1.setCell ⟨h, i, none⟩ v) := by
  have a1 := a.keep k
  exact ⟨a1.cell i hi, Sp.put hT a1.hh a1.bh a1.c3 hi (fun j hj _ => a1.own j hj) x, (Fo.ofKept k _).setCell (.inl (.inl rfl)) v, sfoot_upd hi (fun k hk => .inr (hv k hk))⟩

/-- One event's cells, each by itself. -/
theorem RdE.eight {a : Option Addr} {n c : Nat} {m : List Ev} (x : RdE w (.slice a n c) m) {k : Nat} {r : Ev} (hr : m[k]? = some r) : ∃ b o, a = some ⟨b, o, none⟩ ∧
    w.cell? ⟨b, o + k * 8, none⟩ = some (.int .i64 r.id) ∧ w.cell? ⟨b, o + k * 8 + 1, none⟩ = some (.int .i64 r.tx) ∧ w.cell? ⟨b, o + k * 8 + 2, none⟩ = some (.string r.ow) ∧ w.cell? ⟨b, o + k * 8 + 3, none⟩ = some (.int .i64 r.tr) ∧
    w.cell? ⟨b, o + k * 8 + 4, none⟩ = some (.int .i64 r.tb) ∧ w.cell? ⟨b, o + k * 8 + 5, none⟩ = some (.int .u8 r.kd) ∧ w.cell? ⟨b, o + k * 8 + 6, none⟩ = some (.int .i64 r.key) ∧ w.cell? ⟨b, o + k * 8 + 7, none⟩ = some (.string r.t) := by
  obtain ⟨hk, rfl⟩ := List.getElem?_eq_some_iff.1 hr
  obtain ⟨b, o, rfl, hc⟩ := x.at k hk
  exact ⟨b, o, rfl, hc 0 (by decide), hc 1 (by decide), hc 2 (by decide), hc 3 (by decide), hc 4 (by decide), hc 5 (by decide), hc 6 (by decide), hc 7 (by decide)⟩

/-- An event is itself. -/
theorem ev_ne (b0 b1 b3 b4 b5 b6 : Int) (b2 b7 : ByteArray) (w : World) : (binOp .neq 36 (.agg #[.int .i64 b0, .int .i64 b1, .string b2, .int .i64 b3, .int .i64 b4, .int .u8 b5, .int .i64 b6, .string b7]) (.agg #[.int .i64 b0, .int .i64 b1, .string b2, .int .i64 b3, .int .i64 b4, .int .u8 b5, .int .i64 b6, .string b7])).run Try.prog w = .ok (.bool false) w := by
  go_simp

set_option maxHeartbeats 1000000 in
theorem same_any {va vb : Value} {m : List Ev} (ha : RdE w va m) (hb : RdE w vb m) (hm : m.length < 1000000) :
    Calls Try.prog 19 #[va, vb] w fun e w' => e = .returned (.bool true) ∧ Kept w w' [] := by
  obtain ⟨a, ca, rfl⟩ := ha.shape3
  obtain ⟨b, cb, rfl⟩ := hb.shape3
  have HA := Lib.hid ha; have HB := Lib.hid hb
  obtain ⟨n, hn⟩ : ∃ n, n = m.length := ⟨_, rfl⟩
  have HN := Lib.hid hn
  rw [← hn] at hm ⊢
  clear ha hb hn
  have eqs := ev_ne
  go_enter Try.func19, Try.ntmps19
  go_wp2
  go_loopg [5] n (fun kx s5 wr => ∃ i : Nat, s5 = .int .i64 i ∧ i ≤ n ∧ n - i ≤ kx ∧ RowKit.Hid (Kept w wr []))
  case atStart => exact ⟨0, rfl, by omega, by omega, Kept.refl _ _⟩
  case round =>
    obtain ⟨i, rfl, hi, hkx, HK⟩ := hrel
    by_cases hlt : i < n
    · have x1 : (i : Int) < (n : Int) := by omega
      obtain ⟨r, hr⟩ : ∃ r, m[i]? = some r := ⟨_, List.getElem?_eq_getElem (by rw [← HN.out]; exact hlt)⟩
      have ea := (HA.out.kept HK.out (by simp))
      have eb := (HB.out.kept HK.out (by simp))
      rw [← HN.out] at ea eb
      obtain ⟨ba, oa, rfl, fa⟩ := ea.eight hr
      obtain ⟨bb, ob, rfl, fb⟩ := eb.eight hr
      obtain ⟨b0, b1, b2, b3, b4, b5, b6, b7⟩ := r
      have FA1 := Lib.hid fa; have FB1 := Lib.hid fb
      obtain ⟨p0, p1, p2, p3, p4, p5, p6, p7⟩ := fa
      obtain ⟨q0, q1, q2, q3, q4, q5, q6, q7⟩ := fb
      simp only at p0 p1 p2 p3 p4 p5 p6 p7 q0 q1 q2 q3 q4 q5 q6 q7
      clear hr ea eb
      go_wp2_with fail
      go_quiet (fail)
      have KN := Lib.hid (HK.out.drewN nq)
      clear p0 p1 p2 p3 p4 p5 p6 p7 q0 q1 q2 q3 q4 q5 q6 q7
      generalize wr.drewN nq = wn at KN ⊢
      go_wp2
      go_roundg (n - (i + 1))
      case measure => omega
      case rel => exact ⟨i + 1, by go_num, by omega, by omega, KN⟩
    · have x1 : ¬ (i : Int) < (n : Int) := by omega
      go_wp2
      go_ret
      exact ⟨rfl, HK.out⟩

set_option maxHeartbeats 1000000 in
theorem rnext_any (a : Sp spR w B h V l c) : Calls Try.prog 23 #[.pointer (some ⟨h, 0, none⟩)] w fun e w' => e = .returned (V (nxt c)) ∧ Kept w w' [] := by
  obtain ⟨u, n, e⟩ := a.shape (nxt c) (nxt_lt c)
  have c3 := a.cur.1
  have ci := (a.cell (nxt c) (nxt_lt c)).1
  rw [e] at ci ⊢
  have hk := nxt_lt c
  have hn := nxt_int c
  have hc := a.c3
  have hk3 : ¬ (3 : Int) ≤ ((nxt c : Nat) : Int) := by omega
  have hkn : ¬ ((nxt c : Nat) : Int) < 0 := by omega
  generalize (l (nxt c)).length = m at *
  have hn2 : IntKind.i64.wrap ((c : Int) + 1) = (c : Int) + 1 := by rw [IntKind.wrap_i64]; omega
  have hn3 : ((c : Int) + 1) % 3 = ((nxt c : Nat) : Int) := by rw [← hn, Int.tmod_eq_emod_of_nonneg (by omega)]
  generalize nxt c = d at *
  have hd2 : IntKind.i64.wrap (d : Int) = (d : Int) := by rw [IntKind.wrap_i64]; omega
  clear a e
  go_enter Try.func23, Try.ntmps23
  go_wp2_with fail
  go_quiet (fail)
  go_wp2
  go_ret
  exact ⟨rfl, (Kept.refl w []).drewN _⟩

set_option maxHeartbeats 2000000 in
theorem rrotate_any (a : Sp spR w B h V l c) (free : Bool) :
    Calls Try.prog 17 #[.pointer (some ⟨h, 0, none⟩), .bool free] w fun e w' => e = .returned (.tuple #[.int .u8 (rotS l c free).1, .int .i64 (rotS l c free).2.1]) ∧
      ∃ V', Sp spR w' B h V' (rotS l c free).2.2.1 (rotS l c free).2.2.2 ∧ Stp (sfoot h V) (sfoot h V') w w' := by
  obtain ⟨u, n, e⟩ := a.shape (nxt c) (nxt_lt c)
  have ci := (a.cell (nxt c) (nxt_lt c)).1
  have ff := (a.cell (nxt c) (nxt_lt c)).2
  rw [e] at ci
  have hk := nxt_lt c
  have hn := nxt_int c
  have hc3 := a.c3
  have c3 := a.cur
  obtain ⟨c3, f3⟩ := c3
  have A := Lib.hid a
  clear a e
  by_cases h0 : l (nxt c) = []
  · have HR : RowKit.Hid (rotS l c free = (2, 0, l, nxt c)) := Lib.hid (by unfold rotS; rw [if_pos h0])
    rw [HR.out]
    rw [h0] at ci
    generalize nxt c = k at *
    clear h0 ff
    go_enter Try.func17, Try.ntmps17
    go_wp2
    (try simp only [Exit.inBlock, Exit.then])
    refine bodyPost_ret (v := .tuple #[.int .u8 2, .int .i64 0]) (by simp [results, Try.results17, go_sem]) rfl ?_
    exact ⟨rfl, V, A.out.turn (by decide) hk, (Fo.refl _ _).setCell (.inl (.inl rfl)) _, fun k h => .inl h⟩
  · have hl : ((l (nxt c)).length == 0) = false := by rw [beq_eq_false_iff_ne]; intro h; exact h0 (List.eq_nil_of_length_eq_zero h)
    have hlz : (((l (nxt c)).length : Int) == 0) = false := by rw [beq_eq_false_iff_ne] at hl ⊢; omega
    cases free with
    | true =>
      have HR : RowKit.Hid (rotS l c true = (1, 0, upd l (nxt c) [], c)) := Lib.hid (by unfold rotS; rw [if_neg h0, if_pos rfl])
      rw [HR.out]
      have HF := Lib.hid (A.out.lay0 (by decide) hk (Kept.refl w []) (OwnE.nil w B _) (by intro k hk; simp [Value.ownBlock] at hk))
      clear h0
      generalize (l (nxt c)).length = m at *
      generalize nxt c = k at *
      go_enter Try.func17, Try.ntmps17
      go_wp2
      (try simp only [Exit.inBlock, Exit.then])
      refine bodyPost_ret (v := .tuple #[.int .u8 1, .int .i64 0]) (by simp [results, Try.results17, go_sem]) rfl ?_
      obtain ⟨_, h1, h2⟩ := HF.out
      exact ⟨rfl, _, h1, h2⟩
    | false =>
      have HR : RowKit.Hid (rotS l c false = (0, 9, l, c)) := Lib.hid (by unfold rotS; rw [if_neg h0, if_neg (by simp)])
      rw [HR.out]
      clear h0
      generalize (l (nxt c)).length = m at *
      generalize nxt c = k at *
      go_enter Try.func17, Try.ntmps17
      go_wp2
      (try simp only [Exit.inBlock, Exit.then])
      refine bodyPost_ret (v := .tuple #[.int .u8 0, .int .i64 9]) (by simp [results, Try.results17, go_sem]) rfl ?_
      exact ⟨rfl, V, A.out, Stp.refl _ _⟩

set_option maxHeartbeats 1000000 in
theorem raddto_out (h : Nat) (i : Int) (hi : isT i = false) (e : Ev) (w : World) :
    Calls Try.prog 12 #[.pointer (some ⟨h, 0, none⟩), .int .i64 i, .agg e.cs] w fun r w' => r = .returned (.int .i64 1) ∧ Kept w w' [] := by
  rcases e with ⟨b0, b1, b2, b3, b4, b5, b6, b7⟩
  simp only [Ev.cs]
  unfold isT at hi
  have hi2 := of_decide_eq_false hi
  by_cases h0 : i < 0
  · clear hi hi2
    go_enter Try.func12, Try.ntmps12
    go_wp2
    go_ret
    exact ⟨rfl, (Kept.refl _ []).alloc _⟩
  · have h2 : 2 < i := by omega
    clear hi hi2
    go_enter Try.func12, Try.ntmps12
    go_wp2
    go_ret
    exact ⟨rfl, (Kept.refl _ []).alloc _⟩

set_option maxHeartbeats 2000000 in
set_option maxRecDepth 100000 in
theorem raddto_core (a : Sp spR w B h V l c) (i : Nat) (hi : i < 3) (hl : (l i).length < 1000000) (C : Ev) (b0 b1 b3 b4 b5 b6 : Int) (b2 b7 : ByteArray) (hcs : C.cs = #[.int .i64 b0, .int .i64 b1, .string b2, .int .i64 b3, .int .i64 b4, .int .u8 b5, .int .i64 b6, .string b7]) :
    Calls Try.prog 12 #[.pointer (some ⟨h, 0, none⟩), .int .i64 i, .agg #[.int .i64 b0, .int .i64 b1, .string b2, .int .i64 b3, .int .i64 b4, .int .u8 b5, .int .i64 b6, .string b7]] w fun r w' => r = .returned (.int .i64 0) ∧ ∃ V', Sp spR w' B h V' (upd l i (l i ++ [C])) c ∧ Stp (sfoot h V) (sfoot h V') w w' := by
  obtain ⟨u, cp, hV⟩ := a.shape i hi
  obtain ⟨n, hn⟩ : ∃ n, n = (l i).length := ⟨_, rfl⟩
  rw [← hn] at hV hl
  obtain ⟨z, hz⟩ : ∃ z, z = w.heap.size := ⟨_, rfl⟩
  obtain ⟨W1, hW1⟩ : ∃ W1, W1 = w.alloc (.cells #[.int .i64 b0, .int .i64 b1, .string b2, .int .i64 b3, .int .i64 b4, .int .u8 b5, .int .i64 b6, .string b7] 36) := ⟨_, rfl⟩
  have k1 : Kept w W1 [] := by rw [hW1]; exact (Kept.refl w []).alloc _
  have g1 : W1.heap[z]? = some (.cells #[.int .i64 b0, .int .i64 b1, .string b2, .int .i64 b3, .int .i64 b4, .int .u8 b5, .int .i64 b6, .string b7] 36 (0, 0)) := by rw [hW1, hz]; exact heap_alloc_new w _
  obtain ⟨i0, hi0, hz0, hz1, hzb⟩ := info_parts Try.infoEv
  have I := Lib.hid (And.intro hi0 (And.intro hz0 (And.intro hz1 hzb)))
  have ci := ((a.keep k1).cell i hi).1
  have o1 := ((a.keep k1).own i hi).rd
  rw [hV] at ci o1
  have O1 := Lib.hid o1; have A := Lib.hid a; have HN := Lib.hid hn
  have i0' : ¬ (i : Int) < 0 := by omega
  have i2' : ¬ (2 : Int) < (i : Int) := by omega
  have hi3 : ¬ (3 : Int) ≤ (i : Int) := by omega
  have K1 := Lib.hid k1; have G1 := Lib.hid g1; have HW1 := Lib.hid hW1; have HZ := Lib.hid hz
  have hbz : w.heap.size ≤ W1.heap.size := k1.size
  have HCS := Lib.hid hcs
  clear a hn k1 g1 o1 hV hi0 hz0 hz1 hzb hcs
  go_enter Try.func12, Try.ntmps12
  go_upto_region 1 with fail
  rw [← HW1.out, ← HZ.out]
  clear hW1 hz
  go_wp2_with (at_builtin; refine wpList_append_src _ rfl (.tmp 14) (.tmp 20) 27 27 rfl w.heap.size 36 i0 _ 8 80 Try.underlying27 I.out.1 I.out.2.1 I.out.2.2.1 I.out.2.2.2 rfl (.slice none 0 0) 0 [] rfl (OwnE.nil _ _ _) _ n (ecs (l i)) rfl ?src ?b1 ?b2 ?base ?next)
  case src => have := O1.out.src (P := Try.prog) Try.underlying27; rw [← HN.out] at this; exact this
  case b1 => unfold maxLen; omega
  case b2 => omega
  try (case base => exact hbz)
  case next =>
    intro v2 w2 hown hgrow hl2 _
    have NZ : RowKit.Hid (v2.ownBlock ≠ some z) := Lib.hid (fun hz => by
      rcases hl2 with h | ⟨g, h, hg⟩
      · rw [h] at hz; simp [Value.ownBlock] at hz
      · rw [h] at hz
        simp only [Option.some.injEq] at hz
        subst hz
        have := heap_lt G1.out
        omega)
    have ho : OwnE w2 w.heap.size 36 v2 (l i) := by unfold OwnE; rw [← HN.out]; simpa using hown
    have hk : Kept W1 w2 [] := (Kept.refl W1 []).grown hgrow (fun k hk => by simp [Value.ownBlock] at hk)
    obtain ⟨u2, c2, rfl⟩ := ho.shape
    have Ho := Lib.hid ho; have Hk := Lib.hid hk
    have S1 := Lib.hid (hk.drew.heap (by simp) G1.out)
    clear ho hk hown hgrow ci
    rw [← HN.out]
    rw [← HN.out] at NZ
    obtain ⟨wB, hwB⟩ : ∃ wB, wB = w2.drew.alloc (.cells #[.int .i64 b0, .int .i64 b1, .string b2, .int .i64 b3, .int .i64 b4, .int .u8 b5, .int .i64 b6, .string b7] 36) := ⟨_, rfl⟩
    have kB : Kept w2 wB [] := by rw [hwB]; exact ((Kept.refl w2 []).drew).alloc _
    have S2 := Lib.hid (kB.heap (by simp) (Hk.out.heap (by simp) G1.out))
    have gB : wB.heap[w2.heap.size]? = some (.cells #[.int .i64 b0, .int .i64 b1, .string b2, .int .i64 b3, .int .i64 b4, .int .u8 b5, .int .i64 b6, .string b7] 36 (0, 0)) := by rw [hwB]; exact heap_alloc_new w2.drew _
    have SB := Lib.hid (show Src Try.prog 8 27 (.slice (some ⟨w2.heap.size, 0, none⟩) 1 1) 1 [.int .i64 b0, .int .i64 b1, .string b2, .int .i64 b3, .int .i64 b4, .int .u8 b5, .int .i64 b6, .string b7] wB from by
      refine Src.ofSlice wB Try.underlying27 ⟨w2.heap.size, 0, none⟩ 1 1 _ rfl (fun j x hx => ?_) (by rw [← show C.cs.toList = [.int .i64 b0, .int .i64 b1, .string b2, .int .i64 b3, .int .i64 b4, .int .u8 b5, .int .i64 b6, .string b7] from by rw [HCS.out]]; exact encE_one C)
      rw [Addr.add_lit, cell_of_row wB _ _ _ _ _ gB, Nat.zero_add]
      simpa using hx)
    have XB := Lib.hid (show wB.ownsRow w.heap.size 36 8 (.slice u2 n c2) n (ecs (l i)) from by have := Ho.out.kept kB (by simp); unfold OwnE at this; rw [← HN.out] at this; exact this)
    have BB := Lib.hid (show w.heap.size ≤ wB.heap.size from Nat.le_trans (Nat.le_trans hbz Hk.out.size) kB.size)
    have KB := Lib.hid (K1.out.trans (Hk.out.trans kB (by simp)) (by simp))
    have HwB := Lib.hid hwB
    clear hwB kB gB
    go_wp2_with fail
    refine wp_region_held_drew (S := fun V => V.heap[z]? = some (.cells #[.int .i64 b0, .int .i64 b1, .string b2, .int .i64 b3, .int .i64 b4, .int .u8 b5, .int .i64 b6, .string b7] 36 (0, 0))) (by kernel_rfl) S1.out (fun hHeld => ?_)
    refine wpAnyH_take (i := 0) (oi := _) (v := .pointer (some ⟨h, 0, none⟩)) rfl (by kernel_rfl) (by kernel_rfl) (by kernel_rfl) (fun _ _ _ h => h) (Or.inl ⟨by rfl, fun V hV => by go_simp⟩) hHeld ?_
    change wpAnyH _ _ _ _ _ _ _ (Act.put _ (some 22) _) _
    simp only [Act.put, List.setIfInBounds_toArray, List.set_cons_zero, List.set_cons_succ]
    refine wpAnyH_take (i := 1) (oi := _) (v := .int .i64 i) rfl (by kernel_rfl) (by kernel_rfl) (by kernel_rfl) (fun _ _ _ h => h) (Or.inl ⟨by rfl, fun V hV => by go_simp⟩) hHeld ?_
    change wpAnyH _ _ _ _ _ _ _ (Act.put _ (some 23) _) _
    simp only [Act.put, List.setIfInBounds_toArray, List.set_cons_zero, List.set_cons_succ]
    refine wpAnyH_take (i := 2) (oi := _) (v := .slice u2 n c2) rfl (by kernel_rfl) (by kernel_rfl) (by kernel_rfl) (fun _ _ _ h => h) (Or.inl ⟨by rfl, fun V hV => by go_simp⟩) hHeld ?_
    change wpAnyH _ _ _ _ _ _ _ (Act.put _ (some 24) _) _
    simp only [Act.put, List.setIfInBounds_toArray, List.set_cons_zero, List.set_cons_succ]
    refine wpAnyH_take (i := 3) (oi := _) (v := .agg #[.int .i64 b0, .int .i64 b1, .string b2, .int .i64 b3, .int .i64 b4, .int .u8 b5, .int .i64 b6, .string b7]) rfl (by kernel_rfl) (by kernel_rfl) (by kernel_rfl) (fun _ _ _ h => h) (Or.inl ⟨by rfl, fun V hV => by (obtain ⟨q0, q1, q2, q3, q4, q5, q6, q7⟩ := ev_cells hV; clear hV; go_simp)⟩) hHeld ?_
    change wpAnyH _ _ _ _ _ _ _ (Act.put _ (some 25) _) _
    simp only [Act.put, List.setIfInBounds_toArray, List.set_cons_zero, List.set_cons_succ]
    refine wpAnyH_take (i := 6) (oi := _) (v := .pointer (some ⟨h, 0, none⟩)) rfl (by kernel_rfl) (by kernel_rfl) (by kernel_rfl) (fun _ _ _ h => h) (Or.inl ⟨by rfl, fun V hV => by go_simp⟩) hHeld ?_
    change wpAnyH _ _ _ _ _ _ _ (Act.put _ (some 28) _) _
    simp only [Act.put, List.setIfInBounds_toArray, List.set_cons_zero, List.set_cons_succ]
    refine wpAnyH_take (i := 7) (oi := _) (v := .pointer (some ⟨h, 0, none⟩)) rfl (by kernel_rfl) (by kernel_rfl) (by kernel_rfl) (fun _ _ _ h => h) (Or.inl ⟨by rfl, fun V hV => by go_simp⟩) hHeld ?_
    change wpAnyH _ _ _ _ _ _ _ (Act.put _ (some 29) _) _
    simp only [Act.put, List.setIfInBounds_toArray, List.set_cons_zero, List.set_cons_succ]
    refine wpAnyH_ready (rs := [4]) (by kernel_rfl) (by simp) ?_
    refine AllReadyH.cons (o := _) rfl (fun K hK => ?_) AllReadyH.nil
    refine step_buildSlice_one _ rfl 27 (.tmp 25) rfl 36 i0 _ 8 Try.underlying27 I.out.1 I.out.2.1 I.out.2.2.1 (by decide) (by decide) [.int .i64 b0, .int .i64 b1, .string b2, .int .i64 b3, .int .i64 b4, .int .u8 b5, .int .i64 b6, .string b7] rfl rfl ?_
    rw [← HwB.out]
    refine hK.out _ _ S2.out (fun hHeld => ?_)
    clear hK K
    refine wpAnyH_ready (rs := [5]) (by kernel_rfl) (by simp) ?_
    refine AllReadyH.cons (o := _) rfl (fun K hK => ?_) AllReadyH.nil
    refine step_append_all _ rfl (.tmp 24) (.tmp 26) 27 27 rfl w.heap.size 36 i0 _ 8 80 Try.underlying27 I.out.1 I.out.2.1 I.out.2.2.1 I.out.2.2.2 rfl (.slice u2 n c2) n (ecs (l i)) rfl XB.out _ 1 [.int .i64 b0, .int .i64 b1, .string b2, .int .i64 b3, .int .i64 b4, .int .u8 b5, .int .i64 b6, .string b7] rfl SB.out (by unfold maxLen; omega) (by omega) BB.out ?_
    intro v9 w9 ho9 hf9 hg9 hl9
    have o9 : OwnE w9 w.heap.size 36 v9 (l i ++ [C]) := by unfold OwnE; rw [← ecs_snoc, HCS.out, List.length_append, ← HN.out]; exact ho9
    have k9 : Kept w w9 [] := KB.out.grown hg9 (fun k hk => .inr (XB.out.lt k hk).1)
    obtain ⟨⟨c9, f9⟩, r9, p9⟩ := A.out.lay0 (by decide) hi k9 (o9.mono A.out.size) (fun k hk => (o9.lt k hk).1)
    have s9 : w9.heap[z]? = some (.cells #[.int .i64 b0, .int .i64 b1, .string b2, .int .i64 b3, .int .i64 b4, .int .u8 b5, .int .i64 b6, .string b7] 36 (0, 0)) := ((Fo.refl (fun k => (Value.slice u2 n c2).ownBlock = some k) wB).grown hg9 (fun k hk => .inl hk)).heap NZ.out S2.out
    have t9 : (w9.setCell ⟨h, i, none⟩ v9).heap[z]? = some (.cells #[.int .i64 b0, .int .i64 b1, .string b2, .int .i64 b3, .int .i64 b4, .int .u8 b5, .int .i64 b6, .string b7] 36 (0, 0)) := (Fo.setCell (O := fun k => k = h) (Fo.refl _ w9) (p := ⟨h, i, none⟩) (.inl rfl) v9).heap (fun hk => by have := heap_lt A.out.hh; have := HZ.out; omega) s9
    have R9 := Lib.hid r9; have P9 := Lib.hid p9; have S3 := Lib.hid s9; have S4 := Lib.hid t9
    obtain ⟨a9, q9, hs9⟩ := ownsRow_shape ho9
    clear r9 p9 s9 t9 ho9 hf9 hg9 hl9 o9 k9
    subst hs9
    refine hK.out _ _ S3.out (fun hHeld => ?_)
    clear hK K
    refine wpAnyH_take (i := 8) (oi := _) (v := .pointer (some ⟨h, i, none⟩)) rfl (by kernel_rfl) (by kernel_rfl) (by kernel_rfl) (fun _ _ _ h => h) (Or.inl ⟨by rfl, fun V hV => by go_simp⟩) hHeld ?_
    refine wpAnyH_ready (rs := [9]) (by kernel_rfl) (by simp) ?_
    refine AllReadyH.cons (o := _) rfl (fun K hK => ?_) AllReadyH.nil
    go_simp
    refine hK.out _ _ S4.out (fun hHeld => ?_)
    clear hK K
    refine wpAnyH_done (by kernel_rfl) ?_ _
    clear c9 f9
    go_wp2
    go_ret
    exact ⟨rfl, _, R9.out, P9.out⟩

theorem raddto_any (a : Sp spR w B h V l c) (i : Nat) (hi : i < 3) (hl : (l i).length < 1000000) (e : Ev) :
    Calls Try.prog 12 #[.pointer (some ⟨h, 0, none⟩), .int .i64 i, .agg e.cs] w fun r w' => r = .returned (.int .i64 0) ∧ ∃ V', Sp spR w' B h V' (upd l i (l i ++ [e])) c ∧ Stp (sfoot h V) (sfoot h V') w w' :=
  raddto_core a i hi hl e e.id e.tx e.tr e.tb e.kd e.key e.ow e.t rfl

end Go.Proofs.Ytalplhhmghnggaa
